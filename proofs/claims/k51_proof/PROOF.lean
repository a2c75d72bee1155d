import PyProof.Rows.All
import Wide.All
import OpenK.AllK
import Wide.FinOn
import HandS.ForMost
import HandS.ExcInit
import HandS.Zip
import HandS.TupAny
import HandS.IsInst
import HandS.More
import HandS.Conv
import HandS.Deep
import HandS.Style
import KE.LtData
import HandS.TupLen
import HandS.SetFor
import HandS.Small
import HandS.TupSets
import HandS.Flow
import KE.SortData
import KE.KDictPairs
import PyProof.SetRoads
import PyProof.WalksMore
import HandS.ReCall
import HandS.Strs
import HandS.Defaults
import HandS.Exc
import HandS.ExcOwn
import HandS.CallSlots
import HandS.WordsExc
import HandS.Star
import HandS.ExcField
import HandS.ExcIs
import KE.KExcInit
import HandS.TupMul
import PySem.Challenge.RW_stairlaid_k51_cells_and_spaces_by_hand_a
set_option Elab.async false
set_option linter.all false
set_option maxRecDepth 100000
set_option maxHeartbeats 4000000
/-! Values as trees, lists and dicts at numbers; how they stand for what the layer tracks. -/
namespace Eng
open PySem L2

inductive D where
  | non | bl (b : Bool) | int (i : Int) | str (x : Str) | tup (xs : List D) | kl (xs : List D) | ref (n : Nat) | ty (s : String)
deriving Inhabited

inductive O where
  | lst (xs : List D) | frz (xs : List D) | ftp (xs : List D) | dk (kvs : List (Key × D)) | dt (kvs : List (List Key × D)) | st (ls : List (List Int)) | si (ns : List Int) | xo (k : Nat)
deriving Inhabited

mutual
/-- all places in it are below n -/
def D.under (n : Nat) : D → Bool
  | .ref m => decide (m < n)
  | .tup xs => D.unders n xs
  | .kl xs => D.unders n xs
  | _ => true
def D.unders (n : Nat) : List D → Bool
  | [] => true
  | x :: xs => D.under n x && D.unders n xs
end
def D.underKV {κ : Type} (n : Nat) : List (κ × D) → Bool
  | [] => true
  | (_, v) :: r => D.under n v && D.underKV n r
def O.under (n : Nat) : O → Bool
  | .lst xs => D.unders n xs
  | .frz xs => D.unders n xs
  | .ftp xs => D.unders n xs
  | .dk kvs => D.underKV n kvs
  | .dt kvs => D.underKV n kvs
  | .st _ => true
  | .si _ => true
  | .xo _ => true
/-- the heap: the newest first; nx: the next number; low: from here on objects may hold places above their own -/
structure Hm where
  nx : Nat
  os : List (Nat × O)
  low : Nat

def Hm.find : List (Nat × O) → Nat → Option O
  | [], _ => none
  | (m, o) :: r, n => if m = n then some o else Hm.find r n
def Hm.get (h : Hm) (n : Nat) : Option O := Hm.find h.os n
def Hm.putL : List (Nat × O) → Nat → O → List (Nat × O)
  | [], _, _ => []
  | (m, o) :: r, n, u => if m = n then (m, u) :: r else (m, o) :: Hm.putL r n u
/-- b: what is new in it lies below -/
def Hm.put (h : Hm) (n : Nat) (o : O) (b : Bool) : Hm := ⟨h.nx, Hm.putL h.os n o, if b = true then h.low else min h.low n⟩
def Hm.new (h : Hm) (o : O) : Hm := ⟨h.nx + 1, (h.nx, o) :: h.os, h.low⟩
def Hm.keep (h : Hm) (n0 : Nat) : List (Nat × O) := h.os.filter fun p => decide (p.1 < n0)
def top : Nat := 1000000000

theorem find_put : ∀ (l : List (Nat × O)) (n m : Nat) (u : O), Hm.find (Hm.putL l n u) m = if m = n then (Hm.find l n).map (fun _ => u) else Hm.find l m
  | [], n, m, u => by simp [Hm.putL, Hm.find]
  | (k, o) :: r, n, m, u => by
    have ih := find_put r n m u
    unfold Hm.putL
    by_cases h1 : k = n
    · subst h1
      rw [if_pos rfl]
      by_cases h2 : m = k
      · subst h2
        simp [Hm.find]
      · have h3 : ¬ k = m := fun e => h2 e.symm
        simp [Hm.find, h2, h3]
    · rw [if_neg h1]
      by_cases h2 : m = n
      · subst h2
        rw [if_pos rfl] at ih ⊢
        simp [Hm.find, h1, ih]
      · rw [if_neg h2] at ih ⊢
        simp [Hm.find, ih]
theorem get_put (h : Hm) (n m : Nat) (u : O) (b : Bool) : (h.put n u b).get m = if m = n then (h.get n).map (fun _ => u) else h.get m := find_put h.os n m u
theorem find_keep (n0 : Nat) : ∀ (l : List (Nat × O)) (n : Nat), Hm.find (l.filter fun p => decide (p.1 < n0)) n = if n < n0 then Hm.find l n else none
  | [], n => by simp [Hm.find]
  | (k, o) :: r, n => by
    have ih := find_keep n0 r n
    by_cases h1 : k < n0
    · rw [List.filter_cons_of_pos (by simpa using h1)]
      by_cases h2 : k = n
      · subst h2; simp [Hm.find, h1]
      · simp [Hm.find, h2, ih]
    · rw [List.filter_cons_of_neg (by simpa using h1), ih]
      by_cases h2 : k = n
      · subst h2; simp [h1]
      · simp [Hm.find, h2]
theorem get_new (h : Hm) (o : O) (m : Nat) : (h.new o).get m = if m = h.nx then some o else h.get m := by
  show (if h.nx = m then some o else Hm.find h.os m) = _
  by_cases e : m = h.nx
  · subst e; simp
  · have e' : ¬ h.nx = m := fun z => e z.symm
    rw [if_neg e', if_neg e]; rfl

/-- a tuple made while it runs -/
def LT (_ : PySem.W.Frag) (H : Hp) (a : Addr) (ys : List V) : Prop := H a = some (.tup ys)
/-- a list that is never written: known to the object, or of the written part -/
def FL (K : PySem.W.Frag) (H : Hp) (a : Addr) (ys : List V) : Prop := (∃ ob, H a = some (.frz ob (.lst ys))) ∨ ∃ o its n, K.lookup a = some o ∧ o.cls = .type "list" ∧ o.dict = none ∧ o.data = .seq its n ∧ its.size ≤ sizeLine ∧ Vals ys its.toList
theorem FL.sq {K : PySem.W.Frag} {H : Hp} {a : Addr} {ys : List V} (h : FL K H a ys) : SqL K H a ys := h.elim (fun z => .inl (.inr z)) .inr
theorem LT.sq {K : PySem.W.Frag} {H : Hp} {a : Addr} {ys : List V} (h : LT K H a ys) : SqT K H a ys := SqT.of h
section
variable (K : PySem.W.Frag) (ρ : Nat → Option Addr) (H : Hp)
mutual
/-- the value d stands as v -/
def RV : D → V → Prop
  | .non, v => v = .non
  | .bl b, v => v = .bl b
  | .int i, v => v = .int i
  | .str x, v => v = .str x
  | .ty s, v => v = .ty s
  | .ref n, v => ∃ a, ρ n = some a ∧ v = .ref a
  | .tup xs, v => ∃ a ys, v = .ref a ∧ LT K H a ys ∧ RVs xs ys
  | .kl xs, v => ∃ a ys, v = .ref a ∧ FL K H a ys ∧ RVs xs ys
def RVs : List D → List V → Prop
  | [], ys => ys = []
  | x :: xs, ys => ∃ y r, ys = y :: r ∧ RV x y ∧ RVs xs r
end
end

/-- tuples stay, lists that are never written too -/
structure TX (K : PySem.W.Frag) (H H' : Hp) : Prop where
  lt : ∀ (a : Addr) (ys : List V), LT K H a ys → LT K H' a ys
  fl : ∀ (a : Addr) (ys : List V), FL K H a ys → FL K H' a ys
  ad : ∀ b : Addr, H' b = none → H b = none
theorem upd_ad {H : Hp} {p : Addr} {o : HO} : ∀ b : Addr, upd H p o b = none → H b = none := fun b h => by
  by_cases e : b = p
  · subst e; rw [upd_same] at h; cases h
  · rw [upd_ne e] at h; exact h
instance {K : PySem.W.Frag} {H H' : Hp} : CoeFun (TX K H H') (fun _ => ∀ (a : Addr) (ys : List V), LT K H a ys → LT K H' a ys) := ⟨TX.lt⟩
theorem TX.refl {K : PySem.W.Frag} {H : Hp} : TX K H H := ⟨fun _ _ h => h, fun _ _ h => h, fun _ h => h⟩
theorem TX.trans {K : PySem.W.Frag} {H H1 H2 : Hp} (a : TX K H H1) (b : TX K H1 H2) : TX K H H2 := ⟨fun c ys h => b.lt c ys (a.lt c ys h), fun c ys h => b.fl c ys (a.fl c ys h), fun c h => a.ad c (b.ad c h)⟩
theorem TX.new {K : PySem.W.Frag} {H : Hp} {p : Addr} {o : HO} (h : H p = none) : TX K H (upd H p o) := ⟨fun a ys q => by
  unfold LT at *
  rw [upd_ne (ne_of_none q h)]; exact q, fun a ys q => by
  rcases q with ⟨ob, q⟩ | q
  · exact .inl ⟨ob, by rw [upd_ne (ne_of_none q h)]; exact q⟩
  · exact .inr q, upd_ad⟩
/-- an object that is no tuple is changed -/
def NoT : HO → Prop
  | .tup _ => False
  | .frz _ _ => False
  | _ => True
theorem TX.mut {K : PySem.W.Frag} {H : Hp} {p : Addr} {u o : HO} (h : H p = some u) (n : NoT u) : TX K H (upd H p o) := ⟨fun a ys q => by
  unfold LT at *
  have ne : a ≠ p := fun y => by
    subst y; rw [h] at q; cases q; exact n
  rw [upd_ne ne]; exact q, fun a ys q => by
  rcases q with ⟨ob, q⟩ | q
  · have ne : a ≠ p := fun y => by
      subst y; rw [h] at q; cases q; exact n
    exact .inl ⟨ob, by rw [upd_ne ne]; exact q⟩
  · exact .inr q, upd_ad⟩

section
variable {K : PySem.W.Frag} {ρ ρ' : Nat → Option Addr} {H H' : Hp} {n0 : Nat}
mutual
/-- what stands lies below the numbers that are given -/
theorem RV.under (dom : ∀ n a, ρ n = some a → n < n0) : ∀ (d : D) (v : V), RV K ρ H d v → D.under n0 d = true
  | .non, _, h => rfl
  | .bl _, _, h => rfl
  | .int _, _, h => rfl
  | .str _, _, h => rfl
  | .ty _, _, h => rfl
  | .ref n, v, h => by
    unfold RV at h
    obtain ⟨a, h1, h2⟩ := h
    unfold D.under
    exact decide_eq_true (dom n a h1)
  | .tup xs, v, h => by
    unfold RV at h
    obtain ⟨a, ys, h1, h2, h3⟩ := h
    unfold D.under
    exact RVs.under dom xs ys h3
  | .kl xs, v, h => by
    unfold RV at h
    obtain ⟨a, ys, h1, h2, h3⟩ := h
    unfold D.under
    exact RVs.under dom xs ys h3
theorem RVs.under (dom : ∀ n a, ρ n = some a → n < n0) : ∀ (ds : List D) (vs : List V), RVs K ρ H ds vs → D.unders n0 ds = true
  | [], _, h => rfl
  | d :: ds, vs, h => by
    unfold RVs at h
    obtain ⟨y, r, h1, h2, h3⟩ := h
    unfold D.unders
    rw [RV.under dom d y h2, RVs.under dom ds r h3]; rfl
end
mutual
/-- what lies below is told by the lower places alone -/
theorem RV.cut (e : ∀ n, n < n0 → ρ' n = ρ n) : ∀ (d : D) (v : V), D.under n0 d = true → RV K ρ H d v → RV K ρ' H d v
  | .non, _, _, h => h
  | .bl _, _, _, h => h
  | .int _, _, _, h => h
  | .str _, _, _, h => h
  | .ty _, _, _, h => h
  | .ref n, v, b, h => by
    unfold RV at h ⊢
    obtain ⟨a, h1, h2⟩ := h
    unfold D.under at b
    exact ⟨a, by rw [e n (of_decide_eq_true b)]; exact h1, h2⟩
  | .tup xs, v, b, h => by
    unfold RV at h ⊢
    obtain ⟨a, ys, h1, h2, h3⟩ := h
    unfold D.under at b
    exact ⟨a, ys, h1, h2, RVs.cut e xs ys b h3⟩
  | .kl xs, v, b, h => by
    unfold RV at h ⊢
    obtain ⟨a, ys, h1, h2, h3⟩ := h
    unfold D.under at b
    exact ⟨a, ys, h1, h2, RVs.cut e xs ys b h3⟩
theorem RVs.cut (e : ∀ n, n < n0 → ρ' n = ρ n) : ∀ (ds : List D) (vs : List V), D.unders n0 ds = true → RVs K ρ H ds vs → RVs K ρ' H ds vs
  | [], _, _, h => h
  | d :: ds, vs, b, h => by
    unfold RVs at h ⊢
    obtain ⟨y, r, h1, h2, h3⟩ := h
    unfold D.unders at b
    rw [Bool.and_eq_true] at b
    exact ⟨y, r, h1, RV.cut e d y b.1 h2, RVs.cut e ds r b.2 h3⟩
end
mutual
theorem under_mono {n m : Nat} (h : n ≤ m) : ∀ d : D, D.under n d = true → D.under m d = true
  | .non, _ => rfl
  | .bl _, _ => rfl
  | .int _, _ => rfl
  | .str _, _ => rfl
  | .ty _, _ => rfl
  | .ref k, b => by
    unfold D.under at b ⊢
    exact decide_eq_true (Nat.lt_of_lt_of_le (of_decide_eq_true b) h)
  | .tup xs, b => by
    unfold D.under at b ⊢
    exact unders_mono h xs b
  | .kl xs, b => by
    unfold D.under at b ⊢
    exact unders_mono h xs b
theorem unders_mono {n m : Nat} (h : n ≤ m) : ∀ ds : List D, D.unders n ds = true → D.unders m ds = true
  | [], _ => rfl
  | d :: ds, b => by
    unfold D.unders at b ⊢
    rw [Bool.and_eq_true] at b ⊢
    exact ⟨under_mono h d b.1, unders_mono h ds b.2⟩
end
theorem underKV_mono {κ : Type} {n m : Nat} (h : n ≤ m) : ∀ ds : List (κ × D), D.underKV n ds = true → D.underKV m ds = true
  | [], _ => rfl
  | (k, v) :: ds, b => by
    unfold D.underKV at b ⊢
    rw [Bool.and_eq_true] at b ⊢
    exact ⟨under_mono h v b.1, underKV_mono h ds b.2⟩
theorem O.under_mono {n m : Nat} (h : n ≤ m) (o : O) (b : O.under n o = true) : O.under m o = true := by
  cases o with
  | lst xs => exact unders_mono h xs b
  | frz xs => exact unders_mono h xs b
  | ftp xs => exact unders_mono h xs b
  | dk kvs => exact underKV_mono h kvs b
  | dt kvs => exact underKV_mono h kvs b
  | st ls => rfl
  | si ns => rfl
  | xo k => rfl
mutual
theorem RV.mono (e : ∀ n a, ρ n = some a → ρ' n = some a) (t : TX K H H') : ∀ (d : D) (v : V), RV K ρ H d v → RV K ρ' H' d v
  | .non, _, h => h
  | .bl _, _, h => h
  | .int _, _, h => h
  | .str _, _, h => h
  | .ty _, _, h => h
  | .ref n, v, h => by
    unfold RV at h ⊢
    obtain ⟨a, h1, h2⟩ := h
    exact ⟨a, e n a h1, h2⟩
  | .tup xs, v, h => by
    unfold RV at h ⊢
    obtain ⟨a, ys, h1, h2, h3⟩ := h
    exact ⟨a, ys, h1, t a ys h2, RVs.mono e t xs ys h3⟩
  | .kl xs, v, h => by
    unfold RV at h ⊢
    obtain ⟨a, ys, h1, h2, h3⟩ := h
    exact ⟨a, ys, h1, t.fl a ys h2, RVs.mono e t xs ys h3⟩
theorem RVs.mono (e : ∀ n a, ρ n = some a → ρ' n = some a) (t : TX K H H') : ∀ (ds : List D) (vs : List V), RVs K ρ H ds vs → RVs K ρ' H' ds vs
  | [], _, h => h
  | d :: ds, vs, h => by
    unfold RVs at h ⊢
    obtain ⟨y, r, h1, h2, h3⟩ := h
    exact ⟨y, r, h1, RV.mono e t d y h2, RVs.mono e t ds r h3⟩
end
theorem RVs.nil : RVs K ρ H [] [] := by unfold RVs; rfl
theorem RVs.cons {d : D} {ds : List D} {v : V} {vs : List V} (h : RV K ρ H d v) (t : RVs K ρ H ds vs) : RVs K ρ H (d :: ds) (v :: vs) := by
  unfold RVs; exact ⟨v, vs, rfl, h, t⟩
theorem RVs.length : ∀ {ds : List D} {vs : List V}, RVs K ρ H ds vs → ds.length = vs.length
  | [], vs, h => by unfold RVs at h; subst h; rfl
  | d :: ds, vs, h => by
    unfold RVs at h
    obtain ⟨y, r, rfl, _, t⟩ := h
    rw [List.length_cons, List.length_cons, t.length]
theorem RVs.append : ∀ {ds es : List D} {vs us : List V}, RVs K ρ H ds vs → RVs K ρ H es us → RVs K ρ H (ds ++ es) (vs ++ us)
  | [], es, vs, us, h, t => by unfold RVs at h; subst h; exact t
  | d :: ds, es, vs, us, h, t => by
    unfold RVs at h
    obtain ⟨y, r, rfl, h2, h3⟩ := h
    exact .cons h2 (RVs.append h3 t)
theorem RVs.get : ∀ {ds : List D} {vs : List V} {i : Nat} {d : D}, RVs K ρ H ds vs → ds[i]? = some d → ∃ v, vs[i]? = some v ∧ RV K ρ H d v
  | [], _, _, _, _, e => by simp at e
  | x :: ds, vs, 0, d, h, e => by
    unfold RVs at h
    obtain ⟨y, r, rfl, h2, h3⟩ := h
    simp at e; subst e
    exact ⟨y, rfl, h2⟩
  | x :: ds, vs, i + 1, d, h, e => by
    unfold RVs at h
    obtain ⟨y, r, rfl, h2, h3⟩ := h
    obtain ⟨v, a, b⟩ := RVs.get (i := i) (d := d) h3 (by simpa using e)
    exact ⟨v, by simpa using a, b⟩
theorem RVs.got : ∀ {ds : List D} {vs : List V} {i : Nat} {v : V}, RVs K ρ H ds vs → vs[i]? = some v → ∃ d, ds[i]? = some d ∧ RV K ρ H d v
  | [], vs, i, v, h, e => by unfold RVs at h; subst h; simp at e
  | x :: ds, vs, 0, v, h, e => by
    unfold RVs at h
    obtain ⟨y, r, rfl, h2, h3⟩ := h
    simp at e; subst e
    exact ⟨x, rfl, h2⟩
  | x :: ds, vs, i + 1, v, h, e => by
    unfold RVs at h
    obtain ⟨y, r, rfl, h2, h3⟩ := h
    obtain ⟨d, a, b⟩ := RVs.got (i := i) (v := v) h3 (by simpa using e)
    exact ⟨d, by simpa using a, b⟩
theorem RVs.take : ∀ {ds : List D} {vs : List V} (n : Nat), RVs K ρ H ds vs → RVs K ρ H (ds.take n) (vs.take n)
  | _, _, 0, _ => by simp [RVs]
  | [], vs, n + 1, h => by unfold RVs at h; subst h; simp [RVs]
  | d :: ds, vs, n + 1, h => by
    unfold RVs at h
    obtain ⟨y, r, rfl, h2, h3⟩ := h
    exact .cons h2 (RVs.take n h3)
theorem RVs.drop : ∀ {ds : List D} {vs : List V} (n : Nat), RVs K ρ H ds vs → RVs K ρ H (ds.drop n) (vs.drop n)
  | _, _, 0, h => h
  | [], vs, n + 1, h => by unfold RVs at h; subst h; simp [RVs]
  | d :: ds, vs, n + 1, h => by
    unfold RVs at h
    obtain ⟨y, r, rfl, h2, h3⟩ := h
    exact RVs.drop n h3
theorem RVs.set : ∀ {ds : List D} {vs : List V} {d : D} {v : V} (n : Nat), RVs K ρ H ds vs → RV K ρ H d v → RVs K ρ H (ds.set n d) (vs.set n v)
  | [], vs, d, v, n, h, _ => by unfold RVs at h; subst h; simp [RVs]
  | x :: ds, vs, d, v, 0, h, q => by
    unfold RVs at h
    obtain ⟨y, r, rfl, h2, h3⟩ := h
    exact .cons q h3
  | x :: ds, vs, d, v, n + 1, h, q => by
    unfold RVs at h
    obtain ⟨y, r, rfl, h2, h3⟩ := h
    exact .cons h2 (RVs.set n h3 q)
theorem RVs.reverse : ∀ {ds : List D} {vs : List V}, RVs K ρ H ds vs → RVs K ρ H ds.reverse vs.reverse
  | [], vs, h => by unfold RVs at h; subst h; simp [RVs]
  | d :: ds, vs, h => by
    unfold RVs at h
    obtain ⟨y, r, rfl, h2, h3⟩ := h
    rw [List.reverse_cons, List.reverse_cons]
    exact (RVs.reverse h3).append (.cons h2 .nil)
theorem RVs.dropLast {ds : List D} {vs : List V} (h : RVs K ρ H ds vs) : RVs K ρ H ds.dropLast vs.dropLast := by
  rw [List.dropLast_eq_take, List.dropLast_eq_take, h.length]
  exact h.take _
/-- ints -/
theorem RVs.ints : ∀ {ns : List Int} {vs : List V}, RVs K ρ H (ns.map D.int) vs → vs = ns.map V.int
  | [], vs, h => by simpa [RVs] using h
  | n :: ns, vs, h => by
    rw [List.map_cons] at h
    unfold RVs at h
    obtain ⟨y, r, rfl, h2, h3⟩ := h
    unfold RV at h2
    rw [h2, RVs.ints h3]; rfl
theorem RVs.of_ints : ∀ (ns : List Int), RVs K ρ H (ns.map D.int) (ns.map V.int)
  | [] => .nil
  | n :: ns => .cons (by unfold RV; rfl) (RVs.of_ints ns)
theorem RVs.bls : ∀ {ns : List Bool} {vs : List V}, RVs K ρ H (ns.map D.bl) vs → vs = ns.map V.bl
  | [], vs, h => by simpa [RVs] using h
  | n :: ns, vs, h => by
    rw [List.map_cons] at h
    unfold RVs at h
    obtain ⟨y, r, rfl, h2, h3⟩ := h
    unfold RV at h2
    rw [h2, RVs.bls h3]; rfl
end
end Eng
set_option maxRecDepth 100000
set_option maxHeartbeats 4000000
/-! The relation of the heaps, readings by functions, and the rules of names, operators, calls of built-ins. -/
namespace Eng
open PySem L2

/-- what the objects stand by: K the written part; SO, SI: sets of tuples of ints, of ints -/
structure Gd where
  K : PySem.W.Frag
  SO : Addr → List (Addr × List Int) → HO
  SI : Addr → List Int → HO
  so : ∀ a L, NoT (SO a L) ∧ Mut (some (SO a L))
  si : ∀ a L, NoT (SI a L) ∧ Mut (some (SI a L))
  pins : List (Nat × Addr)
  xc : Nat → Addr

def keyD : Key → D
  | .inl i => .int i
  | .inr x => .str x
def tupI (ns : List Int) : D := .tup (ns.map D.int)

section
variable (G : Gd) (ρ : Nat → Option Addr) (H : Hp)
def RK {κ : Type} : List (κ × D) → List (κ × V) → Prop := Paired fun (p : κ × D) (q : κ × V) => p.1 = q.1 ∧ RV G.K ρ H p.2 q.2
/-- the object o stands at a -/
def RO (a : Addr) : O → Prop
  | .lst xs => ∃ ys, H a = some (.lst ys) ∧ RVs G.K ρ H xs ys
  | .frz xs => ∃ ob ys, H a = some (.frz ob (.lst ys)) ∧ RVs G.K ρ H xs ys
  | .ftp xs => ∃ ob ys, (H a = some (.frz ob (.tup ys)) ∧ ob.dict = none) ∧ RVs G.K ρ H xs ys
  | .dk kvs => ∃ ks, H a = some (.dK ks) ∧ RK G ρ H kvs ks
  | .dt kvs => ∃ ks, H a = some (.dT ks) ∧ RK G ρ H kvs ks
  | .st ls => ∃ L, H a = some (G.SO a L) ∧ (∀ p ∈ L, LT G.K H p.1 (p.2.map V.int)) ∧ ls.Perm (L.map (·.2)) ∧ ls.Nodup
  | .si ns => ∃ ms, H a = some (G.SI a ms) ∧ ns.Perm ms ∧ ns.Nodup
  | .xo k => H a = some (exo a (G.xc k) none)
/-- the heap stands -/
structure RH (hm : Hm) : Prop where
  obj : ∀ n o, hm.get n = some o → ∃ a, ρ n = some a ∧ RO G ρ H a o
  inj : ∀ m n a, (hm.get m).isSome = true → (hm.get n).isSome = true → ρ m = some a → ρ n = some a → m = n
  dom : ∀ n a, ρ n = some a → n < hm.nx
  dn : ∀ n o, hm.get n = some o → n < hm.low → O.under (n + 1) o = true
  base : ∀ p ∈ G.pins, ρ p.1 = some p.2
end
abbrev Env := List (Option D)
/-- slots stand -/
def REnv (K : PySem.W.Frag) (ρ : Nat → Option Addr) (H : Hp) (env : Env) (σ : St) : Prop := ∀ (i : Nat) (d : D), env[i]? = some (some d) → ∃ v : V, σ[i]? = some (some v) ∧ RV K ρ H d v
structure RS (G : Gd) (ρ : Nat → Option Addr) (env : Env) (hm : Hm) (σ : St) (H : Hp) : Prop where
  rh : RH G ρ H hm
  re : REnv G.K ρ H env σ
  len : env.length = σ.length

/-- from one state to a later one -/
structure Le (K : PySem.W.Frag) (ρ : Nat → Option Addr) (H : Hp) (hm : Hm) (ρ' : Nat → Option Addr) (H' : Hp) (hm' : Hm) : Prop where
  nx : hm.nx ≤ hm'.nx
  same : ∀ n, n < hm.nx → ρ' n = ρ n
  tx : TX K H H'
section
variable {G : Gd} {K : PySem.W.Frag} {ρ ρ1 ρ2 : Nat → Option Addr} {H H1 H2 : Hp} {hm hm1 hm2 : Hm} {env : Env} {σ : St}
theorem Le.refl : Le K ρ H hm ρ H hm := ⟨Nat.le_refl _, fun _ _ => rfl, TX.refl⟩
theorem Le.trans (a : Le K ρ H hm ρ1 H1 hm1) (b : Le K ρ1 H1 hm1 ρ2 H2 hm2) : Le K ρ H hm ρ2 H2 hm2 :=
  ⟨Nat.le_trans a.nx b.nx, fun n h => (b.same n (Nat.lt_of_lt_of_le h a.nx)).trans (a.same n h), a.tx.trans b.tx⟩
theorem Le.up (a : Le K ρ H hm ρ1 H1 hm1) (d : ∀ n a, ρ n = some a → n < hm.nx) : ∀ n b, ρ n = some b → ρ1 n = some b := fun n b h => by rw [a.same n (d n b h)]; exact h
theorem Le.rv (a : Le G.K ρ H hm ρ1 H1 hm1) (r : RH G ρ H hm) {d : D} {v : V} (h : RV G.K ρ H d v) : RV G.K ρ1 H1 d v := RV.mono (a.up r.dom) a.tx d v h
theorem Le.rvs (a : Le G.K ρ H hm ρ1 H1 hm1) (r : RH G ρ H hm) {d : List D} {v : List V} (h : RVs G.K ρ H d v) : RVs G.K ρ1 H1 d v := RVs.mono (a.up r.dom) a.tx d v h
theorem Le.renv (a : Le G.K ρ H hm ρ1 H1 hm1) (r : RH G ρ H hm) (h : REnv G.K ρ H env σ) : REnv G.K ρ1 H1 env σ := fun i d e => by
  obtain ⟨v, e1, e2⟩ := h i d e
  exact ⟨v, e1, a.rv r e2⟩
theorem Le.rs (a : Le G.K ρ H hm ρ1 H1 hm1) (r : RS G ρ env hm σ H) (r1 : RH G ρ1 H1 hm1) : RS G ρ1 env hm1 σ H1 := ⟨r1, a.renv r.rh r.re, r.len⟩
end

/-! ### computations -/
abbrev M (α : Type) := Hm → Option (α × Hm)
def ret {α : Type} (a : α) : M α := fun h => some (a, h)
def fail {α : Type} : M α := fun _ => none
def bnd {α β : Type} (m : M α) (k : α → M β) : M β := fun h => match m h with
  | some (a, h') => k a h'
  | none => none
theorem bnd_some {α β : Type} {m : M α} {k : α → M β} {h : Hm} {r : β × Hm} (e : bnd m k h = some r) : ∃ a h', m h = some (a, h') ∧ k a h' = some r := by
  unfold bnd at e
  split at e
  · rename_i a h' q
    exact ⟨a, h', q, e⟩
  · cases e
def asInt : D → Option Int
  | .int i => some i
  | _ => none

/-- what is wanted behind: the value d, the heap hm' -/
def Aft (G : Gd) (ρ : Nat → Option Addr) (H : Hp) (hm : Hm) (d : D) (hm' : Hm) (Q : VK) : Prop :=
  ∀ ρ' v H', Le G.K ρ H hm ρ' H' hm' → RH G ρ' H' hm' → RV G.K ρ' H' d v → Q v H'
/-- an expression's reading by a function -/
def tE (G : Gd) (f : Env → M D) : TE := fun σ H Q => ∃ ρ env hm d hm', RS G ρ env hm σ H ∧ f env hm = some (d, hm') ∧ Aft G ρ H hm d hm' Q
/-- a list of expressions' -/
def AftA (G : Gd) (ρ : Nat → Option Addr) (H : Hp) (hm : Hm) (ds : List D) (hm' : Hm) (Q : List V → Hp → Prop) : Prop :=
  ∀ ρ' vs H', Le G.K ρ H hm ρ' H' hm' → RH G ρ' H' hm' → RVs G.K ρ' H' ds vs → Q vs H'
def tA (G : Gd) (f : Env → M (List D)) : TA := fun σ H Q => ∃ ρ env hm ds hm', RS G ρ env hm σ H ∧ f env hm = some (ds, hm') ∧ AftA G ρ H hm ds hm' Q
/-- a test's -/
def AftT (G : Gd) (ρ : Nat → Option Addr) (H : Hp) (hm : Hm) (b : Bool) (hm' : Hm) (Q : Bool → Hp → Prop) : Prop :=
  ∀ ρ' H', Le G.K ρ H hm ρ' H' hm' → RH G ρ' H' hm' → Q b H'
def tT (G : Gd) (f : Env → M Bool) : TT := fun σ H Q => ∃ ρ env hm b hm', RS G ρ env hm σ H ∧ f env hm = some (b, hm') ∧ AftT G ρ H hm b hm' Q

section
variable {X : Cx} {G : Gd}
theorem PE.imp {e : Expr} {t t' : TE} (h : PE X e t) (i : ∀ σ H Q, t' σ H Q → t σ H Q) : PE X e t' := ⟨fun pins s σ H Q I q => h.run pins s σ H Q I (i σ H Q q)⟩
theorem PT.imp {e : Expr} {t t' : TT} (h : PT X e t) (i : ∀ σ H Q, t' σ H Q → t σ H Q) : PT X e t' := ⟨fun pins s σ H Q I q => h.run pins s σ H Q I (i σ H Q q)⟩
theorem PA.imp {es : List Expr} {t t' : TA} (h : PA X es t) (i : ∀ σ H Q, t' σ H Q → t σ H Q) : PA X es t' := ⟨fun pos pins s σ H Q I q => h.run pos pins s σ H Q I (i σ H Q q)⟩
theorem PS.imp {e : Stmt} {t t' : TS} (h : PS X e t) (i : ∀ D σ H, t' D σ H → t D σ H) : PS X e t' := ⟨fun pins s σ H D I q => h.run pins s σ H D I (i D σ H q)⟩
theorem PSs.imp {e : List Stmt} {t t' : TS} (h : PSs X e t) (i : ∀ D σ H, t' D σ H → t D σ H) : PSs X e t' := ⟨fun pins s σ H D I q => h.run pins s σ H D I (i D σ H q)⟩

/-! ### names and constants -/
def fVar (i : Nat) : Env → M D := fun env hm => match env[i]? with
  | some (some d) => some (d, hm)
  | _ => none
def fC (d : D) : Env → M D := fun _ hm => some (d, hm)
theorem e_var {i : Nat} {x : Str} {pos : Pos} (h : PE X (.Name x pos) (tVar i)) : PE X (.Name x pos) (tE G (fVar i)) := by
  refine PE.imp h fun σ H Q ⟨ρ, env, hm, d, hm', r, e, q⟩ => ?_
  unfold fVar at e
  split at e
  · rename_i d' he
    cases e
    obtain ⟨v, h1, h2⟩ := r.re i _ he
    exact ⟨v, h1, q ρ v H Le.refl r.rh h2⟩
  · cases e
/-- a value without places -/
def flatD : D → V → Prop
  | .non, v => v = .non
  | .bl b, v => v = .bl b
  | .int i, v => v = .int i
  | .str x, v => v = .str x
  | .ty s, v => v = .ty s
  | _, _ => False
theorem flatD.rv {K : PySem.W.Frag} {ρ : Nat → Option Addr} {H : Hp} {d : D} {v : V} (h : flatD d v) : RV K ρ H d v := by
  cases d <;> first | (unfold RV; exact h) | exact h.elim
theorem e_c {e : Expr} {v : V} {d : D} (h : PE X e (tC v)) (f : flatD d v) : PE X e (tE G (fC d)) := by
  refine PE.imp h fun σ H Q ⟨ρ, env, hm, d', hm', r, e, q⟩ => ?_
  cases e
  exact q ρ v H Le.refl r.rh f.rv
theorem e_int {i : Int} {j pos} : PE X (.Constant (.int i) j pos) (tE G (fC (.int i))) := e_c pe_int rfl
theorem e_bl {b : Bool} {j pos} : PE X (.Constant (.bool b) j pos) (tE G (fC (.bl b))) := e_c pe_bl rfl
theorem e_non {j pos} : PE X (.Constant .none j pos) (tE G (fC .non)) := e_c pe_non rfl
theorem e_str {x : Str} {j pos} : PE X (.Constant (.str x) j pos) (tE G (fC (.str x))) := e_c pe_str rfl

/-! ### two in a row -/
def OpS (G : Gd) (r : R2) (g : D → D → M D) : Prop := ∀ ρ hm H x y v u d hm' Q, RH G ρ H hm → RV G.K ρ H x v → RV G.K ρ H y u → g x y hm = some (d, hm') → Aft G ρ H hm d hm' Q → r v u H Q
def fOp (g : D → D → M D) (fa fb : Env → M D) : Env → M D := fun env => bnd (fa env) fun x => bnd (fb env) fun y => g x y
theorem two_run {fa fb : Env → M D} {g : D → D → M D} {r : R2} (s : OpS G r g) {σ : St} {H : Hp} {Q : VK} (h : tE G (fOp g fa fb) σ H Q) : tOp r (tE G fa) (tE G fb) σ H Q := by
  obtain ⟨ρ, env, hm, d, hm', rs, e, q⟩ := h
  obtain ⟨x, h1, e1, e⟩ := bnd_some e
  obtain ⟨y, h2, e2, e⟩ := bnd_some e
  refine ⟨ρ, env, hm, x, h1, rs, e1, fun ρ1 v1 H1 l1 r1 v => ?_⟩
  refine ⟨ρ1, env, h1, y, h2, l1.rs rs r1, e2, fun ρ2 v2 H2 l2 r2 u => ?_⟩
  exact s ρ2 h2 H2 x y v1 v2 d hm' Q r2 (l2.rv r1 v) u e fun ρ3 w H3 l3 r3 z => q ρ3 w H3 (l1.trans (l2.trans l3)) r3 z
theorem e_op {op : Operator} {r : R2} {g : D → D → M D} {a b : Expr} {fa fb : Env → M D} {pos : Pos} (ho : OpR X (binaryOp op) r) (s : OpS G r g) (ha : PE X a (tE G fa)) (hb : PE X b (tE G fb)) : PE X (.BinOp a op b pos) (tE G (fOp g fa fb)) :=
  PE.imp (pe_op ho ha hb) fun _ _ _ h => two_run s h
theorem e_cmp {op : CmpOp} {r : R2} {g : D → D → M D} {a b : Expr} {fa fb : Env → M D} {pos : Pos} (ho : OpR X (compareOp op) r) (s : OpS G r g) (ha : PE X a (tE G fa)) (hb : PE X b (tE G fb)) (hm : behindInMarks op b = false) :
    PE X (.Compare a [op] [b] pos) (tE G (fOp g fa fb)) := PE.imp (pe_cmpR ho ha hb hm) fun _ _ _ h => two_run s h
/-- a bool as a test -/
def isB : D → M Bool := fun d hm => match d with
  | .bl b => some (b, hm)
  | _ => none
def fTest (f : Env → M D) : Env → M Bool := fun env => bnd (f env) isB
theorem isB_some {d : D} {hm hm' : Hm} {b : Bool} (e : isB d hm = some (b, hm')) : d = .bl b ∧ hm = hm' := by
  unfold isB at e
  split at e
  · cases e; exact ⟨rfl, rfl⟩
  · cases e
theorem test_run {f : Env → M D} {σ : St} {H : Hp} {Q : Bool → Hp → Prop} (h : tT G (fTest f) σ H Q) : tTest (tE G f) σ H Q := by
  obtain ⟨ρ, env, hm, b, hm', rs, e, q⟩ := h
  obtain ⟨d, h1, e1, e⟩ := bnd_some e
  obtain ⟨rfl, rfl⟩ := isB_some e
  refine ⟨ρ, env, hm, .bl b, h1, rs, e1, fun ρ1 v1 H1 l1 r1 v => ?_⟩
  unfold RV at v
  exact ⟨b, v, q ρ1 H1 l1 r1⟩
theorem t_cmp {op : CmpOp} {r : R2} {g : D → D → M D} {a b : Expr} {fa fb : Env → M D} {pos : Pos} (ho : OpR X (compareOp op) r) (s : OpS G r g) (ha : PE X a (tE G fa)) (hb : PE X b (tE G fb)) (hm : behindInMarks op b = false) :
    PT X (.Compare a [op] [b] pos) (tT G (fTest (fOp g fa fb))) := PT.imp (pt_cmpR ho ha hb hm) fun σ H Q h => by
  have z := test_run h
  exact two_run s z
/-- any expression as a test, by its truth -/
theorem t_val {e : Expr} {f : Env → M D} (h : PE X e (tE G f)) (he : ∀ whole, isTrue e X.env whole = (do let v ← whole; standAt e.pos; holding [v] (truthy v)) := by intro _; rfl) : PT X e (tT G (fTest f)) :=
  PT.imp (pt_val h he) fun σ H Q q => test_run q

/-! ### one operand -/
def UnS (G : Gd) (r : V → Hp → VK → Prop) (g : D → M D) : Prop := ∀ ρ hm H x v d hm' Q, RH G ρ H hm → RV G.K ρ H x v → g x hm = some (d, hm') → Aft G ρ H hm d hm' Q → r v H Q
def fUn (g : D → M D) (fa : Env → M D) : Env → M D := fun env => bnd (fa env) g
theorem one_run {fa : Env → M D} {g : D → M D} {r : V → Hp → VK → Prop} (s : UnS G r g) {σ : St} {H : Hp} {Q : VK} (h : tE G (fUn g fa) σ H Q) : tUn r (tE G fa) σ H Q := by
  obtain ⟨ρ, env, hm, d, hm', rs, e, q⟩ := h
  obtain ⟨x, h1, e1, e⟩ := bnd_some e
  refine ⟨ρ, env, hm, x, h1, rs, e1, fun ρ1 v1 H1 l1 r1 v => ?_⟩
  exact s ρ1 h1 H1 x v1 d hm' Q r1 v e fun ρ3 w H3 l3 r3 z => q ρ3 w H3 (l1.trans l3) r3 z
theorem e_un {op : UnaryOp} {r : V → Hp → VK → Prop} {g : D → M D} {a : Expr} {fa : Env → M D} {pos : Pos} (ho : UnR X (unaryOp op) r) (s : UnS G r g) (ha : PE X a (tE G fa)) : PE X (.UnaryOp op a pos) (tE G (fUn g fa)) :=
  PE.imp (pe_un ho ha) fun _ _ _ h => one_run s h

/-! ### argument lists, calls of what is built in -/
def fNil : Env → M (List D) := fun _ => ret []
def fCons (f : Env → M D) (g : Env → M (List D)) : Env → M (List D) := fun env => bnd (f env) fun x => bnd (g env) fun xs => ret (x :: xs)
theorem a_nil : PA X [] (tA G fNil) := PA.imp pa_nil fun σ H Q ⟨ρ, env, hm, ds, hm', rs, e, q⟩ => by
  cases e
  exact q ρ [] H Le.refl rs.rh .nil
theorem a_cons {e : Expr} {es : List Expr} {f : Env → M D} {g : Env → M (List D)} (ha : PE X e (tE G f)) (hr : PA X es (tA G g)) (hs : starEach (e :: es) X.env = (false, eval e X.env) :: starEach es X.env := by rfl) : PA X (e :: es) (tA G (fCons f g)) :=
  PA.imp (pa_cons ha hr hs) fun σ H Q ⟨ρ, env, hm, ds, hm', rs, e, q⟩ => by
    obtain ⟨x, h1, e1, e⟩ := bnd_some e
    obtain ⟨xs, h2, e2, e⟩ := bnd_some e
    cases e
    refine ⟨ρ, env, hm, x, h1, rs, e1, fun ρ1 v1 H1 l1 r1 v => ?_⟩
    refine ⟨ρ1, env, h1, xs, _, l1.rs rs r1, e2, fun ρ2 vs H2 l2 r2 u => ?_⟩
    exact q ρ2 (v1 :: vs) H2 (l1.trans l2) r2 (.cons (l2.rv r1 v) u)
def CallS (G : Gd) (r : List V → Hp → VK → Prop) (g : List D → M D) : Prop := ∀ ρ hm H xs vs d hm' Q, RH G ρ H hm → RVs G.K ρ H xs vs → g xs hm = some (d, hm') → Aft G ρ H hm d hm' Q → r vs H Q
def fCall (g : List D → M D) (fa : Env → M (List D)) : Env → M D := fun env => bnd (fa env) g
theorem args_run {fa : Env → M (List D)} {g : List D → M D} {r : List V → Hp → VK → Prop} (s : CallS G r g) {σ : St} {H : Hp} {Q : VK} (h : tE G (fCall g fa) σ H Q) : tCB r (tA G fa) σ H Q := by
  obtain ⟨ρ, env, hm, d, hm', rs, e, q⟩ := h
  obtain ⟨x, h1, e1, e⟩ := bnd_some e
  refine ⟨ρ, env, hm, x, h1, rs, e1, fun ρ1 v1 H1 l1 r1 v => ?_⟩
  exact s ρ1 h1 H1 x v1 d hm' Q r1 v e fun ρ3 w H3 l3 r3 z => q ρ3 w H3 (l1.trans l3) r3 z
theorem e_callB {x : Str} {id : String} {p pos : Pos} {e : Expr} {es : List Expr} {r : List V → Hp → VK → Prop} {g : List D → M D} {fa : Env → M (List D)} (hc : CallR X (.builtin id) r) (s : CallS G r g) (hg : Gl X x) (hm : X.mg x = none) (hv : bootBuiltins x = some (.builtin id)) (ha : PA X (e :: es) (tA G fa))
    (hn : x ≠ "__name__" := by decide) (hdb : (x == ("__debug__" : Str)) = false := by decide) (he : starEach (e :: es) X.env = (false, eval e X.env) :: starEach es X.env := by rfl) (hpl : (backTo pos (starEach es X.env)).any (·.1) = false := by rfl) :
    PE X (.Call (.Name x p) (e :: es) [] pos) (tE G (fCall g fa)) := PE.imp (pe_callB hc hg hm hv ha hn hdb he hpl) fun _ _ _ h => args_run s h
theorem e_callTy {x : Str} {T : String} {p pos : Pos} {e : Expr} {es : List Expr} {r : List V → Hp → VK → Prop} {g : List D → M D} {fa : Env → M (List D)} (hc : CallR X (.type T) r) (s : CallS G r g) (hg : Gl X x) (hm : X.mg x = none) (hv : bootBuiltins x = some (.type T)) (ha : PA X (e :: es) (tA G fa))
    (hn : x ≠ "__name__" := by decide) (hdb : (x == ("__debug__" : Str)) = false := by decide) (he : starEach (e :: es) X.env = (false, eval e X.env) :: starEach es X.env := by rfl) (hpl : (backTo pos (starEach es X.env)).any (·.1) = false := by rfl) :
    PE X (.Call (.Name x p) (e :: es) [] pos) (tE G (fCall g fa)) := PE.imp (pe_callTy hc hg hm hv ha hn hdb he hpl) fun _ _ _ h => args_run s h
end
end Eng
set_option maxRecDepth 100000
set_option maxHeartbeats 4000000
/-! Statements, targets, loops, list comprehensions. -/
namespace Eng
open PySem L2

inductive Fl where
  | nx (env : Env) | rt (d : D) | bk (env : Env) | ct (env : Env)

def AftN (G : Gd) (ρ : Nat → Option Addr) (H : Hp) (hm : Hm) (env' : Env) (hm' : Hm) (N : St → Hp → Prop) : Prop :=
  ∀ ρ' σ' H', Le G.K ρ H hm ρ' H' hm' → RS G ρ' env' hm' σ' H' → N σ' H'
def AftS (G : Gd) (ρ : Nat → Option Addr) (H : Hp) (hm : Hm) (fl : Fl) (hm' : Hm) (D : Ends) : Prop := match fl with
  | .nx env' => AftN G ρ H hm env' hm' D.nx
  | .bk env' => AftN G ρ H hm env' hm' D.bk
  | .ct env' => AftN G ρ H hm env' hm' D.ct
  | .rt d => Aft G ρ H hm d hm' D.rt
def tS (G : Gd) (f : Env → M Fl) : TS := fun D σ H => ∃ ρ env hm fl hm', RS G ρ env hm σ H ∧ f env hm = some (fl, hm') ∧ AftS G ρ H hm fl hm' D

section
variable {G : Gd} {ρ ρ1 : Nat → Option Addr} {H H1 : Hp} {hm hm1 hm' : Hm} {D D' : Ends}
theorem AftN.le {env' : Env} {N : St → Hp → Prop} (a : AftN G ρ H hm env' hm' N) (l : Le G.K ρ H hm ρ1 H1 hm1) : AftN G ρ1 H1 hm1 env' hm' N := fun ρ' σ' H' l' r => a ρ' σ' H' (l.trans l') r
theorem Aft.le {d : Eng.D} {Q : VK} (a : Aft G ρ H hm d hm' Q) (l : Le G.K ρ H hm ρ1 H1 hm1) : Aft G ρ1 H1 hm1 d hm' Q := fun ρ' v H' l' r q => a ρ' v H' (l.trans l') r q
theorem AftS.le {fl : Fl} (a : AftS G ρ H hm fl hm' D) (l : Le G.K ρ H hm ρ1 H1 hm1) : AftS G ρ1 H1 hm1 fl hm' D := by
  cases fl with
  | nx e => exact AftN.le a l
  | bk e => exact AftN.le a l
  | ct e => exact AftN.le a l
  | rt d => exact Aft.le a l
end

section
variable {X : Cx} {G : Gd}
/-! ### blocks -/
def fSkip : Env → M Fl := fun env => ret (.nx env)
def goOn (g : Env → M Fl) : Fl → M Fl
  | .nx e => g e
  | o => ret o
def fSeq (f g : Env → M Fl) : Env → M Fl := fun env => bnd (f env) (goOn g)
theorem ss_nil : PSs X [] (tS G fSkip) := PSs.imp pss_nil fun D σ H ⟨ρ, env, hm, fl, hm', rs, e, q⟩ => by
  cases e
  exact q ρ σ H Le.refl rs
theorem seq_run {f g : Env → M Fl} {D : Ends} {σ : St} {H : Hp} (h : tS G (fSeq f g) D σ H) : tSeq (tS G f) (tS G g) D σ H := by
  obtain ⟨ρ, env, hm, fl, hm', rs, e, q⟩ := h
  obtain ⟨fl1, h1, e1, e⟩ := bnd_some e
  refine ⟨ρ, env, hm, fl1, h1, rs, e1, ?_⟩
  cases fl1 with
  | nx e' => exact fun ρ1 σ1 H1 l1 r1 => ⟨ρ1, e', h1, fl, hm', r1, e, q.le l1⟩
  | bk e' => cases e; exact q
  | ct e' => cases e; exact q
  | rt d => cases e; exact q
theorem ss_cons {st : Stmt} {rest : List Stmt} {f g : Env → M Fl} (h1 : PS X st (tS G f)) (h2 : PSs X rest (tS G g)) : PSs X (st :: rest) (tS G (fSeq f g)) := PSs.imp (pss_cons h1 h2) fun _ _ _ h => seq_run h
theorem ss_one {st : Stmt} {f : Env → M Fl} (h1 : PS X st (tS G f)) : PSs X [st] (tS G f) := pss_one h1

/-! ### small statements -/
def fRet (f : Env → M D) : Env → M Fl := fun env => bnd (f env) fun d => ret (.rt d)
theorem s_ret {e : Expr} {f : Env → M D} {pos : Pos} (h : PE X e (tE G f)) : PS X (.Return (some e) pos) (tS G (fRet f)) := PS.imp (ps_ret h) fun D σ H ⟨ρ, env, hm, fl, hm', rs, e, q⟩ => by
  obtain ⟨d, h1, e1, e⟩ := bnd_some e
  cases e
  exact ⟨ρ, env, hm, d, _, rs, e1, q⟩
def fRetN : Env → M Fl := fun _ => ret (.rt .non)
theorem s_retN {pos : Pos} : PS X (.Return none pos) (tS G fRetN) := PS.imp ps_retN fun D σ H ⟨ρ, env, hm, fl, hm', rs, e, q⟩ => by
  cases e
  exact q ρ .non H Le.refl rs.rh (by unfold RV; rfl)
def fExpr (f : Env → M D) : Env → M Fl := fun env => bnd (f env) fun _ => ret (.nx env)
theorem s_expr {e : Expr} {f : Env → M D} {pos : Pos} (h : PE X e (tE G f)) (hs : swapsWith e none pos.line X.env = pure false := by rfl) : PS X (.Expr e pos) (tS G (fExpr f)) := PS.imp (ps_expr h hs) fun D σ H ⟨ρ, env, hm, fl, hm', rs, e, q⟩ => by
  obtain ⟨d, h1, e1, e⟩ := bnd_some e
  cases e
  exact ⟨ρ, env, hm, d, _, rs, e1, fun ρ' v H' l r _ => q ρ' σ H' l (l.rs rs r)⟩
def fBreak : Env → M Fl := fun env => ret (.bk env)
def fCont : Env → M Fl := fun env => ret (.ct env)
theorem s_break {pos : Pos} : PS X (.Break pos) (tS G fBreak) := PS.imp ps_break fun D σ H ⟨ρ, env, hm, fl, hm', rs, e, q⟩ => by
  cases e; exact q ρ σ H Le.refl rs
theorem s_cont {pos : Pos} : PS X (.Continue pos) (tS G fCont) := PS.imp ps_continue fun D σ H ⟨ρ, env, hm, fl, hm', rs, e, q⟩ => by
  cases e; exact q ρ σ H Le.refl rs
theorem s_pass {pos : Pos} : PS X (.Pass pos) (tS G fSkip) := PS.imp ps_pass fun D σ H ⟨ρ, env, hm, fl, hm', rs, e, q⟩ => by
  cases e; exact q ρ σ H Le.refl rs
/-- what is never come to -/
def fNever : Env → M Fl := fun _ => fail
theorem s_never {st : Stmt} : PS X st (tS G fNever) := PS.imp ps_never fun D σ H ⟨ρ, env, hm, fl, hm', rs, e, q⟩ => by cases e
def fIf (c : Env → M Bool) (f g : Env → M Fl) : Env → M Fl := fun env => bnd (c env) fun b => if b = true then f env else g env
theorem s_if {c : Expr} {a b : List Stmt} {fc : Env → M Bool} {f g : Env → M Fl} {pos : Pos} (hc : PT X c (tT G fc)) (ha : PSs X a (tS G f)) (hb : PSs X b (tS G g)) : PS X (.If c a b pos) (tS G (fIf fc f g)) := PS.imp (ps_if hc ha hb) fun D σ H ⟨ρ, env, hm, fl, hm', rs, e, q⟩ => by
  obtain ⟨t, h1, e1, e⟩ := bnd_some e
  refine ⟨ρ, env, hm, t, h1, rs, e1, fun ρ1 H1 l1 r1 => ?_⟩
  cases t with
  | true => rw [if_pos rfl] at e ⊢; exact ⟨ρ1, env, h1, fl, hm', l1.rs rs r1, e, q.le l1⟩
  | false => rw [if_neg Bool.false_ne_true] at e ⊢; exact ⟨ρ1, env, h1, fl, hm', l1.rs rs r1, e, q.le l1⟩

/-! ### tests joined -/
def fAnd (f g : Env → M Bool) : Env → M Bool := fun env => bnd (f env) fun b => if b = true then g env else ret false
def fOr (f g : Env → M Bool) : Env → M Bool := fun env => bnd (f env) fun b => if b = true then ret true else g env
def fNot (f : Env → M Bool) : Env → M Bool := fun env => bnd (f env) fun b => ret (!b)
theorem and_run {f g : Env → M Bool} {σ : St} {H : Hp} {Q : Bool → Hp → Prop} (h : tT G (fAnd f g) σ H Q) : tAnd (tT G f) (tT G g) σ H Q := by
  obtain ⟨ρ, env, hm, b, hm', rs, e, q⟩ := h
  obtain ⟨t, h1, e1, e⟩ := bnd_some e
  refine ⟨ρ, env, hm, t, h1, rs, e1, fun ρ1 H1 l1 r1 => ?_⟩
  cases t with
  | true => rw [if_pos rfl] at e ⊢; exact ⟨ρ1, env, h1, b, hm', l1.rs rs r1, e, fun ρ2 H2 l2 r2 => q ρ2 H2 (l1.trans l2) r2⟩
  | false => rw [if_neg Bool.false_ne_true] at e ⊢; cases e; exact q ρ1 H1 l1 r1
theorem or_run {f g : Env → M Bool} {σ : St} {H : Hp} {Q : Bool → Hp → Prop} (h : tT G (fOr f g) σ H Q) : tOr (tT G f) (tT G g) σ H Q := by
  obtain ⟨ρ, env, hm, b, hm', rs, e, q⟩ := h
  obtain ⟨t, h1, e1, e⟩ := bnd_some e
  refine ⟨ρ, env, hm, t, h1, rs, e1, fun ρ1 H1 l1 r1 => ?_⟩
  cases t with
  | false => rw [if_neg Bool.false_ne_true] at e ⊢; exact ⟨ρ1, env, h1, b, hm', l1.rs rs r1, e, fun ρ2 H2 l2 r2 => q ρ2 H2 (l1.trans l2) r2⟩
  | true => rw [if_pos rfl] at e ⊢; cases e; exact q ρ1 H1 l1 r1
theorem PW.imp {e : Expr} {t t' : TT} (h : PW X e t) (i : ∀ σ H Q, t' σ H Q → t σ H Q) : PW X e t' := ⟨fun wh pins s σ H Q I q => h.run wh pins s σ H Q I (i σ H Q q)⟩
theorem w_and1 {a : Expr} {f : Env → M Bool} {pos : Pos} (ha : PT X a (tT G f)) : PW X (.BoolOp .And [a] pos) (tT G f) := pw_and1 ha
theorem w_or1 {a : Expr} {f : Env → M Bool} {pos : Pos} (ha : PT X a (tT G f)) : PW X (.BoolOp .Or [a] pos) (tT G f) := pw_or1 ha
theorem w_and {a b : Expr} {rest : List Expr} {f g : Env → M Bool} {pos : Pos} (ha : PT X a (tT G f)) (hb : PW X (.BoolOp .And (b :: rest) pos) (tT G g)) : PW X (.BoolOp .And (a :: b :: rest) pos) (tT G (fAnd f g)) := PW.imp (pw_and ha hb) fun _ _ _ h => and_run h
theorem w_or {a b : Expr} {rest : List Expr} {f g : Env → M Bool} {pos : Pos} (ha : PT X a (tT G f)) (hb : PW X (.BoolOp .Or (b :: rest) pos) (tT G g)) : PW X (.BoolOp .Or (a :: b :: rest) pos) (tT G (fOr f g)) := PW.imp (pw_or ha hb) fun _ _ _ h => or_run h
theorem t_not {a : Expr} {f : Env → M Bool} {pos : Pos} (ha : PT X a (tT G f)) : PT X (.UnaryOp .Not a pos) (tT G (fNot f)) := PT.imp (pt_not ha) fun σ H Q ⟨ρ, env, hm, b, hm', rs, e, q⟩ => by
  obtain ⟨t, h1, e1, e⟩ := bnd_some e
  cases e
  exact ⟨ρ, env, hm, t, _, rs, e1, q⟩
/-- and, or, not, if-else as values -/
def fAndV (f g : Env → M D) : Env → M D := fun env => bnd (f env) fun d => bnd (isB d) fun b => if b = true then g env else ret (.bl false)
def fOrV (f g : Env → M D) : Env → M D := fun env => bnd (f env) fun d => bnd (isB d) fun b => if b = true then ret (.bl true) else g env
theorem e_one {op : BoolOp} {a : Expr} {f : Env → M D} {pos : Pos} (h : PE X a (tE G f)) : PE X (.BoolOp op [a] pos) (tE G f) := pe_one h
theorem e_and {a b : Expr} {rest : List Expr} {f g : Env → M D} {pos : Pos} (ha : PE X a (tE G f)) (hb : PE X (.BoolOp .And (b :: rest) pos) (tE G g)) : PE X (.BoolOp .And (a :: b :: rest) pos) (tE G (fAndV f g)) := PE.imp (pe_and ha hb) fun σ H Q ⟨ρ, env, hm, d, hm', rs, e, q⟩ => by
  obtain ⟨x, h1, e1, e⟩ := bnd_some e
  obtain ⟨t, h2, e2, e⟩ := bnd_some e
  obtain ⟨rfl, rfl⟩ := isB_some e2
  refine ⟨ρ, env, hm, .bl t, h1, rs, e1, fun ρ1 v1 H1 l1 r1 z => ?_⟩
  unfold RV at z
  refine ⟨t, z, ?_⟩
  cases t with
  | true => rw [if_pos rfl] at e ⊢; exact ⟨ρ1, env, h1, d, hm', l1.rs rs r1, e, q.le l1⟩
  | false => rw [if_neg Bool.false_ne_true] at e ⊢; cases e; exact q ρ1 _ H1 l1 r1 (by unfold RV; rfl)
theorem e_or {a b : Expr} {rest : List Expr} {f g : Env → M D} {pos : Pos} (ha : PE X a (tE G f)) (hb : PE X (.BoolOp .Or (b :: rest) pos) (tE G g)) : PE X (.BoolOp .Or (a :: b :: rest) pos) (tE G (fOrV f g)) := PE.imp (pe_or ha hb) fun σ H Q ⟨ρ, env, hm, d, hm', rs, e, q⟩ => by
  obtain ⟨x, h1, e1, e⟩ := bnd_some e
  obtain ⟨t, h2, e2, e⟩ := bnd_some e
  obtain ⟨rfl, rfl⟩ := isB_some e2
  refine ⟨ρ, env, hm, .bl t, h1, rs, e1, fun ρ1 v1 H1 l1 r1 z => ?_⟩
  unfold RV at z
  refine ⟨t, z, ?_⟩
  cases t with
  | false => rw [if_neg Bool.false_ne_true] at e ⊢; exact ⟨ρ1, env, h1, d, hm', l1.rs rs r1, e, q.le l1⟩
  | true => rw [if_pos rfl] at e ⊢; cases e; exact q ρ1 _ H1 l1 r1 (by unfold RV; rfl)
def fNotV (f : Env → M D) : Env → M D := fun env => bnd (f env) fun d => bnd (isB d) fun b => ret (.bl (!b))
theorem e_not {a : Expr} {f : Env → M D} {pos : Pos} (ha : PE X a (tE G f)) : PE X (.UnaryOp .Not a pos) (tE G (fNotV f)) := PE.imp (pe_not ha) fun σ H Q ⟨ρ, env, hm, d, hm', rs, e, q⟩ => by
  obtain ⟨x, h1, e1, e⟩ := bnd_some e
  obtain ⟨t, h2, e2, e⟩ := bnd_some e
  obtain ⟨rfl, rfl⟩ := isB_some e2
  cases e
  refine ⟨ρ, env, hm, .bl t, _, rs, e1, fun ρ1 v1 H1 l1 r1 z => ?_⟩
  unfold RV at z
  exact ⟨t, z, q ρ1 _ H1 l1 r1 (by unfold RV; rfl)⟩
def fIfE (c : Env → M Bool) (f g : Env → M D) : Env → M D := fun env => bnd (c env) fun b => if b = true then f env else g env
theorem e_ifExp {c a b : Expr} {fc : Env → M Bool} {f g : Env → M D} {pos : Pos} (hc : PT X c (tT G fc)) (ha : PE X a (tE G f)) (hb : PE X b (tE G g)) : PE X (.IfExp c a b pos) (tE G (fIfE fc f g)) := PE.imp (pe_ifExp hc ha hb) fun σ H Q ⟨ρ, env, hm, d, hm', rs, e, q⟩ => by
  obtain ⟨t, h1, e1, e⟩ := bnd_some e
  refine ⟨ρ, env, hm, t, h1, rs, e1, fun ρ1 H1 l1 r1 => ?_⟩
  cases t with
  | true => rw [if_pos rfl] at e ⊢; exact ⟨ρ1, env, h1, d, hm', l1.rs rs r1, e, q.le l1⟩
  | false => rw [if_neg Bool.false_ne_true] at e ⊢; exact ⟨ρ1, env, h1, d, hm', l1.rs rs r1, e, q.le l1⟩

/-! ### targets -/
def tG (G : Gd) (g : D → Env → M Env) : TG := fun v σ H Q => ∃ ρ env hm d env' hm', RS G ρ env hm σ H ∧ RV G.K ρ H d v ∧ g d env hm = some (env', hm') ∧ AftN G ρ H hm env' hm' Q
def tGs (G : Gd) (g : List D → Env → M Env) : TGs := fun vs σ H Q => ∃ ρ env hm ds env' hm', RS G ρ env hm σ H ∧ RVs G.K ρ H ds vs ∧ g ds env hm = some (env', hm') ∧ AftN G ρ H hm env' hm' Q
theorem PG.imp {e : Expr} {t t' : TG} (h : PG X e t) (i : ∀ v σ H Q, t' v σ H Q → t v σ H Q) : PG X e t' := ⟨fun pins s σ H v u Q I r q => h.run pins s σ H v u Q I r (i v σ H Q q)⟩
theorem PGs.imp {e : List Expr} {t t' : TGs} (h : PGs X e t) (i : ∀ v σ H Q, t' v σ H Q → t v σ H Q) : PGs X e t' := ⟨fun pins s σ H v u Q I r q => h.run pins s σ H v u Q I r (i v σ H Q q)⟩
theorem RS.set {ρ : Nat → Option Addr} {env : Env} {hm : Hm} {σ : St} {H : Hp} (r : RS G ρ env hm σ H) {d : D} {v : V} (h : RV G.K ρ H d v) (i : Nat) : RS G ρ (env.set i (some d)) hm (σ.set i (some v)) H := by
  refine ⟨r.rh, fun j d' e => ?_, by rw [List.length_set, List.length_set]; exact r.len⟩
  by_cases c : i = j
  · subst c
    have hi : i < env.length := by
      have := (List.getElem?_eq_some_iff.mp e).1
      rw [List.length_set] at this; exact this
    rw [List.getElem?_set_self hi] at e
    cases e
    exact ⟨v, List.getElem?_set_self (by rw [← r.len]; exact hi), h⟩
  · rw [List.getElem?_set_ne c] at e
    obtain ⟨w, a, b⟩ := r.re j d' e
    exact ⟨w, by rw [List.getElem?_set_ne c]; exact a, b⟩
def gN (i : Nat) : D → Env → M Env := fun d env => ret (env.set i (some d))
theorem g_name {i : Nat} {x : Str} {pos : Pos} (h : PG X (.Name x pos) (gName i)) : PG X (.Name x pos) (tG G (gN i)) := PG.imp h fun v σ H Q ⟨ρ, env, hm, d, env', hm', rs, rv, e, q⟩ => by
  cases e
  exact q ρ _ H Le.refl (rs.set rv i)
def gsN : List D → Env → M Env := fun ds env => match ds with
  | [] => ret env
  | _ :: _ => fail
def gsC (g : D → Env → M Env) (u : List D → Env → M Env) : List D → Env → M Env := fun ds env => match ds with
  | [] => fail
  | d :: r => bnd (g d env) fun e => u r e
theorem gs_nil : PGs X [] (tGs G gsN) := PGs.imp pgs_nil fun vs σ H Q ⟨ρ, env, hm, ds, env', hm', rs, rv, e, q⟩ => by
  cases ds with
  | nil =>
    cases e
    unfold RVs at rv
    exact ⟨rv, q ρ σ H Le.refl rs⟩
  | cons d r => cases e
theorem gs_cons {e : Expr} {es : List Expr} {g : D → Env → M Env} {u : List D → Env → M Env} (h1 : PG X e (tG G g)) (h2 : PGs X es (tGs G u))
    (hs : (assignEach (e :: es) X.env).map (·.2) = assign e X.env :: (assignEach es X.env).map (·.2) := by rfl) : PGs X (e :: es) (tGs G (gsC g u)) := PGs.imp (pgs_cons h1 h2 hs) fun vs σ H Q ⟨ρ, env, hm, ds, env', hm', rs, rv, e, q⟩ => by
  cases ds with
  | nil => cases e
  | cons d r =>
    unfold RVs at rv
    obtain ⟨y, ys, rfl, ry, rr⟩ := rv
    obtain ⟨e1, h1, a1, a2⟩ := bnd_some e
    refine ⟨y, ys, rfl, ρ, env, hm, d, e1, h1, rs, ry, a1, fun ρ1 σ1 H1 l1 r1 => ?_⟩
    exact ⟨ρ1, e1, h1, r, env', hm', r1, l1.rvs rs.rh rr, a2, q.le l1⟩
/-- a tuple or a list of that length -/
def gTupA (K : PySem.W.Frag) (n : Nat) (t : TGs) : TG := fun v σ H Q => ∃ a xs, v = .ref a ∧ (SqT K H a xs ∨ SqL K H a xs) ∧ xs.length = n ∧ t xs σ H Q
theorem pg_tupA {es : List Expr} {k : Nat} {t : TGs} {n : Nat} {pos : Pos} (hc : X.calm = true) (h : PGs X es t)
    (hn : (assignEach es X.env).length = n := by rfl) (hst : (assignEach es X.env).findIdx? (·.1) = none := by rfl) : PG X (.Tuple es k pos) (gTupA X.K n t) := by
  refine ⟨fun pins s σ H v u Q I r hw => ?_⟩
  obtain ⟨a, xs, e1, hq, hl, hw⟩ := hw
  rcases hq with hq | hq
  · exact (pg_tup hc h hn hst).run pins s σ H v u Q I r ⟨a, xs, e1, hq, hl, hw⟩
  · subst e1
    cases r
    obtain ⟨its, rv, ⟨o, m, ho, hcl, hd, hda⟩, hz⟩ := I.list hq
    have hl' : s.heap.IsList a its.toArray := ⟨o, ho, hcl, m, hda⟩
    rw [PyProof.Rows.assign_Tuple]
    refine wpAny_bind (wpAny_standAt ?_)
    unfold unpack
    have hn' : (assignEach es X.env).length = its.toArray.size := by rw [hn, ← hl, rv.length, List.size_toArray]
    rw [hn', hst]
    refine wpAny_bind (wpAny_holding (PySem.W.kun_itemsOf (I.ok.hd hc) hl' fun h' hx => ?_))
    have I1 : Inv X pins σ H { s with heap := h' } := I.kept (t' := s.toks) fun b o e => hx b o (Nat.ne_of_lt (Heap.lt_size e)) e
    exact h.run pins _ σ H xs _ Q I1 (by simpa using rv) hw
def gT (n : Nat) (u : List D → Env → M Env) : D → Env → M Env := fun d env hm => match d with
  | .tup xs => if xs.length = n then u xs env hm else none
  | .ref a => match hm.get a with
    | some (.lst xs) => if xs.length = n then u xs env hm else none
    | _ => none
  | _ => none
theorem g_tup {es : List Expr} {k : Nat} {u : List D → Env → M Env} {n : Nat} {pos : Pos} (hK : X.K = G.K) (hc : X.calm = true) (h : PGs X es (tGs G u)) (hn : (assignEach es X.env).length = n := by rfl) (hst : (assignEach es X.env).findIdx? (·.1) = none := by rfl) :
    PG X (.Tuple es k pos) (tG G (gT n u)) := PG.imp (pg_tupA hc h hn hst) fun v σ H Q ⟨ρ, env, hm, d, env', hm', rs, rv, e, q⟩ => by
  unfold gT at e
  split at e
  · rename_i xs
    unfold RV at rv
    obtain ⟨a, ys, rfl, hq, rr⟩ := rv
    split at e
    · rename_i c
      refine ⟨a, ys, rfl, .inl (by rw [hK]; exact hq.sq), by rw [← rr.length]; exact c, ρ, env, hm, xs, env', hm', rs, rr, e, q⟩
    · cases e
  · rename_i n1
    unfold RV at rv
    obtain ⟨b, hb, rfl⟩ := rv
    split at e
    · rename_i xs ga
      obtain ⟨b', hb', vs, k1, k2⟩ := rs.rh.obj _ _ ga
      rw [hb] at hb'; cases hb'
      split at e
      · rename_i c
        refine ⟨b, vs, rfl, .inr (by rw [hK]; exact SqL.of k1), by rw [← k2.length]; exact c, ρ, env, hm, xs, env', hm', rs, k2, e, q⟩
      · cases e
    · cases e
  · cases e

/-- target = value -/
def fAsg (f : Env → M D) (g : D → Env → M Env) : Env → M Fl := fun env => bnd (f env) fun d => bnd (g d env) fun e => ret (.nx e)
theorem asg_run {f : Env → M D} {g : D → Env → M Env} {D : Ends} {σ : St} {H : Hp} (h : tS G (fAsg f g) D σ H) : tAsg (tE G f) (tG G g) D σ H := by
  obtain ⟨ρ, env, hm, fl, hm', rs, e, q⟩ := h
  obtain ⟨d, h1, e1, e⟩ := bnd_some e
  obtain ⟨e', h2, e2, e⟩ := bnd_some e
  cases e
  refine ⟨ρ, env, hm, d, h1, rs, e1, fun ρ1 v1 H1 l1 r1 z => ?_⟩
  exact ⟨ρ1, env, h1, d, e', _, l1.rs rs r1, z, e2, AftN.le q l1⟩
theorem s_asg {tg e : Expr} {f : Env → M D} {g : D → Env → M Env} {pos : Pos} (he : PE X e (tE G f)) (hg : PG X tg (tG G g)) (hs : swapsWithSole [tg] e pos.line X.env = pure false := by rfl) (hw : swappedStores [tg] e X.env = pure none := by rfl)
    (h1 : (assignEach [tg] X.env).map (·.2) = [assign tg X.env] := by rfl) : PS X (.Assign [tg] e pos) (tS G (fAsg f g)) := PS.imp (ps_asg he hg hs hw h1) fun _ _ _ h => asg_run h
theorem set_run {f : Env → M D} {i : Nat} {D : Ends} {σ : St} {H : Hp} (h : tS G (fAsg f (gN i)) D σ H) : tAsg (tE G f) (gName i) D σ H := by
  obtain ⟨ρ, env, hm, fl, hm', rs, e, q⟩ := h
  obtain ⟨d, h1, e1, e⟩ := bnd_some e
  cases e
  refine ⟨ρ, env, hm, d, _, rs, e1, fun ρ1 v1 H1 l1 r1 z => ?_⟩
  exact q ρ1 _ H1 l1 ((l1.rs rs r1).set z i)
theorem s_set {i : Nat} {x : Str} {e : Expr} {f : Env → M D} {pos pos' : Pos} (h : ∀ t, PE X e t → PS X (.Assign [.Name x pos'] e pos) (tAsg t (gName i))) (he : PE X e (tE G f)) : PS X (.Assign [.Name x pos'] e pos) (tS G (fAsg f (gN i))) := PS.imp (h _ he) fun _ _ _ q => set_run q

/-! ### while -/
def loopW (c : Env → M Bool) (b : Env → M Fl) : Nat → Env → M Fl
  | 0, _ => fail
  | n + 1, env => bnd (c env) fun t => if t = true then bnd (b env) fun fl => match fl with
      | .nx e => loopW c b n e
      | .ct e => loopW c b n e
      | .bk e => ret (.nx e)
      | .rt d => ret (.rt d)
    else ret (.nx env)
theorem s_while {c : Expr} {body : List Stmt} {fc : Env → M Bool} {fb : Env → M Fl} {pos : Pos} (n : Nat) (hp : PassesOwn (model X.prog X.w) X.A X.env X.xe) (hc : PT X c (tT G fc)) (hb : PSs X body (tS G fb)) : PS X (.While c body [] pos) (tS G (loopW fc fb n)) := PS.imp (ps_while hp hc hb) fun D σ H ⟨ρ, env, hm, fl, hm', rs, e, q⟩ => by
  refine ⟨fun m σ1 H1 => ∃ ρ1 env1 h1, RS G ρ1 env1 h1 σ1 H1 ∧ loopW fc fb m env1 h1 = some (fl, hm') ∧ AftS G ρ1 H1 h1 fl hm' D, ⟨n, ρ, env, hm, rs, e, q⟩, ?_⟩
  rintro m σ1 H1 ⟨ρ1, env1, h1, rs1, e1, q1⟩
  cases m with
  | zero => cases e1
  | succ m =>
    obtain ⟨t, h2, a2, e2⟩ := bnd_some e1
    refine ⟨ρ1, env1, h1, t, h2, rs1, a2, fun ρ2 H2 l2 r2 => ?_⟩
    have rs2 := l2.rs rs1 r2
    have q2 := q1.le l2
    cases t with
    | false =>
      dsimp only
      rw [if_neg Bool.false_ne_true] at e2 ⊢
      cases e2
      exact q2 ρ2 σ1 H2 Le.refl rs2
    | true =>
      dsimp only
      rw [if_pos rfl] at e2 ⊢
      obtain ⟨fl3, h3, a3, e3⟩ := bnd_some e2
      refine ⟨fun σ' H' => ∃ ρ1 env1 h1, RS G ρ1 env1 h1 σ' H' ∧ loopW fc fb m env1 h1 = some (fl, hm') ∧ AftS G ρ1 H' h1 fl hm' D, fun σ' H' z => ⟨m, Nat.lt_succ_self m, z⟩, ρ2, env1, h2, fl3, h3, rs2, a3, ?_⟩
      cases fl3 with
      | nx e' => exact fun ρ3 σ3 H3 l3 r3 => ⟨ρ3, e', h3, r3, e3, q2.le l3⟩
      | ct e' => exact fun ρ3 σ3 H3 l3 r3 => ⟨ρ3, e', h3, r3, e3, q2.le l3⟩
      | bk e' => cases e3; exact q2
      | rt d => cases e3; exact q2

/-! ### what is walked -/
/-- J feeds the items, as long as chk holds -/
structure Feeds (G : Gd) (J : It) (ρ0 : Nat → Option Addr) (H0 : Hp) (hm0 : Hm) (items : List D) (chk : Hm → Bool) : Prop where
  go : ∀ (i : Nat) ρ H hm, i < items.length → Le G.K ρ0 H0 hm0 ρ H hm → RH G ρ H hm → chk hm = true → J.go i H
  yld : ∀ (i : Nat) ρ H hm x H' d, items[i]? = some d → Le G.K ρ0 H0 hm0 ρ H hm → RH G ρ H hm → chk hm = true → J.yld i H x H' → Le G.K ρ H hm ρ H' hm ∧ RH G ρ H' hm ∧ RV G.K ρ H' d x
  stop : ∀ ρ H hm, Le G.K ρ0 H0 hm0 ρ H hm → RH G ρ H hm → chk hm = true → J.stop items.length H
abbrev Src := Env → M (List D × (Hm → Bool))
def tI (G : Gd) (src : Src) : TI := fun σ H R => ∃ ρ env hm items chk hm', RS G ρ env hm σ H ∧ src env hm = some ((items, chk), hm') ∧
  ∀ ρ' H' J, Le G.K ρ H hm ρ' H' hm' → RH G ρ' H' hm' → Feeds G J ρ' H' hm' items chk → R J H'
theorem PI.imp {tg e : Expr} {t t' : TI} (h : PI X tg e t) (i : ∀ σ H R, t' σ H R → t σ H R) : PI X tg e t' := ⟨fun pins s σ H R I q => h.run pins s σ H R I (i σ H R q)⟩

def ask (chk : Hm → Bool) : M Unit := fun hm => if chk hm = true then some ((), hm) else none
theorem ask_some {chk : Hm → Bool} {hm hm' : Hm} {u : Unit} (e : ask chk hm = some (u, hm')) : chk hm = true ∧ hm = hm' := by
  unfold ask at e
  split at e
  · rename_i c; cases e; exact ⟨c, rfl⟩
  · cases e
def loopF (g : D → Env → M Env) (b : Env → M Fl) (chk : Hm → Bool) : List D → Env → M Fl
  | [], env => bnd (ask chk) fun _ => ret (.nx env)
  | x :: xs, env => bnd (ask chk) fun _ => bnd (g x env) fun e => bnd (b e) fun fl => match fl with
      | .nx e => loopF g b chk xs e
      | .ct e => loopF g b chk xs e
      | .bk e => ret (.nx e)
      | .rt d => ret (.rt d)
def fFor (src : Src) (g : D → Env → M Env) (b : Env → M Fl) : Env → M Fl := fun env => bnd (src env) fun p => loopF g b p.2 p.1 env
theorem drop_cons {α : Type} {l : List α} {i : Nat} {x : α} {r : List α} (h : l.drop i = x :: r) : l[i]? = some x ∧ i < l.length ∧ l.drop (i + 1) = r := by
  have hi : i < l.length := by
    rcases Nat.lt_or_ge i l.length with c | c
    · exact c
    · rw [List.drop_eq_nil_of_le c] at h; cases h
  have e := List.drop_eq_getElem_cons hi
  rw [h] at e
  injection e with e1 e2
  exact ⟨by rw [List.getElem?_eq_getElem hi, e1], hi, e2.symm⟩
theorem drop_nil {α : Type} {l : List α} {i : Nat} (hi : i ≤ l.length) (h : l.drop i = []) : i = l.length := by
  have := List.drop_eq_nil_iff.mp h
  omega
theorem s_for {tg iter : Expr} {body : List Stmt} {src : Src} {g : D → Env → M Env} {fb : Env → M Fl} {pos : Pos} (hp : PassesOwn (model X.prog X.w) X.A X.env X.xe) (hc : X.calm = true) (hi : PI X tg iter (tI G src)) (hg : PG X tg (tG G g)) (hb : PSs X body (tS G fb))
    (hs : ∀ x, foldedSetIterable iter X.env x = pure x := by intro _; rfl) : PS X (.For tg iter body [] pos) (tS G (fFor src g fb)) := PS.imp (ps_for hp hc hi hg hb hs) fun D σ H ⟨ρ, env, hm, fl, hm', rs, e, q⟩ => by
  obtain ⟨⟨items, chk⟩, h1, e1, e⟩ := bnd_some e
  refine ⟨ρ, env, hm, items, chk, h1, rs, e1, fun ρ1 H1 J l1 r1 F => ?_⟩
  refine ⟨fun i m σ2 H2 => ∃ ρ2 env2 h2, Le G.K ρ1 H1 h1 ρ2 H2 h2 ∧ RS G ρ2 env2 h2 σ2 H2 ∧ m = items.length - i ∧ i ≤ items.length ∧ loopF g fb chk (items.drop i) env2 h2 = some (fl, hm') ∧ AftS G ρ2 H2 h2 fl hm' D,
    ⟨items.length, ρ1, env, h1, Le.refl, l1.rs rs r1, by omega, Nat.zero_le _, e, q.le l1⟩, ?_⟩
  rintro i m σ2 H2 ⟨ρ2, env2, h2, l2, rs2, rfl, hle, e2, q2⟩
  cases hd : items.drop i with
  | nil =>
    rw [hd] at e2
    obtain ⟨u, h3, a3, e3⟩ := bnd_some e2
    obtain ⟨c3, rfl⟩ := ask_some a3
    cases e3
    have ei := drop_nil hle hd
    refine .inl ⟨by rw [ei]; exact F.stop ρ2 H2 _ l2 rs2.rh c3, ?_⟩
    exact q2 ρ2 σ2 H2 Le.refl rs2
  | cons x xs =>
    rw [hd] at e2
    obtain ⟨u, h3, a3, e3⟩ := bnd_some e2
    obtain ⟨c3, rfl⟩ := ask_some a3
    obtain ⟨hx, hlt, hdx⟩ := drop_cons hd
    refine .inr ⟨F.go i ρ2 H2 _ hlt l2 rs2.rh c3, fun σ' H' => ∃ ρ2 env2 h2, Le G.K ρ1 H1 h1 ρ2 H' h2 ∧ RS G ρ2 env2 h2 σ' H' ∧ loopF g fb chk (items.drop (i + 1)) env2 h2 = some (fl, hm') ∧ AftS G ρ2 H' h2 fl hm' D,
      fun σ' H' ⟨ρ3, env3, h3, z1, z2, z3, z4⟩ => ⟨items.length - (i + 1), by omega, ρ3, env3, h3, z1, z2, rfl, hlt, z3, z4⟩, fun v H3 y => ?_⟩
    obtain ⟨l3, r3, v3⟩ := F.yld i ρ2 H2 _ v H3 x hx l2 rs2.rh c3 y
    obtain ⟨env4, h4, a4, e4⟩ := bnd_some e3
    obtain ⟨fl5, h5, a5, e5⟩ := bnd_some e4
    refine ⟨ρ2, env2, _, x, env4, h4, l3.rs rs2 r3, v3, a4, fun ρ4 σ4 H4 l4 r4 => ?_⟩
    have l24 := l3.trans l4
    refine ⟨ρ4, env4, h4, fl5, h5, r4, a5, ?_⟩
    have q4 := q2.le l24
    cases fl5 with
    | nx e' => exact fun ρ5 σ5 H5 l5 r5 => ⟨ρ5, e', h5, l2.trans (l24.trans l5), r5, by rw [hdx]; exact e5, q4.le l5⟩
    | ct e' => exact fun ρ5 σ5 H5 l5 r5 => ⟨ρ5, e', h5, l2.trans (l24.trans l5), r5, by rw [hdx]; exact e5, q4.le l5⟩
    | bk e' => cases e5; exact q4
    | rt d => cases e5; exact q4
end
end Eng
set_option maxRecDepth 100000
set_option maxHeartbeats 4000000
/-! The heap: what is new, what is changed, what is let go. -/
namespace Eng
open PySem L2

theorem unders_all (n : Nat) : ∀ xs : List D, D.unders n xs = xs.all (D.under n)
  | [] => rfl
  | x :: xs => by unfold D.unders; rw [unders_all n xs]; rfl
theorem unders_perm {n : Nat} {xs ys : List D} (p : xs.Perm ys) (h : D.unders n ys = true) : D.unders n xs = true := by
  rw [unders_all, List.all_eq_true] at h ⊢
  exact fun x hx => h x (p.mem_iff.mp hx)
theorem under_ints (n : Nat) : ∀ ns : List Int, D.unders n (ns.map D.int) = true
  | [] => rfl
  | _ :: r => by rw [List.map_cons]; unfold D.unders; rw [under_ints n r]; rfl
theorem under_tups (n : Nat) : ∀ L : List (List Int), D.unders n (L.map tupI) = true
  | [] => rfl
  | k :: r => by
    rw [List.map_cons]; unfold D.unders; rw [under_tups n r]
    unfold tupI D.under
    rw [under_ints]; rfl

section
variable {G : Gd} {ρ ρ' : Nat → Option Addr} {H H' : Hp} {hm : Hm} {a b p : Addr} {o o' : O} {u u' : HO}
theorem RK.mono {κ : Type} (e : ∀ n a, ρ n = some a → ρ' n = some a) (t : TX G.K H H') {x : List (κ × D)} {y : List (κ × V)} (h : RK G ρ H x y) : RK G ρ' H' x y := Paired.mapP h fun _ _ z => ⟨z.1, RV.mono e t _ _ z.2⟩
theorem RO.mono (e : ∀ n a, ρ n = some a → ρ' n = some a) (t : TX G.K H H') (ha : H' a = H a) (h : RO G ρ H a o) : RO G ρ' H' a o := by
  cases o with
  | lst xs => obtain ⟨ys, h1, h2⟩ := h; exact ⟨ys, ha.trans h1, RVs.mono e t _ _ h2⟩
  | frz xs => obtain ⟨ob, ys, h1, h2⟩ := h; exact ⟨ob, ys, ha.trans h1, RVs.mono e t _ _ h2⟩
  | ftp xs => obtain ⟨ob, ys, h1, h2⟩ := h; exact ⟨ob, ys, ⟨ha.trans h1.1, h1.2⟩, RVs.mono e t _ _ h2⟩
  | dk kvs => obtain ⟨ks, h1, h2⟩ := h; exact ⟨ks, ha.trans h1, h2.mono e t⟩
  | dt kvs => obtain ⟨ks, h1, h2⟩ := h; exact ⟨ks, ha.trans h1, h2.mono e t⟩
  | st ls => obtain ⟨L, h1, h2, h3⟩ := h; exact ⟨L, ha.trans h1, fun p hp => t _ _ (h2 p hp), h3⟩
  | si ns => obtain ⟨ms, h1, h2⟩ := h; exact ⟨ms, ha.trans h1, h2⟩
  | xo k => exact ha.trans h
theorem RK.under {κ : Type} {n0 : Nat} (dom : ∀ n a, ρ n = some a → n < n0) : ∀ {x : List (κ × D)} {y : List (κ × V)}, RK G ρ H x y → D.underKV n0 x = true
  | _, _, .nil => rfl
  | (k, v) :: r, _, .cons z t => by
    unfold D.underKV
    rw [RK.under dom t, RV.under dom _ _ z.2]; rfl
theorem RO.under {n0 : Nat} (dom : ∀ n a, ρ n = some a → n < n0) (h : RO G ρ H a o) : O.under n0 o = true := by
  cases o with
  | lst xs => obtain ⟨ys, h1, h2⟩ := h; exact RVs.under dom _ _ h2
  | frz xs => obtain ⟨ob, ys, h1, h2⟩ := h; exact RVs.under dom _ _ h2
  | ftp xs => obtain ⟨ob, ys, h1, h2⟩ := h; exact RVs.under dom _ _ h2
  | dk kvs => obtain ⟨ks, h1, h2⟩ := h; exact h2.under dom
  | dt kvs => obtain ⟨ks, h1, h2⟩ := h; exact h2.under dom
  | st ls => rfl
  | si ns => rfl
  | xo k => rfl
theorem RK.cut {κ : Type} {n0 : Nat} (e : ∀ n, n < n0 → ρ' n = ρ n) : ∀ {x : List (κ × D)} {y : List (κ × V)}, D.underKV n0 x = true → RK G ρ H x y → RK G ρ' H x y
  | _, _, _, .nil => .nil
  | (k, v) :: r, _, b, .cons z t => by
    unfold D.underKV at b
    rw [Bool.and_eq_true] at b
    exact .cons ⟨z.1, RV.cut e _ _ b.1 z.2⟩ (RK.cut e b.2 t)
theorem RO.cut {n0 : Nat} (e : ∀ n, n < n0 → ρ' n = ρ n) (b : O.under n0 o = true) (h : RO G ρ H a o) : RO G ρ' H a o := by
  cases o with
  | lst xs => obtain ⟨ys, h1, h2⟩ := h; exact ⟨ys, h1, RVs.cut e _ _ b h2⟩
  | frz xs => obtain ⟨ob, ys, h1, h2⟩ := h; exact ⟨ob, ys, h1, RVs.cut e _ _ b h2⟩
  | ftp xs => obtain ⟨ob, ys, h1, h2⟩ := h; exact ⟨ob, ys, h1, RVs.cut e _ _ b h2⟩
  | dk kvs => obtain ⟨ks, h1, h2⟩ := h; exact ⟨ks, h1, h2.cut e b⟩
  | dt kvs => obtain ⟨ks, h1, h2⟩ := h; exact ⟨ks, h1, h2.cut e b⟩
  | st ls => exact h
  | si ns => exact h
  | xo k => exact h
theorem RO.there (h : RO G ρ H a o) : H a ≠ none := by
  cases o with
  | lst xs => obtain ⟨ys, h1, _⟩ := h; rw [h1]; exact fun z => nomatch z
  | frz xs => obtain ⟨ob, ys, h1, _⟩ := h; rw [h1]; exact fun z => nomatch z
  | ftp xs => obtain ⟨ob, ys, h1, _⟩ := h; rw [h1.1]; exact fun z => nomatch z
  | dk kvs => obtain ⟨ks, h1, _⟩ := h; rw [h1]; exact fun z => nomatch z
  | dt kvs => obtain ⟨ks, h1, _⟩ := h; rw [h1]; exact fun z => nomatch z
  | st ls => obtain ⟨ks, h1, _⟩ := h; rw [h1]; exact fun z => nomatch z
  | si ns => obtain ⟨ks, h1, _⟩ := h; rw [h1]; exact fun z => nomatch z
  | xo k =>
    have h : H a = some (exo a (G.xc k) none) := h
    rw [h]; exact fun z => nomatch z

/-- the objects that are told stay, tuples stay -/
theorem RH.up (r : RH G ρ H hm) (t : TX G.K H H') (h : ∀ a, H a ≠ none → H' a = H a) : RH G ρ H' hm := by
  refine ⟨fun n o e => ?_, r.inj, r.dom, r.dn, r.base⟩
  obtain ⟨a, h1, h2⟩ := r.obj n o e
  exact ⟨a, h1, h2.mono (fun _ _ z => z) t (h a h2.there)⟩
/-- something new that the heap does not know -/
theorem RH.tup (r : RH G ρ H hm) (hp : H p = none) : RH G ρ (upd H p u) hm := r.up (TX.new hp) fun a ha => upd_ne fun e => ha (by rw [e]; exact hp)
theorem Le.tup (hp : H p = none) : Le G.K ρ H hm ρ (upd H p u) hm := ⟨Nat.le_refl _, fun _ _ => rfl, TX.new hp⟩

def rset (ρ : Nat → Option Addr) (n : Nat) (p : Addr) : Nat → Option Addr := fun m => if m = n then some p else ρ m
theorem rset_same {n : Nat} : rset ρ n p n = some p := if_pos rfl
theorem rset_ne {n m : Nat} (h : m ≠ n) : rset ρ n p m = ρ m := if_neg h
theorem RH.old (r : RH G ρ H hm) : ∀ n b, ρ n = some b → rset ρ hm.nx p n = some b := fun n b h => by
  rw [rset_ne (Nat.ne_of_lt (r.dom n b h))]; exact h
/-- a new object that the heap knows -/
theorem RH.new (r : RH G ρ H hm) (hp : H p = none) (ro : RO G ρ (upd H p u) p o) : RH G (rset ρ hm.nx p) (upd H p u) (hm.new o) ∧ Le G.K ρ H hm (rset ρ hm.nx p) (upd H p u) (hm.new o) := by
  have tx : TX G.K H (upd H p u) := TX.new hp
  have nop : ∀ n, (hm.get n).isSome = true → ρ n ≠ some p := fun n hn e => by
    obtain ⟨o1, e1⟩ := Option.isSome_iff_exists.mp hn
    obtain ⟨a, h1, h2⟩ := r.obj n o1 e1
    rw [e] at h1; cases h1
    exact h2.there hp
  have nl : ∀ n, (hm.get n).isSome = true → n < hm.nx := fun n hn => by
    obtain ⟨o1, e1⟩ := Option.isSome_iff_exists.mp hn
    obtain ⟨a, h1, h2⟩ := r.obj n o1 e1
    exact r.dom n a h1
  refine ⟨⟨fun n o1 e => ?_, fun m n a hm1 hn1 e1 e2 => ?_, fun n a e => ?_, fun n o1 e hl => ?_, fun q hq => by rw [rset_ne (Nat.ne_of_lt (r.dom _ _ (r.base q hq)))]; exact r.base q hq⟩, ⟨Nat.le_succ _, fun n hn => rset_ne (Nat.ne_of_lt hn), tx⟩⟩
  · rw [get_new] at e
    by_cases c : n = hm.nx
    · rw [if_pos c] at e; cases e
      exact ⟨p, by rw [c]; exact rset_same, ro.mono r.old TX.refl rfl⟩
    · rw [if_neg c] at e
      obtain ⟨a, h1, h2⟩ := r.obj n o1 e
      refine ⟨a, by rw [rset_ne c]; exact h1, h2.mono r.old tx (upd_ne fun z => h2.there (by rw [z]; exact hp))⟩
  · rw [get_new] at hm1 hn1
    by_cases c : m = hm.nx
    · by_cases d : n = hm.nx
      · rw [c, d]
      · rw [if_neg d] at hn1
        rw [c, rset_same] at e1; cases e1
        rw [rset_ne d] at e2
        exact absurd e2 (nop n hn1)
    · rw [if_neg c] at hm1
      rw [rset_ne c] at e1
      by_cases d : n = hm.nx
      · rw [d, rset_same] at e2; cases e2
        exact absurd e1 (nop m hm1)
      · rw [if_neg d] at hn1
        rw [rset_ne d] at e2
        exact r.inj m n a hm1 hn1 e1 e2
  · by_cases c : n = hm.nx
    · rw [c]; exact Nat.lt_succ_self _
    · rw [rset_ne c] at e
      exact Nat.lt_succ_of_lt (r.dom n a e)
  · rw [get_new] at e
    by_cases c : n = hm.nx
    · rw [if_pos c] at e; cases e
      rw [c]
      exact O.under_mono (Nat.le_succ _) _ (ro.under r.dom)
    · rw [if_neg c] at e
      exact r.dn n o1 e hl
/-- an object that the heap knows is changed -/
theorem RH.put {n : Nat} {bb : Bool} (r : RH G ρ H hm) (hn : hm.get n = some o) (ha : ρ n = some a) (hu : H a = some u) (nt : NoT u) (ro : RO G ρ (upd H a u') a o') (ub : bb = true → O.under (n + 1) o = true → O.under (n + 1) o' = true) :
    RH G ρ (upd H a u') (hm.put n o' bb) ∧ Le G.K ρ H hm ρ (upd H a u') (hm.put n o' bb) := by
  have tx : TX G.K H (upd H a u') := TX.mut hu nt
  have sm : ∀ m, ((hm.put n o' bb).get m).isSome = (hm.get m).isSome := fun m => by
    rw [get_put]
    by_cases c : m = n
    · rw [if_pos c, c]; cases hm.get n <;> rfl
    · rw [if_neg c]
  refine ⟨⟨fun m o1 e => ?_, fun m k b h1 h2 e1 e2 => r.inj m k b (by rw [← sm]; exact h1) (by rw [← sm]; exact h2) e1 e2, r.dom, fun m o1 e hl => ?_, r.base⟩, ⟨Nat.le_refl _, fun _ _ => rfl, tx⟩⟩
  · rw [get_put] at e
    by_cases c : m = n
    · rw [if_pos c, hn] at e; cases e
      exact ⟨a, by rw [c]; exact ha, ro⟩
    · rw [if_neg c] at e
      obtain ⟨b, h1, h2⟩ := r.obj m o1 e
      refine ⟨b, h1, h2.mono (fun _ _ z => z) tx (upd_ne fun z => ?_)⟩
      subst z
      exact c (r.inj m n b (by rw [e]; rfl) (by rw [hn]; rfl) h1 ha)
  · have hl' : m < if bb = true then hm.low else min hm.low n := hl
    rw [get_put] at e
    by_cases c : m = n
    · rw [if_pos c, hn] at e; cases e
      subst c
      cases bb with
      | true =>
        rw [if_pos rfl] at hl'
        exact ub rfl (r.dn m o hn hl')
      | false =>
        rw [if_neg Bool.false_ne_true] at hl'
        exact absurd hl' (by omega)
    · rw [if_neg c] at e
      refine r.dn m o1 e ?_
      cases bb with
      | true => rw [if_pos rfl] at hl'; exact hl'
      | false => rw [if_neg Bool.false_ne_true] at hl'; omega

/-! ### what a call leaves -/
/-- the objects made since n0 are let go, where nothing holds them; a list of lower things goes along -/
def trunc (n0 : Nat) (d : D) (hm : Hm) : D × Hm :=
  if n0 ≤ hm.low then
    if D.under n0 d = true then (d, ⟨n0, hm.keep n0, hm.low⟩) else
    match d with
    | .ref r => match hm.get r with
      | some (.lst xs) => if D.unders n0 xs = true then (.ref n0, ⟨n0 + 1, (n0, .lst xs) :: hm.keep n0, hm.low⟩) else (d, hm)
      | _ => (d, hm)
    | _ => (d, hm)
  else (d, hm)
def rcut (ρ : Nat → Option Addr) (n0 : Nat) : Nat → Option Addr := fun n => if n < n0 then ρ n else none
theorem RH.cut {n0 : Nat} (r : RH G ρ H hm) (hb : ∀ q ∈ G.pins, q.1 < n0) (hl : n0 ≤ hm.low) : RH G (rcut ρ n0) H ⟨n0, hm.keep n0, hm.low⟩ := by
  have ge : ∀ n, Hm.get ⟨n0, hm.keep n0, hm.low⟩ n = if n < n0 then hm.get n else none := fun n => find_keep n0 hm.os n
  have ce : ∀ n, n < n0 → rcut ρ n0 n = ρ n := fun n h => if_pos h
  refine ⟨fun n o e => ?_, fun m n a h1 h2 e1 e2 => ?_, fun n a e => ?_, fun n o e h => ?_, fun q hq => (ce _ (hb q hq)).trans (r.base q hq)⟩
  · rw [ge] at e
    by_cases c : n < n0
    · rw [if_pos c] at e
      obtain ⟨a, h1, h2⟩ := r.obj n o e
      refine ⟨a, by rw [ce n c]; exact h1, h2.cut ce (O.under_mono c _ (r.dn n o e (Nat.lt_of_lt_of_le c hl)))⟩
    · rw [if_neg c] at e; cases e
  · rw [ge] at h1 h2
    by_cases c : m < n0
    · by_cases d : n < n0
      · rw [if_pos c] at h1
        rw [if_pos d] at h2
        rw [ce m c] at e1
        rw [ce n d] at e2
        exact r.inj m n a h1 h2 e1 e2
      · rw [if_neg d] at h2; cases h2
    · rw [if_neg c] at h1; cases h1
  · unfold rcut at e
    by_cases c : n < n0
    · exact c
    · rw [if_neg c] at e; cases e
  · rw [ge] at e
    by_cases c : n < n0
    · rw [if_pos c] at e
      exact r.dn n o e (Nat.lt_of_lt_of_le c hl)
    · rw [if_neg c] at e; cases e
/-- behind a call that began at hm0: the let-go state stands too -/
theorem trunc_ok {ρ0 : Nat → Option Addr} {H0 : Hp} {hm0 : Hm} {d : D} {v : V} (r0 : RH G ρ0 H0 hm0) (l : Le G.K ρ0 H0 hm0 ρ H hm) (r : RH G ρ H hm) (rv : RV G.K ρ H d v) :
    ∃ ρ', Le G.K ρ0 H0 hm0 ρ' H (trunc hm0.nx d hm).2 ∧ RH G ρ' H (trunc hm0.nx d hm).2 ∧ RV G.K ρ' H (trunc hm0.nx d hm).1 v := by
  have triv : ∃ ρ', Le G.K ρ0 H0 hm0 ρ' H hm ∧ RH G ρ' H hm ∧ RV G.K ρ' H d v := ⟨ρ, l, r, rv⟩
  have ce : ∀ n, n < hm0.nx → rcut ρ hm0.nx n = ρ n := fun n h => if_pos h
  have hb : ∀ q ∈ G.pins, q.1 < hm0.nx := fun q hq => r0.dom _ _ (r0.base q hq)
  unfold trunc
  by_cases c : hm0.nx ≤ hm.low
  · rw [if_pos c]
    by_cases e : D.under hm0.nx d = true
    · rw [if_pos e]
      exact ⟨rcut ρ hm0.nx, ⟨Nat.le_refl _, fun n h => (ce n h).trans (l.same n h), l.tx⟩, r.cut hb c, RV.cut ce d v e rv⟩
    · rw [if_neg e]
      cases d with
      | ref k =>
        dsimp only
        cases hk : hm.get k with
        | none => exact triv
        | some o =>
          cases o with
          | lst xs =>
            dsimp only
            by_cases f : D.unders hm0.nx xs = true
            · rw [if_pos f]
              obtain ⟨a, ha, ys, hy, ry⟩ := r.obj k _ hk
              unfold RV at rv
              obtain ⟨a', ha', rfl⟩ := rv
              rw [ha] at ha'; cases ha'
              have kn : ¬ k < hm0.nx := fun z => e (by unfold D.under; exact decide_eq_true z)
              have rc := r.cut hb c
              have ge : ∀ n, Hm.get ⟨hm0.nx + 1, (hm0.nx, .lst xs) :: hm.keep hm0.nx, hm.low⟩ n = if n = hm0.nx then some (.lst xs) else if n < hm0.nx then hm.get n else none := fun n => by
                show (if hm0.nx = n then _ else Hm.find (hm.keep hm0.nx) n) = _
                by_cases z : n = hm0.nx
                · rw [if_pos z.symm, if_pos z]
                · rw [if_neg (Ne.symm z), if_neg z]; exact find_keep _ _ _
              refine ⟨rset (rcut ρ hm0.nx) hm0.nx a, ⟨Nat.le_succ _, fun n h => ?_, l.tx⟩, ⟨fun n o e1 => ?_, fun m n b h1 h2 e1 e2 => ?_, fun n b e1 => ?_, fun n o e1 h => ?_, fun q hq => by rw [rset_ne (Nat.ne_of_lt (hb q hq)), ce _ (hb q hq)]; exact r.base q hq⟩, ?_⟩
              · rw [rset_ne (Nat.ne_of_lt h), ce n h]; exact l.same n h
              · rw [ge] at e1
                by_cases z : n = hm0.nx
                · rw [if_pos z] at e1; cases e1
                  refine ⟨a, by rw [z]; exact rset_same, ys, hy, ?_⟩
                  refine RVs.cut (n0 := hm0.nx) (fun n h => by rw [rset_ne (Nat.ne_of_lt h), ce n h]) _ _ f ry
                · rw [if_neg z] at e1
                  by_cases y : n < hm0.nx
                  · rw [if_pos y] at e1
                    obtain ⟨b, h1, h2⟩ := r.obj n o e1
                    refine ⟨b, by rw [rset_ne z, ce n y]; exact h1, ?_⟩
                    exact h2.cut (n0 := hm0.nx) (fun n h => by rw [rset_ne (Nat.ne_of_lt h), ce n h]) (O.under_mono y _ (r.dn n o e1 (Nat.lt_of_lt_of_le y c)))
                  · rw [if_neg y] at e1; cases e1
              · rw [ge] at h1 h2
                have low : ∀ {i : Nat}, (if i = hm0.nx then some (O.lst xs) else if i < hm0.nx then hm.get i else none).isSome = true → i ≠ hm0.nx → i < hm0.nx ∧ (hm.get i).isSome = true := fun {i} h z => by
                  rw [if_neg z] at h
                  by_cases y : i < hm0.nx
                  · rw [if_pos y] at h; exact ⟨y, h⟩
                  · rw [if_neg y] at h; cases h
                by_cases z : m = hm0.nx
                · by_cases y : n = hm0.nx
                  · rw [z, y]
                  · exfalso
                    obtain ⟨y1, y2⟩ := low h2 y
                    rw [z, rset_same] at e1; cases e1
                    rw [rset_ne y, ce n y1] at e2
                    have := r.inj n k a y2 (by rw [hk]; rfl) e2 ha
                    exact kn (by rw [← this]; exact y1)
                · obtain ⟨z1, z2⟩ := low h1 z
                  rw [rset_ne z, ce m z1] at e1
                  by_cases y : n = hm0.nx
                  · exfalso
                    rw [y, rset_same] at e2; cases e2
                    have := r.inj m k a z2 (by rw [hk]; rfl) e1 ha
                    exact kn (by rw [← this]; exact z1)
                  · obtain ⟨y1, y2⟩ := low h2 y
                    rw [rset_ne y, ce n y1] at e2
                    exact r.inj m n b z2 y2 e1 e2
              · by_cases z : n = hm0.nx
                · rw [z]; exact Nat.lt_succ_self _
                · rw [rset_ne z] at e1
                  exact Nat.lt_succ_of_lt (rc.dom n b e1)
              · rw [ge] at e1
                by_cases z : n = hm0.nx
                · rw [if_pos z] at e1; cases e1
                  rw [z]; exact unders_mono (Nat.le_succ _) _ f
                · rw [if_neg z] at e1
                  by_cases y : n < hm0.nx
                  · rw [if_pos y] at e1
                    exact r.dn n o e1 (Nat.lt_of_lt_of_le y c)
                  · rw [if_neg y] at e1; cases e1
              · unfold RV
                exact ⟨a, rset_same, rfl⟩
            · rw [if_neg f]; exact triv
          | _ => exact triv
      | _ => exact triv
  · rw [if_neg c]; exact triv
end
end Eng
set_option maxRecDepth 100000
set_option maxHeartbeats 4000000
/-! Sources, list comprehensions, displays, defs and their calls. -/
namespace Eng
open PySem L2

mutual
def D.same : D → D → Bool
  | .non, .non => true
  | .bl a, .bl b => decide (a = b)
  | .int a, .int b => decide (a = b)
  | .str a, .str b => decide (a = b)
  | .ty a, .ty b => decide (a = b)
  | .ref a, .ref b => decide (a = b)
  | .tup xs, .tup ys => D.sames xs ys
  | .kl xs, .kl ys => D.sames xs ys
  | _, _ => false
def D.sames : List D → List D → Bool
  | [], [] => true
  | x :: xs, y :: ys => D.same x y && D.sames xs ys
  | _, _ => false
end
mutual
theorem same_self : ∀ d : D, D.same d d = true
  | .non => rfl
  | .bl a => by simp [D.same]
  | .int a => by simp [D.same]
  | .str a => by simp [D.same]
  | .ty a => by simp [D.same]
  | .ref a => by simp [D.same]
  | .tup xs => by unfold D.same; exact sames_self xs
  | .kl xs => by unfold D.same; exact sames_self xs
theorem sames_self : ∀ d : List D, D.sames d d = true
  | [] => rfl
  | x :: xs => by unfold D.sames; rw [same_self x, sames_self xs]; rfl
end
mutual
theorem same_eq : ∀ a b : D, D.same a b = true → a = b
  | .non, b, h => by cases b <;> first | rfl | (simp [D.same] at h)
  | .bl a, b, h => by cases b <;> simp [D.same] at h; rw [h]
  | .int a, b, h => by cases b <;> simp [D.same] at h; rw [h]
  | .str a, b, h => by cases b <;> simp [D.same] at h; rw [h]
  | .ty a, b, h => by cases b <;> simp [D.same] at h; rw [h]
  | .ref a, b, h => by cases b <;> simp [D.same] at h; rw [h]
  | .tup xs, b, h => by
    cases b <;> simp [D.same] at h
    rw [sames_eq xs _ h]
  | .kl xs, b, h => by
    cases b <;> simp [D.same] at h
    rw [sames_eq xs _ h]
theorem sames_eq : ∀ a b : List D, D.sames a b = true → a = b
  | [], b, h => by cases b <;> first | rfl | (simp [D.sames] at h)
  | x :: xs, b, h => by
    cases b with
    | nil => simp [D.sames] at h
    | cons y ys =>
      simp only [D.sames, Bool.and_eq_true] at h
      rw [same_eq x y h.1, sames_eq xs ys h.2]
end
def big : Nat := 1000000
theorem big_le {n : Nat} (h : n ≤ big) : n ≤ sizeLine := Nat.le_trans h (by decide)
theorem big_lt {n : Nat} (h : n < big) : n < sizeLine := Nat.lt_of_lt_of_le h (by decide)

/-- the items of a list -/
def itemsAt (hm : Hm) (n : Nat) : Option (List D) := match hm.get n with
  | some (.lst xs) => some xs
  | some (.frz xs) => some xs
  | _ => none
def chkL (n : Nat) (xs : List D) : Hm → Bool := fun hm => match itemsAt hm n with
  | some ys => D.sames xs ys
  | none => false
theorem chkL_at {n : Nat} {xs : List D} {hm : Hm} (h : chkL n xs hm = true) : itemsAt hm n = some xs := by
  unfold chkL at h
  split at h
  · rename_i ys e; rw [e, sames_eq _ _ h]
  · cases h
section
variable {X : Cx} {G : Gd} {ρ : Nat → Option Addr} {H : Hp} {hm : Hm}
theorem RH.items (r : RH G ρ H hm) {n : Nat} {xs : List D} (h : itemsAt hm n = some xs) : ∃ a ys, ρ n = some a ∧ SqL G.K H a ys ∧ RVs G.K ρ H xs ys := by
  unfold itemsAt at h
  split at h
  · rename_i zs e
    cases h
    obtain ⟨a, ha, ys, h1, h2⟩ := r.obj n _ e
    exact ⟨a, ys, ha, SqL.of h1, h2⟩
  · rename_i zs e
    cases h
    obtain ⟨a, ha, ob, ys, h1, h2⟩ := r.obj n _ e
    exact ⟨a, ys, ha, .inl (.inr ⟨ob, h1⟩), h2⟩
  · cases h

/-! ### sources -/
def srcOf (d : D) : M (List D × (Hm → Bool)) := fun hm => match d with
  | .tup xs => some ((xs, fun _ => true), hm)
  | .ref n => match itemsAt hm n with
    | some xs => some ((xs, chkL n xs), hm)
    | none => none
  | _ => none
def srcV (f : Env → M D) : Src := fun env => bnd (f env) srcOf
theorem feeds_tup {K : PySem.W.Frag} (hK : G.K = K) {a : Addr} {xs : List D} {ys : List V} {ρ0 : Nat → Option Addr} {H0 : Hp} {hm0 : Hm} (r0 : RH G ρ0 H0 hm0) (hq : LT G.K H0 a ys) (hr : RVs G.K ρ0 H0 xs ys) : Feeds G (Itt K a) ρ0 H0 hm0 xs (fun _ => true) := by
  subst hK
  refine ⟨fun i ρ H hm hi l r _ => ?_, fun i ρ H hm x H' d hd l r _ y => ?_, fun ρ H hm l r _ => ?_⟩
  · have hq' := (l.tx a ys hq).sq
    have hl := hr.length
    exact ⟨ys, ys[i]'(by omega), hq', List.getElem?_eq_getElem _⟩
  · obtain ⟨e, y⟩ := y
    subst e
    have hx := y ys (l.tx a ys hq).sq
    obtain ⟨v, e1, e2⟩ := hr.get hd
    rw [hx] at e1; cases e1
    exact ⟨Le.refl, r, l.rv r0 e2⟩
  · exact ⟨ys, (l.tx a ys hq).sq, by rw [hr.length]; exact Nat.le_refl _⟩
theorem feeds_list {K : PySem.W.Frag} (hK : G.K = K) {n : Nat} {a : Addr} {xs : List D} {ρ0 : Nat → Option Addr} {H0 : Hp} {hm0 : Hm} (r0 : RH G ρ0 H0 hm0) (ha : ρ0 n = some a) : Feeds G (Itl K a) ρ0 H0 hm0 xs (chkL n xs) := by
  subst hK
  have at_ : ∀ {ρ : Nat → Option Addr} {H : Hp} {hm : Hm}, Le G.K ρ0 H0 hm0 ρ H hm → RH G ρ H hm → chkL n xs hm = true → ∃ ys, SqL G.K H a ys ∧ RVs G.K ρ H xs ys := fun {ρ H hm} l r c => by
    obtain ⟨b, ys, hb, h1, h2⟩ := r.items (chkL_at c)
    rw [l.same n (r0.dom n a ha), ha] at hb; cases hb
    exact ⟨ys, h1, h2⟩
  refine ⟨fun i ρ H hm hi l r c => ?_, fun i ρ H hm x H' d hd l r c y => ?_, fun ρ H hm l r c => ?_⟩
  · obtain ⟨ys, h1, h2⟩ := at_ l r c
    have hl := h2.length
    exact ⟨ys, ys[i]'(by omega), h1, List.getElem?_eq_getElem _⟩
  · obtain ⟨ys, h1, h2⟩ := at_ l r c
    obtain ⟨e, y⟩ := y
    subst e
    have hx := y ys h1
    obtain ⟨v, e1, e2⟩ := h2.get hd
    rw [hx] at e1; cases e1
    exact ⟨Le.refl, r, e2⟩
  · obtain ⟨ys, h1, h2⟩ := at_ l r c
    exact ⟨ys, h1, by rw [h2.length]; exact Nat.le_refl _⟩
theorem i_val {tg l : Expr} {f : Env → M D} (hK : G.K = X.K) (he : PE X l (tE G f)) : PI X tg l (tI G (srcV f)) := by
  refine ⟨fun pins s σ H R I h => ?_⟩
  obtain ⟨ρ, env, hm, items, chk, hm', rs, e, q⟩ := h
  obtain ⟨d, h1, e1, e⟩ := bnd_some e
  cases d with
  | tup xs =>
    cases e
    refine (pi_tup (tg := tg) he).run pins s σ H R I ⟨ρ, env, hm, .tup items, _, rs, e1, fun ρ1 v1 H1 l1 r1 z => ?_⟩
    unfold RV at z
    obtain ⟨a, ys, rfl, hq, hr⟩ := z
    exact ⟨a, rfl, ⟨ys, by rw [← hK]; exact hq.sq⟩, q ρ1 H1 _ l1 r1 (feeds_tup hK r1 hq hr)⟩
  | ref n =>
    have e : (match itemsAt h1 n with | some xs => some ((xs, chkL n xs), h1) | none => none) = some ((items, chk), hm') := e
    cases hi : itemsAt h1 n with
    | none => rw [hi] at e; cases e
    | some xs =>
      rw [hi] at e
      cases e
      refine (pi_list (tg := tg) he).run pins s σ H R I ⟨ρ, env, hm, .ref n, _, rs, e1, fun ρ1 v1 H1 l1 r1 z => ?_⟩
      unfold RV at z
      obtain ⟨a, ha, rfl⟩ := z
      obtain ⟨b, ys, hb, h1, h2⟩ := r1.items hi
      rw [ha] at hb; cases hb
      exact ⟨a, rfl, ⟨ys, by rw [← hK]; exact h1⟩, q ρ1 H1 _ l1 r1 (feeds_list hK r1 ha)⟩
  | _ => cases e
/-- range -/
def rangeD (lo : Int) (n : Nat) : List D := (List.range n).map fun (i : Nat) => D.int (lo + (i : Int))
theorem feeds_range {lo : Int} {n : Nat} {ρ0 : Nat → Option Addr} {H0 : Hp} {hm0 : Hm} : Feeds G (Itr lo n) ρ0 H0 hm0 (rangeD lo n) (fun _ => true) := by
  have hl : (rangeD lo n).length = n := by unfold rangeD; rw [List.length_map, List.length_range]
  refine ⟨fun i ρ H hm hi l r _ => by rw [hl] at hi; exact hi, fun i ρ H hm x H' d hd l r _ y => ?_, fun ρ H hm l r _ => by rw [hl]; exact Nat.le_refl _⟩
  obtain ⟨e, y⟩ := y
  subst e
  subst y
  refine ⟨Le.refl, r, ?_⟩
  unfold rangeD at hd
  rw [List.getElem?_map] at hd
  cases hk : (List.range n)[i]? with
  | none => rw [hk] at hd; cases hd
  | some k =>
    rw [hk] at hd
    have hk2 := List.getElem?_eq_some_iff.mp hk
    obtain ⟨z1, z2⟩ := hk2
    rw [List.getElem_range] at z2
    subst z2
    cases hd
    unfold RV; rfl
def rngOk (i : Int) : Bool := decide (-(2 ^ 62) ≤ i) && decide (i < 2 ^ 62)
theorem rngOk_iff {i : Int} (h : rngOk i = true) : -(2 ^ 62) ≤ i ∧ i < 2 ^ 62 := by
  unfold rngOk at h
  rw [Bool.and_eq_true] at h
  exact ⟨of_decide_eq_true h.1, of_decide_eq_true h.2⟩
def srcRg (ds : List D) : M (List D × (Hm → Bool)) := fun hm => match ds with
  | [.int j] => if rngOk j = true then some ((rangeD 0 j.toNat, fun _ => true), hm) else none
  | [.int i, .int j] => if rngOk i = true ∧ rngOk j = true then some ((rangeD i (j - i).toNat, fun _ => true), hm) else none
  | _ => none
def srcRange (fa : Env → M (List D)) : Src := fun env => bnd (fa env) srcRg
theorem i_range1 {tg a : Expr} {p pos : Pos} {fa : Env → M (List D)} (hg : Gl X "range") (hm : X.mg "range" = none) (ha : PA X [a] (tA G fa)) (hs : starEach [a] X.env = [(false, eval a X.env)] := by rfl) (h1 : ∀ env hm ds hm', fa env hm = some (ds, hm') → ds.length = 1) :
    PI X tg (.Call (.Name "range" p) [a] [] pos) (tI G (srcRange fa)) := PI.imp (pi_range1 hg hm ha hs) fun σ H R ⟨ρ, env, hm, items, chk, hm', rs, e, q⟩ => by
  obtain ⟨ds, h2, e1, e⟩ := bnd_some e
  have hl := h1 _ _ _ _ e1
  match ds, hl, e1, e with
  | [d], _, e1, e =>
    cases d with
    | int j =>
      have e : (if rngOk j = true then some ((rangeD 0 j.toNat, fun _ => true), h2) else none) = some ((items, chk), hm') := e
      by_cases c : rngOk j = true
      · rw [if_pos c] at e
        cases e
        refine ⟨ρ, env, hm, _, _, rs, e1, fun ρ1 vs H1 l1 r1 z => ?_⟩
        unfold RVs at z
        obtain ⟨y, r, rfl, z1, z2⟩ := z
        unfold RVs at z2
        unfold RV at z1
        subst z1; subst z2
        obtain ⟨c1, c2⟩ := rngOk_iff c
        exact ⟨j, rfl, c1, c2, q ρ1 H1 _ l1 r1 feeds_range⟩
      · rw [if_neg c] at e; cases e
    | _ => cases e
theorem i_range2 {tg a b : Expr} {p pos : Pos} {fa : Env → M (List D)} (hg : Gl X "range") (hm : X.mg "range" = none) (ha : PA X [a, b] (tA G fa)) (hs : starEach [a, b] X.env = [(false, eval a X.env), (false, eval b X.env)] := by rfl) (hs2 : starEach [b] X.env = [(false, eval b X.env)] := by rfl)
    (h1 : ∀ env hm ds hm', fa env hm = some (ds, hm') → ds.length = 2) : PI X tg (.Call (.Name "range" p) [a, b] [] pos) (tI G (srcRange fa)) := PI.imp (pi_range2 hg hm ha hs hs2) fun σ H R ⟨ρ, env, hm, items, chk, hm', rs, e, q⟩ => by
  obtain ⟨ds, h2, e1, e⟩ := bnd_some e
  have hl := h1 _ _ _ _ e1
  match ds, hl, e1, e with
  | [d, d'], _, e1, e =>
    cases d with
    | int i =>
      cases d' with
      | int j =>
        have e : (if rngOk i = true ∧ rngOk j = true then some ((rangeD i (j - i).toNat, fun _ => true), h2) else none) = some ((items, chk), hm') := e
        by_cases c : rngOk i = true ∧ rngOk j = true
        · rw [if_pos c] at e
          cases e
          refine ⟨ρ, env, hm, _, _, rs, e1, fun ρ1 vs H1 l1 r1 z => ?_⟩
          unfold RVs at z
          obtain ⟨y, r, rfl, z1, z2⟩ := z
          unfold RVs at z2
          obtain ⟨y2, r2, rfl, z2, z3⟩ := z2
          unfold RVs at z3
          unfold RV at z1 z2
          subst z1; subst z2; subst z3
          obtain ⟨c1, c2⟩ := rngOk_iff c.1
          obtain ⟨c3, c4⟩ := rngOk_iff c.2
          exact ⟨i, j, rfl, ⟨c1, c2, c3, c4⟩, q ρ1 H1 _ l1 r1 feeds_range⟩
        · rw [if_neg c] at e; cases e
      | _ => cases e
    | _ => cases e
/-- lists of so many -/
theorem len_nil : ∀ (env : Env) (hm : Hm) (ds : List D) (hm' : Hm), fNil env hm = some (ds, hm') → ds.length = 0 := fun _ _ _ _ e => by cases e; rfl
theorem len_cons {f : Env → M D} {g : Env → M (List D)} {n : Nat} (h : ∀ (env : Env) (hm : Hm) (ds : List D) (hm' : Hm), g env hm = some (ds, hm') → ds.length = n) : ∀ (env : Env) (hm : Hm) (ds : List D) (hm' : Hm), fCons f g env hm = some (ds, hm') → ds.length = n + 1 := fun env hm ds hm' e => by
  obtain ⟨x, h1, e1, e⟩ := bnd_some e
  obtain ⟨xs, h2, e2, e⟩ := bnd_some e
  cases e
  rw [List.length_cons, h _ _ _ _ e2]

/-! ### enumerate, zip: new pairs -/
theorem rv_pair {K : PySem.W.Frag} {T : Addr} {x y : V} {d e : D} (hT : H T = none) (hx : RV K ρ H d x) (hy : RV K ρ H e y) : RV K ρ (upd H T (.tup [x, y])) (.tup [d, e]) (.ref T) := by
  have tx : TX K H (upd H T (.tup [x, y])) := TX.new hT
  unfold RV
  exact ⟨T, [x, y], rfl, upd_same, .cons (RV.mono (fun _ _ z => z) tx _ _ hx) (.cons (RV.mono (fun _ _ z => z) tx _ _ hy) .nil)⟩
def enumD : Nat → List D → List D
  | _, [] => []
  | k, x :: xs => .tup [.int k, x] :: enumD (k + 1) xs
theorem enumD_len : ∀ (k : Nat) (xs : List D), (enumD k xs).length = xs.length
  | _, [] => rfl
  | k, x :: xs => by unfold enumD; rw [List.length_cons, List.length_cons, enumD_len]
theorem enumD_get : ∀ (xs : List D) (k i : Nat) (d : D), (enumD k xs)[i]? = some d → ∃ x, xs[i]? = some x ∧ d = .tup [.int ((k + i : Nat) : Int), x]
  | [], _, _, _, h => by simp [enumD] at h
  | x :: xs, k, 0, d, h => by
    simp [enumD] at h
    exact ⟨x, rfl, by rw [← h]; rfl⟩
  | x :: xs, k, i + 1, d, h => by
    have h' : (enumD (k + 1) xs)[i]? = some d := by simpa [enumD] using h
    obtain ⟨y, e1, e2⟩ := enumD_get xs (k + 1) i d h'
    exact ⟨y, by simpa using e1, by rw [e2]; congr 3; omega⟩
end
end Eng
set_option maxRecDepth 100000
set_option maxHeartbeats 4000000
/-! enumerate, zip; targets by their slots; list comprehensions; displays; defs and their calls. -/
namespace Eng
open PySem L2

section
variable {X : Cx} {G : Gd} {ρ : Nat → Option Addr} {H : Hp} {hm : Hm}
theorem feeds_enum {K : PySem.W.Frag} (hK : G.K = K) {n : Nat} {a : Addr} {xs : List D} {ρ0 : Nat → Option Addr} {H0 : Hp} {hm0 : Hm} (r0 : RH G ρ0 H0 hm0) (ha : ρ0 n = some a) : Feeds G (Ite K a) ρ0 H0 hm0 (enumD 0 xs) (chkL n xs) := by
  subst hK
  have at_ : ∀ {ρ : Nat → Option Addr} {H : Hp} {hm : Hm}, Le G.K ρ0 H0 hm0 ρ H hm → RH G ρ H hm → chkL n xs hm = true → ∃ ys, SqL G.K H a ys ∧ RVs G.K ρ H xs ys := fun {ρ H hm} l r c => by
    obtain ⟨b, ys, hb, h1, h2⟩ := r.items (chkL_at c)
    rw [l.same n (r0.dom n a ha), ha] at hb; cases hb
    exact ⟨ys, h1, h2⟩
  refine ⟨fun i ρ H hm hi l r c => ?_, fun i ρ H hm x H' d hd l r c y => ?_, fun ρ H hm l r c => ?_⟩
  · obtain ⟨ys, h1, h2⟩ := at_ l r c
    have hl := h2.length
    rw [enumD_len] at hi
    exact ⟨ys, ys[i]'(by omega), h1, List.getElem?_eq_getElem _⟩
  · obtain ⟨ys, h1, h2⟩ := at_ l r c
    obtain ⟨T, x', rfl, hT, rfl, y⟩ := y
    have hx := y ys h1
    obtain ⟨z, e1, e2⟩ := enumD_get xs 0 i d hd
    obtain ⟨v, e3, e4⟩ := h2.get e1
    rw [hx] at e3; cases e3
    rw [e2]
    refine ⟨Le.tup hT, r.tup hT, rv_pair hT ?_ e4⟩
    unfold RV
    rw [Nat.zero_add]
  · obtain ⟨ys, h1, h2⟩ := at_ l r c
    exact ⟨ys, h1, by rw [enumD_len, h2.length]; exact Nat.le_refl _⟩
def srcEn (ds : List D) : M (List D × (Hm → Bool)) := fun hm => match ds with
  | [.ref n] => match itemsAt hm n with
    | some xs => some ((enumD 0 xs, chkL n xs), hm)
    | none => none
  | _ => none
def srcEnum (fa : Env → M (List D)) : Src := fun env => bnd (fa env) srcEn
theorem i_enum {e : Expr} {p pos tpos : Pos} {elts : List Expr} {kk : Nat} {fa : Env → M (List D)} (hK : G.K = X.K) (hg : Gl X "enumerate") (hm : X.mg "enumerate" = none) (ha : PA X [e] (tA G fa)) (hs : starEach [e] X.env = [(false, eval e X.env)] := by rfl) :
    PI X (.Tuple elts kk tpos) (.Call (.Name "enumerate" p) [e] [] pos) (tI G (srcEnum fa)) := PI.imp (pi_enum hg hm ha hs) fun σ H R ⟨ρ, env, hm, items, chk, hm', rs, e, q⟩ => by
  obtain ⟨ds, h2, e1, e⟩ := bnd_some e
  unfold srcEn at e
  split at e
  · rename_i n
    split at e
    · rename_i xs hi
      cases e
      refine ⟨ρ, env, hm, _, _, rs, e1, fun ρ1 vs H1 l1 r1 z => ?_⟩
      unfold RVs at z
      obtain ⟨y, r, rfl, z1, z2⟩ := z
      unfold RVs at z2
      unfold RV at z1
      obtain ⟨a, ha, rfl⟩ := z1
      subst z2
      obtain ⟨b, ys, hb, h1, h2⟩ := r1.items hi
      rw [ha] at hb; cases hb
      exact ⟨a, ys, rfl, by rw [← hK]; exact h1, q ρ1 H1 _ l1 r1 (feeds_enum hK r1 ha)⟩
    · cases e
  · cases e
def zipD : List D → List D → List D
  | x :: xs, y :: ys => .tup [x, y] :: zipD xs ys
  | _, _ => []
theorem zipD_len : ∀ xs ys : List D, (zipD xs ys).length = min xs.length ys.length
  | [], ys => by simp [zipD]
  | x :: xs, [] => by simp [zipD]
  | x :: xs, y :: ys => by simp [zipD, zipD_len xs ys]
theorem zipD_get : ∀ (xs ys : List D) (i : Nat) (d : D), (zipD xs ys)[i]? = some d → ∃ x y, xs[i]? = some x ∧ ys[i]? = some y ∧ d = .tup [x, y]
  | [], ys, i, d, h => by simp [zipD] at h
  | x :: xs, [], i, d, h => by simp [zipD] at h
  | x :: xs, y :: ys, 0, d, h => by simp [zipD] at h; exact ⟨x, y, rfl, rfl, h.symm⟩
  | x :: xs, y :: ys, i + 1, d, h => by
    obtain ⟨u, v, e1, e2, e3⟩ := zipD_get xs ys i d (by simpa [zipD] using h)
    exact ⟨u, v, by simpa using e1, by simpa using e2, e3⟩
theorem feeds_zipT {K : PySem.W.Frag} (hK : G.K = K) {a b : Addr} {xs xs2 : List D} {ys ys2 : List V} {ρ0 : Nat → Option Addr} {H0 : Hp} {hm0 : Hm} (r0 : RH G ρ0 H0 hm0) (hq : LT G.K H0 a ys) (hr : RVs G.K ρ0 H0 xs ys) (hq2 : LT G.K H0 b ys2) (hr2 : RVs G.K ρ0 H0 xs2 ys2) :
    Feeds G (RZ.ItzT K a b) ρ0 H0 hm0 (zipD xs xs2) (fun _ => true) := by
  subst hK
  have l1 := hr.length
  have l2 := hr2.length
  refine ⟨fun i ρ H hm hi l r _ => ?_, fun i ρ H hm x H' d hd l r _ y => ?_, fun ρ H hm l r _ => ?_⟩
  · rw [zipD_len] at hi
    exact ⟨ys, ys2, ys[i]'(by omega), ys2[i]'(by omega), (l.tx _ _ hq).sq, (l.tx _ _ hq2).sq, List.getElem?_eq_getElem _, List.getElem?_eq_getElem _⟩
  · obtain ⟨T, x', y', rfl, hT, rfl, f1, f2⟩ := y
    have h1 := f1 ys (l.tx _ _ hq).sq
    have h2 := f2 ys2 (l.tx _ _ hq2).sq
    obtain ⟨u, v, e1, e2, rfl⟩ := zipD_get _ _ _ _ hd
    obtain ⟨w1, a1, a2⟩ := hr.get e1
    obtain ⟨w2, b1, b2⟩ := hr2.get e2
    rw [h1] at a1; cases a1
    rw [h2] at b1; cases b1
    exact ⟨Le.tup hT, r.tup hT, rv_pair hT (l.rv r0 a2) (l.rv r0 b2)⟩
  · refine ⟨ys, ys2, (l.tx _ _ hq).sq, (l.tx _ _ hq2).sq, ?_⟩
    rw [zipD_len]; omega
theorem feeds_zipL {K : PySem.W.Frag} (hK : G.K = K) {n n2 : Nat} {a b : Addr} {xs xs2 : List D} {ρ0 : Nat → Option Addr} {H0 : Hp} {hm0 : Hm} (r0 : RH G ρ0 H0 hm0) (ha : ρ0 n = some a) (hb : ρ0 n2 = some b) :
    Feeds G (Itz K a b) ρ0 H0 hm0 (zipD xs xs2) (fun hm => chkL n xs hm && chkL n2 xs2 hm) := by
  subst hK
  have at_ : ∀ {ρ : Nat → Option Addr} {H : Hp} {hm : Hm} {k : Nat} {c : Addr} {zs : List D}, ρ0 k = some c → Le G.K ρ0 H0 hm0 ρ H hm → RH G ρ H hm → chkL k zs hm = true → ∃ ys, SqL G.K H c ys ∧ RVs G.K ρ H zs ys := fun {ρ H hm k c' zs} hc l r c => by
    obtain ⟨b, ys, hb, h1, h2⟩ := r.items (chkL_at c)
    rw [l.same k (r0.dom k c' hc), hc] at hb; cases hb
    exact ⟨ys, h1, h2⟩
  refine ⟨fun i ρ H hm hi l r c => ?_, fun i ρ H hm x H' d hd l r c y => ?_, fun ρ H hm l r c => ?_⟩
  · rw [Bool.and_eq_true] at c
    obtain ⟨ys, h1, h2⟩ := at_ ha l r c.1
    obtain ⟨ys2, h3, h4⟩ := at_ hb l r c.2
    have l1 := h2.length
    have l2 := h4.length
    rw [zipD_len] at hi
    exact ⟨ys, ys2, ys[i]'(by omega), ys2[i]'(by omega), h1, h3, List.getElem?_eq_getElem _, List.getElem?_eq_getElem _⟩
  · rw [Bool.and_eq_true] at c
    obtain ⟨ys, h1, h2⟩ := at_ ha l r c.1
    obtain ⟨ys2, h3, h4⟩ := at_ hb l r c.2
    obtain ⟨T, x', y', rfl, hT, rfl, f1, f2⟩ := y
    have k1 := f1 ys h1
    have k2 := f2 ys2 h3
    obtain ⟨u, v, e1, e2, rfl⟩ := zipD_get _ _ _ _ hd
    obtain ⟨w1, a1, a2⟩ := h2.get e1
    obtain ⟨w2, b1, b2⟩ := h4.get e2
    rw [k1] at a1; cases a1
    rw [k2] at b1; cases b1
    exact ⟨Le.tup hT, r.tup hT, rv_pair hT a2 b2⟩
  · rw [Bool.and_eq_true] at c
    obtain ⟨ys, h1, h2⟩ := at_ ha l r c.1
    obtain ⟨ys2, h3, h4⟩ := at_ hb l r c.2
    have l1 := h2.length
    have l2 := h4.length
    refine ⟨ys, ys2, h1, h3, ?_⟩
    rw [zipD_len]; omega
def srcZp (ds : List D) : M (List D × (Hm → Bool)) := fun hm => match ds with
  | [.tup xs, .tup ys] => some ((zipD xs ys, fun _ => true), hm)
  | [.ref n, .ref m] => match itemsAt hm n, itemsAt hm m with
    | some xs, some ys => some ((zipD xs ys, fun hm => chkL n xs hm && chkL m ys hm), hm)
    | _, _ => none
  | _ => none
def srcZip (fa : Env → M (List D)) : Src := fun env => bnd (fa env) srcZp
theorem i_zip {e e2 : Expr} {p pos tpos : Pos} {elts : List Expr} {kk : Nat} {fa : Env → M (List D)} (hK : G.K = X.K) (hg : Gl X "zip") (hm : X.mg "zip" = none) (ha : PA X [e, e2] (tA G fa))
    (hs : starEach [e, e2] X.env = (false, eval e X.env) :: starEach [e2] X.env := by rfl) (hpl : (backTo pos (starEach [e2] X.env)).any (·.1) = false := by rfl) :
    PI X (.Tuple elts kk tpos) (.Call (.Name "zip" p) [e, e2] [] pos) (tI G (srcZip fa)) := PI.imp (RZ.pi_zipA hg hm ha hs hpl) fun σ H R ⟨ρ, env, hm, items, chk, hm', rs, e, q⟩ => by
  obtain ⟨ds, h2, e1, e⟩ := bnd_some e
  unfold srcZp at e
  split at e
  · cases e
    refine ⟨ρ, env, hm, _, _, rs, e1, fun ρ1 vs H1 l1 r1 z => ?_⟩
    unfold RVs at z
    obtain ⟨y, r, rfl, z1, z2⟩ := z
    unfold RVs at z2
    obtain ⟨y2, r2, rfl, z2, z3⟩ := z2
    unfold RVs at z3
    unfold RV at z1 z2
    obtain ⟨a, ys, rfl, q1, v1⟩ := z1
    obtain ⟨b, ys2, rfl, q2, v2⟩ := z2
    subst z3
    exact ⟨a, b, ys, ys2, rfl, .inr ⟨by rw [← hK]; exact q1.sq, by rw [← hK]; exact q2.sq, q ρ1 H1 _ l1 r1 (feeds_zipT hK r1 q1 v1 q2 v2)⟩⟩
  · split at e
    · rename_i hi hi2
      cases e
      refine ⟨ρ, env, hm, _, _, rs, e1, fun ρ1 vs H1 l1 r1 z => ?_⟩
      unfold RVs at z
      obtain ⟨y, r, rfl, z1, z2⟩ := z
      unfold RVs at z2
      obtain ⟨y2, r2, rfl, z2, z3⟩ := z2
      unfold RVs at z3
      unfold RV at z1 z2
      obtain ⟨a, ha, rfl⟩ := z1
      obtain ⟨b, hb, rfl⟩ := z2
      subst z3
      obtain ⟨a', ys, ha', h1, h2⟩ := r1.items hi
      obtain ⟨b', ys2, hb', h3, h4⟩ := r1.items hi2
      rw [ha] at ha'; cases ha'
      rw [hb] at hb'; cases hb'
      exact ⟨a, b, ys, ys2, rfl, .inl ⟨by rw [← hK]; exact h1, by rw [← hK]; exact h3, q ρ1 H1 _ l1 r1 (feeds_zipL hK r1 ha hb)⟩⟩
    · cases e
  · cases e

/-! ### displays -/
def mTup (ds : List D) : M D := fun hm => if ds.length ≤ big then some (.tup ds, hm) else none
def mLst (ds : List D) : M D := fun hm => if ds.length ≤ big then some (.ref hm.nx, hm.new (.lst ds)) else none
/-- a new tuple of what stands -/
theorem rv_tup {K : PySem.W.Frag} {T : Addr} {ds : List D} {vs : List V} (hT : H T = none) (h : RVs K ρ H ds vs) : RV K ρ (upd H T (.tup vs)) (.tup ds) (.ref T) := by
  unfold RV
  exact ⟨T, vs, rfl, upd_same, RVs.mono (fun _ _ z => z) (TX.new hT) _ _ h⟩
theorem rh_lst {p : Addr} {ds : List D} {vs : List V} (r : RH G ρ H hm) (hp : H p = none) (h : RVs G.K ρ H ds vs) :
    RH G (rset ρ hm.nx p) (upd H p (.lst vs)) (hm.new (.lst ds)) ∧ Le G.K ρ H hm (rset ρ hm.nx p) (upd H p (.lst vs)) (hm.new (.lst ds)) :=
  r.new hp ⟨vs, upd_same, RVs.mono (fun _ _ z => z) (TX.new hp) _ _ h⟩
theorem rv_new {K : PySem.W.Frag} {n : Nat} {p : Addr} : RV K (rset ρ n p) H (.ref n) (.ref p) := by
  unfold RV; exact ⟨p, rset_same, rfl⟩
theorem e_tup {es : List Expr} {fa : Env → M (List D)} {k pos} (h : PA X es (tA G fa)) : PE X (.Tuple es k pos) (tE G (fCall mTup fa)) := PE.imp (pe_tup h) fun σ H Q ⟨ρ, env, hm, d, hm', rs, e, q⟩ => by
  obtain ⟨ds, h2, e1, e⟩ := bnd_some e
  unfold mTup at e
  split at e
  · rename_i c
    cases e
    refine ⟨ρ, env, hm, ds, _, rs, e1, fun ρ1 vs H1 l1 r1 z => ⟨by rw [← z.length]; exact big_le c, fun p hp => ?_⟩⟩
    exact q ρ1 _ _ (l1.trans (Le.tup hp)) (r1.tup hp) (rv_tup hp z)
  · cases e
theorem e_lst {es : List Expr} {fa : Env → M (List D)} {pos} (h : PA X es (tA G fa)) : PE X (.List es pos) (tE G (fCall mLst fa)) := PE.imp (pe_lst h) fun σ H Q ⟨ρ, env, hm, d, hm', rs, e, q⟩ => by
  obtain ⟨ds, h2, e1, e⟩ := bnd_some e
  unfold mLst at e
  split at e
  · rename_i c
    cases e
    refine ⟨ρ, env, hm, ds, _, rs, e1, fun ρ1 vs H1 l1 r1 z => ⟨by rw [← z.length]; exact big_le c, fun p hp => ?_⟩⟩
    obtain ⟨a, b⟩ := rh_lst r1 hp z
    exact q _ _ _ (l1.trans b) a rv_new
  · cases e

/-! ### targets by slots -/
inductive Tgt where
  | nm (i : Nat) | tp (ts : List Tgt)
mutual
def Tgt.tg (K : PySem.W.Frag) : Tgt → TG
  | .nm i => gName i
  | .tp ts => gTup K ts.length (Tgt.tgs K ts)
def Tgt.tgs (K : PySem.W.Frag) : List Tgt → TGs
  | [] => gNil
  | t :: r => gCons (Tgt.tg K t) (Tgt.tgs K r)
end
mutual
def Tgt.store : Tgt → D → Env → Option Env
  | .nm i, d, env => some (env.set i (some d))
  | .tp ts, .tup xs, env => Tgt.stores ts xs env
  | .tp _, _, _ => none
def Tgt.stores : List Tgt → List D → Env → Option Env
  | [], [], env => some env
  | t :: ts, x :: xs, env => match Tgt.store t x env with
    | some e => Tgt.stores ts xs e
    | none => none
  | _, _, _ => none
end
mutual
def Tgt.within (vs : List Nat) : Tgt → Bool
  | .nm i => vs.contains i
  | .tp ts => Tgt.withins vs ts
def Tgt.withins (vs : List Nat) : List Tgt → Bool
  | [] => true
  | t :: r => Tgt.within vs t && Tgt.withins vs r
end
theorem wipe_set {σ : St} {i : Nat} {x : Option V} : ∀ {vs : List Nat}, i ∈ vs → wipe (σ.set i x) vs = wipe σ vs
  | v :: vs, h => by
    have comm : ∀ (vs : List Nat), i ∉ vs → wipe (σ.set i x) vs = (wipe σ vs).set i x := by
      intro vs
      induction vs with
      | nil => intro _; rfl
      | cons w ws ih =>
        intro hn
        have hn1 : w ≠ i := fun e => hn (by rw [e]; exact List.mem_cons_self)
        have hn2 : i ∉ ws := fun e => hn (List.mem_cons_of_mem _ e)
        show (wipe (σ.set i x) ws).set w none = ((wipe σ ws).set w none).set i x
        rw [ih hn2, List.set_comm _ _ hn1]
    show (wipe (σ.set i x) vs).set v none = (wipe σ vs).set v none
    by_cases c : i ∈ vs
    · rw [wipe_set c]
    · have e : i = v := by
        rcases List.mem_cons.mp h with e | e
        · exact e
        · exact absurd e c
      subst e
      rw [comm vs c, List.set_set]
theorem stores_len : ∀ {ts : List Tgt} {xs : List D} {env env' : Env}, Tgt.stores ts xs env = some env' → xs.length = ts.length
  | [], [], _, _, _ => rfl
  | [], _ :: _, _, _, h => by simp [Tgt.stores] at h
  | _ :: _, [], _, _, h => by simp [Tgt.stores] at h
  | t :: ts, x :: xs, env, env', h => by
    unfold Tgt.stores at h
    split at h
    · rw [List.length_cons, List.length_cons, stores_len h]
    · cases h
mutual
theorem tgt_run {vs : List Nat} {Q : St → Hp → Prop} : ∀ (t : Tgt) {env env' : Env} {σ : St} {d : D} {v : V}, RS G ρ env hm σ H → RV G.K ρ H d v → Tgt.store t d env = some env' → Tgt.within vs t = true →
    (∀ σ', RS G ρ env' hm σ' H → wipe σ' vs = wipe σ vs → Q σ' H) → Tgt.tg G.K t v σ H Q
  | .nm i, env, env', σ, d, v, r, rv, e, w, q => by
    unfold Tgt.store at e
    cases e
    unfold Tgt.within at w
    unfold Tgt.tg
    exact q _ (r.set rv i) (wipe_set (by simpa using w))
  | .tp ts, env, env', σ, d, v, r, rv, e, w, q => by
    cases d with
    | tup xs =>
      unfold Tgt.store at e
      unfold Tgt.within at w
      unfold RV at rv
      obtain ⟨a, ys, rfl, hq, rr⟩ := rv
      unfold Tgt.tg
      exact ⟨a, ys, rfl, hq.sq, by rw [← rr.length]; exact stores_len e, tgts_run ts r rr e w q⟩
    | _ => simp [Tgt.store] at e
theorem tgts_run {vs : List Nat} {Q : St → Hp → Prop} : ∀ (ts : List Tgt) {env env' : Env} {σ : St} {ds : List D} {us : List V}, RS G ρ env hm σ H → RVs G.K ρ H ds us → Tgt.stores ts ds env = some env' → Tgt.withins vs ts = true →
    (∀ σ', RS G ρ env' hm σ' H → wipe σ' vs = wipe σ vs → Q σ' H) → Tgt.tgs G.K ts us σ H Q
  | [], env, env', σ, ds, us, r, rv, e, w, q => by
    cases ds with
    | nil =>
      unfold Tgt.stores at e; cases e
      unfold RVs at rv
      unfold Tgt.tgs
      exact ⟨rv, q σ r rfl⟩
    | cons => simp [Tgt.stores] at e
  | t :: ts, env, env', σ, ds, us, r, rv, e, w, q => by
    cases ds with
    | nil => simp [Tgt.stores] at e
    | cons x xs =>
      unfold RVs at rv
      obtain ⟨y, ys, rfl, z1, z2⟩ := rv
      unfold Tgt.withins at w
      rw [Bool.and_eq_true] at w
      unfold Tgt.stores at e
      cases he : Tgt.store t x env with
      | none => rw [he] at e; cases e
      | some e1 =>
        rw [he] at e
        unfold Tgt.tgs
        refine ⟨y, ys, rfl, tgt_run t r z1 he w.1 fun σ1 r1 w1 => ?_⟩
        exact tgts_run ts r1 z2 e w.2 fun σ2 r2 w2 => q σ2 r2 (w2.trans w1)
end
def gTgt (t : Tgt) : D → Env → M Env := fun d env hm => match Tgt.store t d env with
  | some e => some (e, hm)
  | none => none
mutual
/-- all slots, for plain loops -/
def Tgt.slots : Tgt → List Nat
  | .nm i => [i]
  | .tp ts => Tgt.slotss ts
def Tgt.slotss : List Tgt → List Nat
  | [] => []
  | t :: r => Tgt.slots t ++ Tgt.slotss r
end
mutual
theorem within_mono {vs ws : List Nat} (h : ∀ i ∈ vs, i ∈ ws) : ∀ t : Tgt, Tgt.within vs t = true → Tgt.within ws t = true
  | .nm i, w => by
    unfold Tgt.within at w ⊢
    simp only [List.contains_iff_mem] at w ⊢
    exact h i w
  | .tp ts, w => by unfold Tgt.within at w ⊢; exact withins_mono h ts w
theorem withins_mono {vs ws : List Nat} (h : ∀ i ∈ vs, i ∈ ws) : ∀ t : List Tgt, Tgt.withins vs t = true → Tgt.withins ws t = true
  | [], _ => rfl
  | t :: r, w => by
    unfold Tgt.withins at w ⊢
    rw [Bool.and_eq_true] at w ⊢
    exact ⟨within_mono h t w.1, withins_mono h r w.2⟩
end
mutual
theorem within_slots : ∀ t : Tgt, Tgt.within (Tgt.slots t) t = true
  | .nm i => by simp [Tgt.within, Tgt.slots]
  | .tp ts => by unfold Tgt.within Tgt.slots; exact withins_slots ts
theorem withins_slots : ∀ t : List Tgt, Tgt.withins (Tgt.slotss t) t = true
  | [] => rfl
  | t :: r => by
    unfold Tgt.withins Tgt.slotss
    rw [Bool.and_eq_true]
    exact ⟨within_mono (fun i hi => List.mem_append_left _ hi) t (within_slots t), withins_mono (fun i hi => List.mem_append_right _ hi) r (withins_slots r)⟩
end
theorem g_tgt {e : Expr} (t : Tgt) (hK : G.K = X.K) (h : PG X e (Tgt.tg X.K t)) : PG X e (tG G (gTgt t)) := PG.imp h fun v σ H Q ⟨ρ, env, hm, d, env', hm', rs, rv, e, q⟩ => by
  unfold gTgt at e
  split at e
  · rename_i e1 he
    cases e
    rw [← hK]
    exact tgt_run t rs rv he (within_slots t) fun σ' r _ => q ρ σ' H Le.refl r
  · cases e
end
end Eng
set_option maxRecDepth 100000
set_option maxHeartbeats 4000000
/-! List comprehensions; defs and their calls. -/
namespace Eng
open PySem PySem.Spec PyProof.Rows L2

def wipeE (env : Env) : List Nat → Env
  | [] => env
  | v :: vs => (wipeE env vs).set v none
section
variable {X : Cx} {G : Gd} {ρ : Nat → Option Addr} {H : Hp} {hm : Hm}
theorem RS.forget {env : Env} {σ : L2.St} (r : RS G ρ env hm σ H) (i : Nat) : RS G ρ (env.set i none) hm (σ.set i none) H := by
  refine ⟨r.rh, fun j d e => ?_, by rw [List.length_set, List.length_set]; exact r.len⟩
  by_cases c : i = j
  · subst c
    by_cases hi : i < env.length
    · rw [List.getElem?_set_self hi] at e; cases e
    · rw [List.getElem?_eq_none (by rw [List.length_set]; omega)] at e; cases e
  · rw [List.getElem?_set_ne c] at e
    obtain ⟨v, a, b⟩ := r.re j d e
    exact ⟨v, by rw [List.getElem?_set_ne c]; exact a, b⟩
theorem RS.wiped {env : Env} {σ : L2.St} (r : RS G ρ env hm σ H) : ∀ vs : List Nat, RS G ρ (wipeE env vs) hm (wipe σ vs) H
  | [] => r
  | v :: vs => (RS.wiped r vs).forget v
/-- one more item at the list n -/
def app1 (n : Nat) (y : D) : M Unit := fun hm => match hm.get n with
  | some (.lst acc) => if acc.length < big then some ((), hm.put n (.lst (acc ++ [y])) (D.under (n + 1) y)) else none
  | _ => none
theorem unders_append {n : Nat} : ∀ {xs ys : List D}, D.unders n xs = true → D.unders n ys = true → D.unders n (xs ++ ys) = true
  | [], ys, _, h => h
  | x :: xs, ys, h, h2 => by
    unfold D.unders at h
    rw [Bool.and_eq_true] at h
    rw [List.cons_append]; unfold D.unders
    rw [h.1, unders_append h.2 h2]; rfl
theorem app1_ok {n : Nat} {y : D} {hm' : Hm} {u : Unit} {a : Addr} {v : V} (r : RH G ρ H hm) (ha : ρ n = some a) (e : app1 n y hm = some (u, hm')) (hv : RV G.K ρ H y v) :
    ∃ acc, H a = some (.lst acc) ∧ acc.length < sizeLine ∧ RH G ρ (upd H a (.lst (acc ++ [v]))) hm' ∧ Le G.K ρ H hm ρ (upd H a (.lst (acc ++ [v]))) hm' := by
  unfold app1 at e
  split at e
  · rename_i acc hn
    split at e
    · rename_i hl
      cases e
      obtain ⟨b, hb, ys, h1, h2⟩ := r.obj n _ hn
      rw [ha] at hb; cases hb
      refine ⟨ys, h1, by rw [← h2.length]; exact big_lt hl, ?_⟩
      have tx : TX G.K H (upd H a (.lst (ys ++ [v]))) := TX.mut h1 (by trivial)
      refine r.put hn ha h1 (by trivial) ⟨_, upd_same, (RVs.mono (fun _ _ z => z) tx _ _ h2).append (.cons (RV.mono (fun _ _ z => z) tx _ _ hv) .nil)⟩ fun b1 b2 => ?_
      refine unders_append b2 ?_
      unfold D.unders
      rw [b1]; rfl
    · cases e
  · cases e

/-! ### list comprehensions -/
def lcLoop (t : Tgt) (c : Env → M Bool) (f : Env → M D) (chk : Hm → Bool) (n : Nat) (env : Env) : List D → M Unit
  | [] => ask chk
  | x :: xs => bnd (ask chk) fun _ => match Tgt.store t x env with
    | some e => bnd (c e) fun b => if b = true then bnd (f e) fun y => bnd (app1 n y) fun _ => lcLoop t c f chk n env xs else lcLoop t c f chk n env xs
    | none => fail
def fLc (src : Src) (t : Tgt) (c : Env → M Bool) (f : Env → M D) (vs : List Nat) : Env → M D := fun env => bnd (src env) fun p hm =>
  bnd (lcLoop t c f p.2 hm.nx (wipeE env vs) p.1) (fun _ => ret (.ref hm.nx)) (hm.new (.lst []))
def fYes : Env → M Bool := fun _ => ret true
theorem lc_run {src : Src} {t : Tgt} {c : Env → M Bool} {f : Env → M D} {vs : List Nat} (hK : G.K = X.K) (hw : Tgt.within vs t = true) {σ : L2.St} {H : Hp} {Q : VK} (h : tE G (fLc src t c f vs) σ H Q) : tLc (tI G src) (Tgt.tg X.K t) (tT G c) (tE G f) vs σ H Q := by
  obtain ⟨ρ, env, hm, d, hm', rs, e, q⟩ := h
  obtain ⟨⟨items, chk⟩, h1, e1, e⟩ := bnd_some e
  refine ⟨ρ, env, hm, items, chk, h1, rs, e1, fun ρ1 H1 J l1 r1 F Da hD => ?_⟩
  obtain ⟨u, h2, e2, e⟩ := bnd_some e
  cases e
  obtain ⟨r2, l2⟩ := rh_lst (ds := []) (vs := []) r1 hD .nil
  have rs2 : RS G (rset ρ1 h1.nx Da) env (h1.new (.lst [])) σ (upd H1 Da (.lst [])) := (l1.trans l2).rs rs r2
  have hn0 : rset ρ1 h1.nx Da h1.nx = some Da := rset_same
  refine ⟨fun i m H3 => ∃ ρ3 h3, Le G.K (rset ρ1 h1.nx Da) (upd H1 Da (.lst [])) (h1.new (.lst [])) ρ3 H3 h3 ∧ RH G ρ3 H3 h3 ∧ m = items.length - i ∧ i ≤ items.length ∧ lcLoop t c f chk h1.nx (wipeE env vs) (items.drop i) h3 = some (u, hm'),
    ⟨items.length, _, _, Le.refl, r2, by omega, Nat.zero_le _, e2⟩, ?_⟩
  rintro i m H3 ⟨ρ3, h3, l3, r3, rfl, hle, e3⟩
  have at3 : ρ3 h1.nx = some Da := by rw [l3.same h1.nx (Nat.lt_succ_self _)]; exact hn0
  have l13 : Le G.K ρ1 H1 h1 ρ3 H3 h3 := l2.trans l3
  have rs3 : RS G ρ3 env h3 σ H3 := l3.rs rs2 r3
  cases hd : items.drop i with
  | nil =>
    rw [hd] at e3
    obtain ⟨c3, rfl⟩ := ask_some e3
    have ei := drop_nil hle hd
    refine .inl ⟨by rw [ei]; exact F.stop ρ3 H3 _ l13 r3 c3, ?_⟩
    refine q ρ3 (.ref Da) H3 (l1.trans l13) r3 ?_
    unfold RV
    exact ⟨Da, at3, rfl⟩
  | cons x xs =>
    rw [hd] at e3
    obtain ⟨hx, hlt, hdx⟩ := drop_cons hd
    obtain ⟨u4, h4, a4, e4⟩ := bnd_some e3
    obtain ⟨c4, rfl⟩ := ask_some a4
    refine .inr ⟨F.go i ρ3 H3 _ hlt l13 r3 c4, fun H' => ∃ ρ4 h4, Le G.K (rset ρ1 h1.nx Da) (upd H1 Da (.lst [])) (h1.new (.lst [])) ρ4 H' h4 ∧ RH G ρ4 H' h4 ∧ lcLoop t c f chk h1.nx (wipeE env vs) (items.drop (i + 1)) h4 = some (u, hm'),
      fun H' ⟨ρ4, h4, z1, z2, z3⟩ => ⟨items.length - (i + 1), by omega, ρ4, h4, z1, z2, rfl, hlt, z3⟩, fun v H5 y => ?_⟩
    obtain ⟨l5, r5, v5⟩ := F.yld i ρ3 H3 _ v H5 x hx l13 r3 c4 y
    cases he : Tgt.store t x (wipeE env vs) with
    | none => rw [he] at e4; cases e4
    | some e' =>
      rw [he] at e4
      have rs5 : RS G ρ3 (wipeE env vs) _ (wipe σ vs) H5 := (l5.rs rs3 r5).wiped vs
      rw [← hK]
      refine tgt_run t rs5 v5 he hw fun σ6 r6 w6 => ⟨w6.trans ?_, ?_⟩
      · -- wiping twice
        have idem : ∀ (us : List Nat), (∀ i ∈ us, i ∈ vs) → wipe (wipe σ vs) us = wipe σ vs := by
          intro us
          induction us with
          | nil => intro _; rfl
          | cons w ws ih =>
            intro hu
            show (wipe (wipe σ vs) ws).set w none = wipe σ vs
            rw [ih fun i hi => hu i (List.mem_cons_of_mem _ hi)]
            have hwm := hu w List.mem_cons_self
            have key : ∀ us : List Nat, w ∈ us → (wipe σ us).set w none = wipe σ us := by
              intro us
              induction us with
              | nil => intro h; cases h
              | cons a as iha =>
                intro h
                show ((wipe σ as).set a none).set w none = (wipe σ as).set a none
                by_cases ca : a = w
                · subst ca; rw [List.set_set]
                · have hm : w ∈ as := by
                    rcases List.mem_cons.mp h with e | e
                    · exact absurd e.symm ca
                    · exact e
                  rw [List.set_comm _ _ ca, iha hm]
            exact key vs hwm
        exact idem vs fun _ h => h
      obtain ⟨b, h7, a7, e7⟩ := bnd_some e4
      refine ⟨ρ3, e', _, b, h7, r6, a7, fun ρ7 H7 l7 r7 => ?_⟩
      have l37 := l5.trans l7
      cases b with
      | false =>
        dsimp only
        rw [if_neg Bool.false_ne_true] at e7 ⊢
        exact ⟨ρ7, h7, l3.trans l37, r7, by rw [hdx]; exact e7⟩
      | true =>
        dsimp only
        rw [if_pos rfl] at e7 ⊢
        obtain ⟨yv, h8, a8, e8⟩ := bnd_some e7
        refine ⟨ρ7, e', h7, yv, h8, l7.rs r6 r7, a8, fun ρ8 v8 H8 l8 r8 z8 => ?_⟩
        obtain ⟨u9, h9, a9, e9⟩ := bnd_some e8
        have l38 := l37.trans l8
        have at8 : ρ8 h1.nx = some Da := by rw [l38.same h1.nx (r3.dom _ _ at3)]; exact at3
        obtain ⟨acc, k1, k2, k3, k4⟩ := app1_ok r8 at8 a9 z8
        exact ⟨acc, k1, k2, ρ8, h9, l3.trans (l38.trans k4), k3, by rw [hdx]; exact e9⟩
/-- as a value -/
theorem e_lc {elt tg iter : Expr} {ifs : List Expr} {scope : Scope} {own : List (Str × Nat)} {pos : Pos} {src : Src} {c : Env → M Bool} {f : Env → M D} (t : Tgt) (hK : G.K = X.K) (hw : Tgt.within (own.map (·.2)) t = true)
    (h : PE X (.ListComp elt [⟨tg, iter, ifs, 0⟩] scope pos) (tLc (tI G src) (Tgt.tg X.K t) (tT G c) (tE G f) (own.map (·.2)))) : PE X (.ListComp elt [⟨tg, iter, ifs, 0⟩] scope pos) (tE G (fLc src t c f (own.map (·.2)))) :=
  PE.imp h fun _ _ _ q => lc_run hK hw q
theorem s_setLc {st : Stmt} {i : Nat} {src : Src} {c : Env → M Bool} {f : Env → M D} {vs : List Nat} (t : Tgt) (hK : G.K = X.K) (hw : Tgt.within vs t = true)
    (h : PS X st (tAsg (tLc (tI G src) (Tgt.tg X.K t) (tT G c) (tE G f) vs) (gName i))) : PS X st (tS G (fAsg (fLc src t c f vs) (gN i))) := PS.imp h fun D σ H z => lc_run hK hw (set_run z)
theorem ts_nil : PTs X [] (tT G fYes) := ⟨fun pins s σ H Q I ⟨ρ, env, hm, b, hm', rs, e, q⟩ => pts_nil.run pins s σ H Q I (by cases e; exact q ρ H Le.refl rs.rh)⟩
theorem ts_one {c : Expr} {f : Env → M Bool} (h : PT X c (tT G f)) : PTs X [c] (tT G f) := pts_one h

/-! ### defs -/
/-- what a def promises: f of its arguments -/
def spD (G : Gd) (n : Nat) (f : List D → M D) : Sp := fun vs H Q _ => ∃ ρ hm ds d hm', RH G ρ H hm ∧ RVs G.K ρ H ds vs ∧ ds.length = n ∧ f ds hm = some (d, hm') ∧ Aft G ρ H hm d hm' Q
/-- the body over the slots; then what it made is let go -/
def enter (n : Nat) (ds : List D) : Env := ds.map some ++ List.replicate (n - ds.length) none
def fDef (n : Nat) (body : Env → M Fl) : List D → M D := fun ds hm => match body (enter n ds) hm with
  | some (.rt d, h1) => some (trunc hm.nx d h1)
  | some (.nx _, h1) => some (trunc hm.nx .non h1)
  | _ => none
theorem enter_rs {N : List Str} {ds : List D} {vs : List V} (r : RH G ρ H hm) (h : RVs G.K ρ H ds vs) : RS G ρ (enter N.length ds) hm (L2.start N vs) H := by
  have hl := h.length
  refine ⟨r, fun i d e => ?_, ?_⟩
  · unfold enter at e
    by_cases c : i < ds.length
    · rw [List.getElem?_append_left (by simpa using c), List.getElem?_map] at e
      cases hd : ds[i]? with
      | none => rw [hd] at e; cases e
      | some d' =>
        rw [hd] at e; cases e
        obtain ⟨v, a, b⟩ := h.get hd
        refine ⟨v, ?_, b⟩
        unfold L2.start
        rw [List.getElem?_append_left (by rw [List.length_map, ← hl]; exact c), List.getElem?_map, a]; rfl
    · rw [List.getElem?_append_right (by simpa using c), List.getElem?_replicate] at e
      split at e <;> cases e
  · unfold enter L2.start
    rw [List.length_append, List.length_append, List.length_map, List.length_map, List.length_replicate, List.length_replicate, hl]
/-- THE RULE for a def: by its body, in every context of its scope -/
theorem def_ok {P : Program} {w : World} {K : PySem.W.Frag} {mg : Str → Option Value} {base : Heap} {x qual : Str} {st : Stmt} {f : Addr} {fd : FuncData} {N ps : List Str} {k n m : Nat} {body : Env → M Fl} (F : Fun K x qual st f fd) (S : FnScope N ps (defScope st)) (hn : ps.length = n) (hm : N.length = m)
    (hb : ∀ (cdv : Value) (A : Around) (outer : List PySem.Env) (s : Shared) (H : Hp) (E : XK), Room k (A.deeper (envOfC qual (defScope st) s.heap.objs.size f cdv)) → PSs (cxOf CX0 P w K mg base N qual (defScope st) f cdv A outer s H E).nox (defBody st) (tS G body)) :
    FnOk P w K mg base CX0 (k + 1) f fd ps (spD G n (fDef m body)) := by
  subst hm
  refine F.ok S (fun vs H Q E h => ?_) (fun cdv A outer s H vs Q E hr h => ?_)
  · obtain ⟨ρ, hm, ds, d, hm', r, rv, hl, _⟩ := h
    rw [← rv.length, hl, hn]
  obtain ⟨ρ, hm, ds, d, hm', r, rv, hl, e, q⟩ := h
  refine ⟨_, hb cdv A outer s H E hr, ?_⟩
  unfold fDef at e
  have rs := enter_rs (N := N) r rv
  split at e
  · rename_i d1 h1 eb
    have et := Option.some.inj e
    refine ⟨ρ, _, hm, .rt d1, h1, rs, eb, fun ρ1 v H1 l1 r1 z => ?_⟩
    obtain ⟨ρ2, l2, r2, z2⟩ := trunc_ok r l1 r1 z
    rw [et] at l2 r2 z2
    exact q ρ2 v H1 l2 r2 z2
  · rename_i e1 h1 eb
    have et := Option.some.inj e
    refine ⟨ρ, _, hm, .nx e1, h1, rs, eb, fun ρ1 σ1 H1 l1 r1 => ?_⟩
    obtain ⟨ρ2, l2, r2, z2⟩ := trunc_ok (d := .non) (v := .non) r l1 r1.rh (by unfold RV; rfl)
    rw [et] at l2 r2 z2
    exact q ρ2 .non H1 l2 r2 z2
  · cases e
/-- nothing is promised where nothing is computed -/
theorem def_none {P : Program} {w : World} {K : PySem.W.Frag} {mg : Str → Option Value} {base : Heap} {f : Addr} {fd : FuncData} {ps : List Str} {k n : Nat} {g : List D → M D} (h : ∀ ds hm, g ds hm = none) : FnOk P w K mg base CX0 k f fd ps (spD G n g) := by
  have no : ∀ vs H Q E, ¬ spD G n g vs H Q E := fun vs H Q E ⟨ρ, hm, ds, d, hm', r, rv, hl, e, q⟩ => by rw [h] at e; cases e
  exact ⟨fun vs H Q E h => absurd h (no vs H Q E), fun A outer s H args us vs Q E _ _ _ _ h => absurd h (no vs H Q E)⟩
/-- f(e, ..): the written arguments, then the defaults dvs -/
def fCallD (n : Nat) (g : List D → M D) (dvs : List D) (fa : Env → M (List D)) : Env → M D := fun env => bnd (fa env) fun ds => if (ds ++ dvs).length = n then g (ds ++ dvs) else fail
def flats : List D → List V → Prop
  | [], vs => vs = []
  | d :: ds, vs => ∃ v r, vs = v :: r ∧ flatD d v ∧ flats ds r
theorem flats.rvs {K : PySem.W.Frag} : ∀ {ds : List D} {vs : List V}, flats ds vs → RVs K ρ H ds vs
  | [], vs, h => by unfold RVs; exact h
  | d :: ds, vs, h => by
    obtain ⟨v, r, rfl, h1, h2⟩ := h
    exact .cons h1.rv (flats.rvs h2)
theorem call_run {n : Nat} {g : List D → M D} {dvs : List D} {dv : List V} {fa : Env → M (List D)} (hd : flats dvs dv) {σ : L2.St} {H : Hp} {Q : VK} (h : tE G (fCallD n g dvs fa) σ H Q) : tCall (spD G n g) dv E0 (tA G fa) σ H Q := by
  obtain ⟨ρ, env, hm, d, hm', rs, e, q⟩ := h
  obtain ⟨ds, h1, e1, e⟩ := bnd_some e
  split at e
  · rename_i hl
    refine ⟨ρ, env, hm, ds, h1, rs, e1, fun ρ1 vs H1 l1 r1 z => ?_⟩
    exact ⟨ρ1, h1, ds ++ dvs, d, hm', r1, z.append hd.rvs, hl, e, q.le l1⟩
  · cases e
theorem e_call {k n : Nat} {f : Addr} {fd : FuncData} {ps : List Str} {g : List D → M D} {dvs : List D} {dv : List V} {ds : List Value} {x : Str} {p pos : Pos} {e : Expr} {es : List Expr} {fa : Env → M (List D)} (F : FnOk X.prog X.w X.K X.mg X.base CX0 k f fd ps (spD G n g)) (hr : Room k X.A) (hg : Gl X x) (hm : X.mg x = some (.ref f)) (hk : PySem.W.keepIn X.K (.ref f) = true) (hb : Binds X.K fd ps ds) (hd : Vals dv ds) (hfl : flats dvs dv)
    (ha : PA X (e :: es) (tA G fa)) (hdb : (x == ("__debug__" : Str)) = false := by decide) (he : starEach (e :: es) X.env = (false, eval e X.env) :: starEach es X.env := by rfl) (hpl : (backTo pos (starEach es X.env)).any (·.1) = false := by rfl) :
    PE X (.Call (.Name x p) (e :: es) [] pos) (tE G (fCallD n g dvs fa)) := PE.imp (pe_call F hr hg hm hk hb hd pass0 ha hdb he hpl) fun _ _ _ h => call_run hfl h
theorem e_call0 {k n : Nat} {f : Addr} {fd : FuncData} {ps : List Str} {g : List D → M D} {dvs : List D} {dv : List V} {ds : List Value} {x : Str} {p pos : Pos} (F : FnOk X.prog X.w X.K X.mg X.base CX0 k f fd ps (spD G n g)) (hr : Room k X.A) (hg : Gl X x) (hm : X.mg x = some (.ref f)) (hk : PySem.W.keepIn X.K (.ref f) = true) (hb : Binds X.K fd ps ds) (hd : Vals dv ds) (hfl : flats dvs dv)
    (hdb : (x == ("__debug__" : Str)) = false := by decide) : PE X (.Call (.Name x p) [] [] pos) (tE G (fCallD n g dvs fNil)) := PE.imp (pe_call0 F hr hg hm hk hb hd pass0 hdb) fun σ H Q h => by
  have z := call_run (fa := fNil) hfl h
  obtain ⟨ρ, env, hm, ds, hm', rs, e, q⟩ := z
  cases e
  exact q ρ [] H Le.refl rs.rh .nil
end
end Eng
set_option maxRecDepth 100000
set_option maxHeartbeats 4000000
/-! Operators of ints; sequences put together; equality, membership of data; subscripts. -/
namespace Eng
open PySem PySem.Spec PyProof.Rows L2
section
variable {X : Cx} {G : Gd}

/-! ### ints -/
def iop (c : Int → Int → Bool) (k : Int → Int → D) : D → D → M D := fun x y hm => match x, y with
  | .int i, .int j => if c i j = true then some (k i j, hm) else none
  | _, _ => none
theorem iop_some {c : Int → Int → Bool} {k : Int → Int → D} {x y d : D} {hm hm' : Hm} (e : iop c k x y hm = some (d, hm')) : ∃ i j, x = .int i ∧ y = .int j ∧ c i j = true ∧ d = k i j ∧ hm' = hm := by
  unfold iop at e
  split at e
  · split at e
    · rename_i h
      cases e; exact ⟨_, _, rfl, rfl, h, rfl, rfl⟩
    · cases e
  · cases e
theorem iop_s {C : Int → Int → Prop} {w : Int → Int → V} {c : Int → Int → Bool} {k : Int → Int → D} (hc : ∀ i j, c i j = true → C i j) (hk : ∀ i j, flatD (k i j) (w i j)) : OpS G (rI C w) (iop c k) := by
  intro ρ hm H x y v u d hm' Q r hv hu e q
  obtain ⟨i, j, rfl, rfl, h, rfl, rfl⟩ := iop_some e
  unfold RV at hv hu
  exact ⟨i, j, hv, hu, hc i j h, q ρ _ H Le.refl r (hk i j).rv⟩
def yes2 : Int → Int → Bool := fun _ _ => true
theorem iop_s0 {w : Int → Int → V} {k : Int → Int → D} (hk : ∀ i j, flatD (k i j) (w i j)) : OpS G (rI0 w) (iop yes2 k) := by
  intro ρ hm H x y v u d hm' Q r hv hu e q
  obtain ⟨i, j, rfl, rfl, h, rfl, rfl⟩ := iop_some e
  unfold RV at hv hu
  exact ⟨i, j, hv, hu, q ρ _ H Le.refl r (hk i j).rv⟩
def cMul (i j : Int) : Bool := (decide (-18446744073709551616 < i) && decide (i < 18446744073709551616)) || (decide (-18446744073709551616 < j) && decide (j < 18446744073709551616))
theorem cMul_ok (i j : Int) (h : cMul i j = true) : CMul i j := by
  unfold cMul at h
  rw [Bool.or_eq_true, Bool.and_eq_true, Bool.and_eq_true] at h
  rcases h with ⟨a, b⟩ | ⟨a, b⟩
  · exact .inl ⟨of_decide_eq_true a, of_decide_eq_true b⟩
  · exact .inr ⟨of_decide_eq_true a, of_decide_eq_true b⟩
def cDiv (i j : Int) : Bool := decide (0 < j) && decide (j < 1073741824)
theorem cDiv_ok (i j : Int) (h : cDiv i j = true) : CDiv i j := by
  unfold cDiv at h
  rw [Bool.and_eq_true] at h
  exact ⟨of_decide_eq_true h.1, of_decide_eq_true h.2⟩
def cMod (i j : Int) : Bool := decide (0 < j)
def gSub : D → D → M D := iop yes2 fun i j => .int (i - j)
def gMul : D → D → M D := iop cMul fun i j => .int (i * j)
def gDiv : D → D → M D := iop cDiv fun i j => .int (i / j)
def gMod : D → D → M D := iop cMod fun i j => .int (i % j)
def gLe : D → D → M D := iop yes2 fun i j => .bl (decide (i ≤ j))
def gGt : D → D → M D := iop yes2 fun i j => .bl (decide (j < i))
def gGe : D → D → M D := iop yes2 fun i j => .bl (decide (j ≤ i))
theorem s_sub : OpS G (rI0 fun i j => .int (i - j)) gSub := iop_s0 fun _ _ => rfl
theorem s_mul : OpS G (rI CMul fun i j => .int (i * j)) gMul := iop_s cMul_ok fun _ _ => rfl
theorem s_div : OpS G (rI CDiv fun i j => .int (i / j)) gDiv := iop_s cDiv_ok fun _ _ => rfl
theorem s_mod : OpS G (rI (fun _ j => 0 < j) fun i j => .int (i % j)) gMod := iop_s (fun _ _ h => of_decide_eq_true h) fun _ _ => rfl
theorem s_le : OpS G (rI0 fun i j => .bl (decide (i ≤ j))) gLe := iop_s0 fun _ _ => rfl
theorem s_gt : OpS G (rI0 fun i j => .bl (decide (j < i))) gGt := iop_s0 fun _ _ => rfl
theorem s_ge : OpS G (rI0 fun i j => .bl (decide (j ≤ i))) gGe := iop_s0 fun _ _ => rfl
def gNeg : D → M D := fun x hm => match x with
  | .int i => some (.int (-i), hm)
  | _ => none
theorem s_neg : UnS G (rU fun i => .int (-i)) gNeg := by
  intro ρ hm H x v d hm' Q r hv e q
  unfold gNeg at e
  split at e
  · cases e
    unfold RV at hv
    exact ⟨_, hv, q ρ _ H Le.refl r (by unfold RV; rfl)⟩
  · cases e

/-! ### + -/
def gAdd : D → D → M D := fun x y hm => match x, y with
  | .int i, .int j => some (.int (i + j), hm)
  | .tup xs, .tup ys => if xs.length + ys.length ≤ big then some (.tup (xs ++ ys), hm) else none
  | .ref a, .ref b => match hm.get a, hm.get b with
    | some (.lst xs), some (.lst ys) => if xs.length + ys.length ≤ big then some (.ref hm.nx, hm.new (.lst (xs ++ ys))) else none
    | _, _ => none
  | _, _ => none
def rAddA (K : PySem.W.Frag) : R2 := fun x y H Q => rI0 (fun i j => .int (i + j)) x y H Q ∨ (rCatA K x y H Q ∨ rCat x y H Q)
theorem op_addA : OpR X (binaryOp .Add) (rAddA X.K) := OpR.or op_add (OpR.or op_catA op_cat)
theorem rh_lst1 {ρ : Nat → Option Addr} {H : Hp} {hm : Hm} {Q : VK} {d : List D} {vs : List V} {hm' : Hm} {D' : D} (r : RH G ρ H hm) (hv : RVs G.K ρ H d vs) (e : D' = .ref hm.nx) (e2 : hm' = hm.new (.lst d)) (q : Aft G ρ H hm D' hm' Q) : ∀ p, H p = none → Q (.ref p) (upd H p (.lst vs)) := fun p hp => by
  subst e e2
  obtain ⟨r2, l2⟩ := rh_lst r hp hv
  exact q _ _ _ l2 r2 rv_new
theorem s_add : OpS G (rAddA G.K) gAdd := by
  intro ρ hm H x y v u d hm' Q r hv hu e q
  unfold gAdd at e
  split at e
  · cases e
    unfold RV at hv hu
    exact .inl ⟨_, _, hv, hu, q ρ _ H Le.refl r (by unfold RV; rfl)⟩
  · rename_i xs ys
    split at e
    · rename_i hl
      cases e
      have hv0 := hv
      have hu0 := hu
      unfold RV at hv hu
      obtain ⟨a, vs, rfl, h1, h2⟩ := hv
      obtain ⟨b, us, rfl, h3, h4⟩ := hu
      refine .inr (.inl ⟨a, b, vs, us, rfl, rfl, h1.sq, h3.sq, by rw [← h2.length, ← h4.length]; exact big_le hl, fun e => ?_, fun _ e => ?_, fun _ _ p hp => ?_⟩)
      · have : xs = [] := List.eq_nil_of_length_eq_zero (by rw [h2.length, e]; rfl)
        subst this
        exact q ρ _ H Le.refl r hu0
      · have : ys = [] := List.eq_nil_of_length_eq_zero (by rw [h4.length, e]; rfl)
        subst this
        exact q ρ _ H Le.refl r (by rw [List.append_nil]; exact hv0)
      · exact q ρ _ _ (Le.tup hp) (r.tup hp) (rv_tup hp (h2.append h4))
    · cases e
  · rename_i a b
    split at e
    · rename_i xs ys ga gb
      split at e
      · rename_i hl
        cases e
        unfold RV at hv hu
        obtain ⟨p, ha, rfl⟩ := hv
        obtain ⟨p2, hb, rfl⟩ := hu
        obtain ⟨p', ha', vs, k1, k2⟩ := r.obj _ _ ga
        obtain ⟨p2', hb', us, k3, k4⟩ := r.obj _ _ gb
        rw [ha] at ha'; cases ha'
        rw [hb] at hb'; cases hb'
        exact .inr (.inr ⟨p, p2, vs, us, rfl, rfl, k1, k3, by rw [← k2.length, ← k4.length]; exact big_le hl, rh_lst1 r (k2.append k4) rfl rfl q⟩)
      · cases e
    · cases e
  · cases e
end
end Eng
set_option maxRecDepth 100000
set_option maxHeartbeats 4000000
/-! Equality, membership of data; less than; identity; subscripts and slices. -/
namespace Eng
open PySem PySem.Spec PyProof.Rows L2
section
variable {X : Cx} {G : Gd}

def optAll {α β : Type} (f : α → Option β) : List α → Option (List β)
  | [] => some []
  | x :: xs => match f x, optAll f xs with
    | some y, some ys => some (y :: ys)
    | _, _ => none
/-- the data that stand at a value -/
def toP : Nat → Hm → D → Option PyData
  | _, _, .non => some .none
  | _, _, .bl b => some (.bool b)
  | _, _, .int i => some (.int i)
  | _, _, .str x => some (.str x)
  | n + 1, hm, .tup xs => (optAll (toP n hm) xs).map .tuple
  | n + 1, hm, .ref a => match hm.get a with
    | some (.lst xs) => (optAll (toP n hm) xs).map .list
    | _ => none
  | _, _, _ => none
theorem optAll_dp {K : PySem.W.Frag} {ρ : Nat → Option Addr} {H : Hp} {f : D → Option PyData} (hf : ∀ d p v, f d = some p → RV K ρ H d v → Dp K H v p) : ∀ (xs : List D) (ps : List PyData) (vs : List V), optAll f xs = some ps → RVs K ρ H xs vs → DpAll K H vs ps
  | [], ps, vs, e, h => by
    unfold RVs at h; subst h
    cases e; exact .nil
  | x :: xs, ps, vs, e, h => by
    unfold RVs at h
    obtain ⟨y, r, rfl, h1, h2⟩ := h
    unfold optAll at e
    split at e
    · rename_i y' ys' e1 e2
      cases e
      exact .cons (hf _ _ _ e1 h1) (optAll_dp hf xs _ _ e2 h2)
    · cases e
theorem toP_dp {ρ : Nat → Option Addr} {H : Hp} {hm : Hm} (r : RH G ρ H hm) : ∀ (n : Nat) (d : D) (p : PyData) (v : V), toP n hm d = some p → RV G.K ρ H d v → Dp G.K H v p := by
  intro n
  induction n with
  | zero =>
    intro d p v e h
    cases d <;> first | (unfold RV at h; subst h; cases e; first | exact .non | exact .bl _ | exact .int _ | exact .str _) | cases e
  | succ n ih =>
    intro d p v e h
    cases d with
    | non => unfold RV at h; subst h; cases e; exact .non
    | bl b => unfold RV at h; subst h; cases e; exact .bl _
    | int b => unfold RV at h; subst h; cases e; exact .int _
    | str b => unfold RV at h; subst h; cases e; exact .str _
    | ty b => cases e
    | kl xs => cases e
    | tup xs =>
      unfold RV at h
      obtain ⟨a, ys, rfl, h1, h2⟩ := h
      have e : (optAll (toP n hm) xs).map PyData.tuple = some p := e
      cases c : optAll (toP n hm) xs with
      | none => rw [c] at e; cases e
      | some ps =>
        rw [c] at e; cases e
        exact .tup h1.sq (optAll_dp ih xs ps ys c h2)
    | ref a =>
      unfold RV at h
      obtain ⟨b, hb, rfl⟩ := h
      unfold toP at e
      split at e
      · rename_i xs ga
        obtain ⟨b', hb', vs, k1, k2⟩ := r.obj _ _ ga
        rw [hb] at hb'; cases hb'
        cases c : optAll (toP n hm) xs with
        | none => rw [c] at e; cases e
        | some ps =>
          rw [c] at e; cases e
          exact .lst (SqL.of k1) (optAll_dp ih xs ps vs c k2)
      · cases e
def deep : Nat := 10
def eqG (b : Bool) (x y : D) : M D := fun hm => match toP deep hm x, toP deep hm y with
  | some p, some q => if (SeqAt.shaped p && SeqAt.shaped q) = true then some (.bl (if b = true then p.eqv q else !p.eqv q), hm) else none
  | _, _ => none
theorem s_eq : OpS G (rEqD G.K) (eqG true) := by
  intro ρ hm H x y v u d hm' Q r hv hu e q
  unfold eqG at e
  split at e
  · rename_i p p' e1 e2
    split at e
    · rename_i hs
      rw [Bool.and_eq_true] at hs
      cases e
      exact ⟨p, p', toP_dp r _ _ _ _ e1 hv, toP_dp r _ _ _ _ e2 hu, hs.1, hs.2, q ρ _ H Le.refl r (by unfold RV; rfl)⟩
    · cases e
  · cases e
theorem s_ne : OpS G (rNeD G.K) (eqG false) := by
  intro ρ hm H x y v u d hm' Q r hv hu e q
  unfold eqG at e
  split at e
  · rename_i p p' e1 e2
    split at e
    · rename_i hs
      rw [Bool.and_eq_true] at hs
      cases e
      exact ⟨p, p', toP_dp r _ _ _ _ e1 hv, toP_dp r _ _ _ _ e2 hu, hs.1, hs.2, q ρ _ H Le.refl r (by unfold RV; rfl)⟩
    · cases e
  · cases e

/-! ### membership -/
def rInTD (neg : Bool) (K : PySem.W.Frag) : R2 := fun x y H Q => ∃ d ds, Dp K H x d ∧ Dp K H y (.tuple ds) ∧ SeqAt.shaped d = true ∧ SeqAt.shaped (.tuple ds) = true ∧ Q (.bl (if neg = true then !ds.any fun z => PyData.eqv z d else ds.any fun z => PyData.eqv z d)) H
theorem room_inT {A : Around} {d : PyData} {ds : List PyData} (hd : SeqAt.shaped d = true) (hu : A.units + 65 < cLine) : A.units + 1 + min (PyData.depthAll ds) d.depth < cLine := by
  have h1 := SeqAt.depth_of_shaped hd
  have h2 : min (PyData.depthAll ds) d.depth ≤ d.depth := Nat.min_le_right _ _
  omega
theorem op_inTD (hu : X.A.units + 65 < cLine) : OpR X (compareOp .In) (rInTD false X.K) := by
  intro pins s σ H x y v u Q I rx ry h
  obtain ⟨d, ds, hd, he, sd, se, q⟩ := h
  obtain ⟨as, r1⟩ := Dp.reads I d x v hd rx
  obtain ⟨bs, r2⟩ := Dp.reads I (.tuple ds) y u he ry
  exact SeqAt.in_tuple_reads r2 r1 (SeqAt.canLay_of_shaped se) (SeqAt.canLay_of_shaped sd) (room_inT sd hu) ⟨.bl _, H, I, rfl, q⟩
theorem op_notInTD (hu : X.A.units + 65 < cLine) : OpR X (compareOp .NotIn) (rInTD true X.K) := by
  intro pins s σ H x y v u Q I rx ry h
  obtain ⟨d, ds, hd, he, sd, se, q⟩ := h
  obtain ⟨as, r1⟩ := Dp.reads I d x v hd rx
  obtain ⟨bs, r2⟩ := Dp.reads I (.tuple ds) y u he ry
  exact SeqAt.notIn_tuple_reads r2 r1 (SeqAt.canLay_of_shaped se) (SeqAt.canLay_of_shaped sd) (room_inT sd hu) ⟨.bl _, H, I, rfl, q⟩
def inG (neg : Bool) (x y : D) : M D := fun hm => match toP deep hm x, toP deep hm y with
  | some p, some (.list ds) => if (SeqAt.shaped p && SeqAt.shaped (.list ds)) = true then some (.bl (if neg = true then !ds.any fun z => PyData.eqv z p else ds.any fun z => PyData.eqv z p), hm) else none
  | some p, some (.tuple ds) => if (SeqAt.shaped p && SeqAt.shaped (.tuple ds)) = true then some (.bl (if neg = true then !ds.any fun z => PyData.eqv z p else ds.any fun z => PyData.eqv z p), hm) else none
  | _, _ => none
theorem op_inA (hu : X.A.units + 65 < cLine) : OpR X (compareOp .In) (fun x y H Q => rInD X.K x y H Q ∨ rInTD false X.K x y H Q) := OpR.or (op_inD hu) (op_inTD hu)
theorem op_notInA (hu : X.A.units + 65 < cLine) : OpR X (compareOp .NotIn) (fun x y H Q => rNotInD X.K x y H Q ∨ rInTD true X.K x y H Q) := OpR.or (op_notInD hu) (op_notInTD hu)
theorem s_in : OpS G (fun x y H Q => rInD G.K x y H Q ∨ rInTD false G.K x y H Q) (inG false) := by
  intro ρ hm H x y v u d hm' Q r hv hu e q
  unfold inG at e
  split at e
  · rename_i p ds e1 e2
    split at e
    · rename_i hs
      rw [Bool.and_eq_true] at hs
      cases e
      exact .inl ⟨p, ds, toP_dp r _ _ _ _ e1 hv, toP_dp r _ _ _ _ e2 hu, hs.1, hs.2, q ρ _ H Le.refl r (by unfold RV; rfl)⟩
    · cases e
  · rename_i p ds e1 e2
    split at e
    · rename_i hs
      rw [Bool.and_eq_true] at hs
      cases e
      exact .inr ⟨p, ds, toP_dp r _ _ _ _ e1 hv, toP_dp r _ _ _ _ e2 hu, hs.1, hs.2, q ρ _ H Le.refl r (by unfold RV; rfl)⟩
    · cases e
  · cases e
theorem s_notIn : OpS G (fun x y H Q => rNotInD G.K x y H Q ∨ rInTD true G.K x y H Q) (inG true) := by
  intro ρ hm H x y v u d hm' Q r hv hu e q
  unfold inG at e
  split at e
  · rename_i p ds e1 e2
    split at e
    · rename_i hs
      rw [Bool.and_eq_true] at hs
      cases e
      exact .inl ⟨p, ds, toP_dp r _ _ _ _ e1 hv, toP_dp r _ _ _ _ e2 hu, hs.1, hs.2, q ρ _ H Le.refl r (by unfold RV; rfl)⟩
    · cases e
  · rename_i p ds e1 e2
    split at e
    · rename_i hs
      rw [Bool.and_eq_true] at hs
      cases e
      exact .inr ⟨p, ds, toP_dp r _ _ _ _ e1 hv, toP_dp r _ _ _ _ e2 hu, hs.1, hs.2, q ρ _ H Le.refl r (by unfold RV; rfl)⟩
    · cases e
  · cases e

/-! ### less than: ints, tuples of ints -/
def D.ints : List D → Option (List Int)
  | [] => some []
  | .int i :: xs => (D.ints xs).map (i :: ·)
  | _ => none
theorem ints_some : ∀ {xs : List D} {ns : List Int}, D.ints xs = some ns → xs = ns.map D.int
  | [], ns, e => by cases e; rfl
  | x :: xs, ns, e => by
    cases x <;> first | (cases e; done) | skip
    rename_i i
    unfold D.ints at e
    cases c : D.ints xs with
    | none => rw [c] at e; cases e
    | some ms => rw [c] at e; cases e; rw [ints_some c]; rfl
def notNo : PyData → Bool
  | .none => false
  | _ => true
def gLtD (x y : D) : M D := fun hm => match toP deep hm x, toP deep hm y with
  | some p, some q => if (SeqAt.shaped p && PySem.W.alike p q && notNo p) = true then some (.bl (PySem.W.dataLt p q), hm) else none
  | _, _ => none
def gLt : D → D → M D := fun x y hm => match x, y with
  | .int i, .int j => some (.bl (decide (i < j)), hm)
  | .tup xs, .tup ys => match D.ints xs, D.ints ys with
    | some ns, some ms => some (.bl (HT.lexLt ns ms), hm)
    | _, _ => gLtD (.tup xs) (.tup ys) hm
  | _, _ => none
def rLtD (K : PySem.W.Frag) : R2 := fun x y H Q => ∃ d e, Dp K H x d ∧ Dp K H y e ∧ SeqAt.shaped d = true ∧ PySem.W.alike d e = true ∧ d ≠ .none ∧ Q (.bl (PySem.W.dataLt d e)) H
theorem op_ltD (hu : X.A.units + 65 < cLine) : OpR X (compareOp .Lt) (rLtD X.K) := by
  intro pins s σ H x y v u Q I rx ry h
  obtain ⟨d, e, hd, he, sd, al, nn, q⟩ := h
  obtain ⟨as, r1⟩ := Dp.reads I d x v hd rx
  obtain ⟨bs, r2⟩ := Dp.reads I e y u he ry
  have h1 := SeqAt.depth_of_shaped sd
  have h2 : min d.depth e.depth ≤ d.depth := Nat.min_le_left _ _
  exact PySem.W.rcLt_alike d e X.A s v u as bs r1 r2 al nn (by omega) X.prog X.w X.xe _ ⟨.bl _, H, I, rfl, q⟩
theorem op_ltA (hu : X.A.units + 65 < cLine) : OpR X (compareOp .Lt) (fun x y H Q => rI0 (fun i j => .bl (decide (i < j))) x y H Q ∨ (rLtT X.K x y H Q ∨ rLtD X.K x y H Q)) := OpR.or op_lt (OpR.or (op_ltT (by omega)) (op_ltD hu))
theorem s_lt : OpS G (fun x y H Q => rI0 (fun i j => .bl (decide (i < j))) x y H Q ∨ (rLtT G.K x y H Q ∨ rLtD G.K x y H Q)) gLt := by
  intro ρ hm H x y v u d hm' Q r hv hu e q
  unfold gLt at e
  split at e
  · cases e
    unfold RV at hv hu
    exact .inl ⟨_, _, hv, hu, q ρ _ H Le.refl r (by unfold RV; rfl)⟩
  · split at e
    · rename_i xs ys ns ms e1 e2
      cases e
      rw [ints_some e1] at hv
      rw [ints_some e2] at hu
      unfold RV at hv hu
      obtain ⟨a, vs, rfl, h1, h2⟩ := hv
      obtain ⟨b, us, rfl, h3, h4⟩ := hu
      rw [h2.ints] at h1
      rw [h4.ints] at h3
      exact .inr (.inl ⟨a, b, ns, ms, rfl, rfl, h1.sq, h3.sq, q ρ _ H Le.refl r (by unfold RV; rfl)⟩)
    · unfold gLtD at e
      split at e
      · rename_i p p' e1 e2
        split at e
        · rename_i hs
          rw [Bool.and_eq_true, Bool.and_eq_true] at hs
          cases e
          exact .inr (.inr ⟨p, p', toP_dp r _ _ _ _ e1 hv, toP_dp r _ _ _ _ e2 hu, hs.1.1, hs.1.2, fun z => by rw [z] at hs; exact absurd hs.2 (by decide), q ρ _ H Le.refl r (by unfold RV; rfl)⟩)
        · cases e
      · cases e
  · cases e

/-! ### is -/
def gIsN (neg : Bool) : D → D → M D := fun x y hm => match y with
  | .non => match x with
    | .non => some (.bl (!neg), hm)
    | _ => some (.bl neg, hm)
  | _ => none
theorem rv_non {K : PySem.W.Frag} {ρ : Nat → Option Addr} {H : Hp} {d : D} {v : V} (h : RV K ρ H d v) : v = .non ↔ d = .non := by
  cases d <;> (unfold RV at h; first | (subst h; simp; done) | (obtain ⟨a, h1, h2⟩ := h; subst h2; simp; done) | (obtain ⟨a, b, h1, h2⟩ := h; subst h1; simp; done))
theorem s_isN : OpS G (fun x y H Q => y = V.non ∧ Q (V.bl (decide (x = V.non))) H) (gIsN false) := by
  intro ρ hm H x y v u d hm' Q r hv hu e q
  unfold gIsN at e
  split at e
  · have hu : u = .non := by unfold RV at hu; exact hu
    refine ⟨hu, ?_⟩
    split at e
    · cases e
      rw [decide_eq_true ((rv_non hv).mpr rfl)]
      exact q ρ _ H Le.refl r (by unfold RV; rfl)
    · rename_i hx
      cases e
      rw [decide_eq_false fun z => hx ((rv_non hv).mp z)]
      exact q ρ _ H Le.refl r (by unfold RV; rfl)
  · cases e
theorem s_notN : OpS G (fun x y H Q => y = V.non ∧ Q (V.bl (!decide (x = V.non))) H) (gIsN true) := by
  intro ρ hm H x y v u d hm' Q r hv hu e q
  unfold gIsN at e
  split at e
  · have hu : u = .non := by unfold RV at hu; exact hu
    refine ⟨hu, ?_⟩
    split at e
    · cases e
      rw [decide_eq_true ((rv_non hv).mpr rfl)]
      exact q ρ _ H Le.refl r (by unfold RV; rfl)
    · rename_i hx
      cases e
      rw [decide_eq_false fun z => hx ((rv_non hv).mp z)]
      exact q ρ _ H Le.refl r (by unfold RV; rfl)
  · cases e
def gIsT : D → D → M D := fun x y hm => match x, y with
  | .ty a, .ty b => some (.bl (decide (a = b)), hm)
  | _, _ => none
theorem s_isT : OpS G (fun x y H Q => ∃ m n, x = V.ty m ∧ y = V.ty n ∧ Q (V.bl (decide (m = n))) H) gIsT := by
  intro ρ hm H x y v u d hm' Q r hv hu e q
  unfold gIsT at e
  split at e
  · cases e
    unfold RV at hv hu
    exact ⟨_, _, hv, hu, q ρ _ H Le.refl r (by unfold RV; rfl)⟩
  · cases e
end
end Eng
set_option maxRecDepth 100000
set_option maxHeartbeats 4000000
/-! Subscripts, slices, methods of lists, dicts. -/
namespace Eng
open PySem PySem.Spec PyProof.Rows L2

/-! ### places -/
theorem ixN_len {α β : Type} {xs : List α} {ys : List β} (h : xs.length = ys.length) {i : Int} : ixN xs.length i = ixN ys.length i := by rw [h]
theorem at_rv {K : PySem.W.Frag} {ρ : Nat → Option Addr} {H : Hp} {xs : List D} {ys : List V} {i : Int} {d : D} (h : RVs K ρ H xs ys) (e : atI xs i = some d) : ∃ v, atI ys i = some v ∧ RV K ρ H d v := by
  unfold atI at e ⊢
  rw [← h.length]
  cases c : ixN xs.length i with
  | none => rw [c] at e; cases e
  | some j =>
    rw [c] at e
    exact h.get (i := j) e
section
variable {X : Cx} {G : Gd}
/-- an item of a tuple, of a list -/
def gIx : D → D → M D := fun x y hm => match y with
  | .int i => match x with
    | .tup xs => match atI xs i with
      | some d => some (d, hm)
      | none => none
    | .ref n => match itemsAt hm n with
      | some xs => match atI xs i with
        | some d => some (d, hm)
        | none => none
      | none => none
    | .kl xs => match atI xs i with
      | some d => some (d, hm)
      | none => none
    | _ => none
  | _ => none
theorem s_ix : OpS G (rIx G.K) gIx := by
  intro ρ hm H x y v u d hm' Q r hv hu e q
  unfold gIx at e
  split at e
  · rename_i i
    unfold RV at hu
    subst hu
    split at e
    · rename_i xs
      split at e
      · rename_i d' hd
        cases e
        unfold RV at hv
        obtain ⟨a, ys, rfl, h1, h2⟩ := hv
        obtain ⟨w, e1, e2⟩ := at_rv h2 hd
        exact .inr (.inl ⟨a, ys, i, w, rfl, rfl, h1.sq, e1, q ρ _ H Le.refl r e2⟩)
      · cases e
    · rename_i n
      split at e
      · rename_i xs hx
        split at e
        · rename_i d' hd
          cases e
          unfold RV at hv
          obtain ⟨a, ha, rfl⟩ := hv
          obtain ⟨a', ys, ha', h1, h2⟩ := r.items hx
          rw [ha] at ha'; cases ha'
          obtain ⟨w, e1, e2⟩ := at_rv h2 hd
          exact .inl ⟨a, ys, i, w, rfl, rfl, h1, e1, q ρ _ H Le.refl r e2⟩
        · cases e
      · cases e
    · rename_i xs
      split at e
      · rename_i d' hd
        cases e
        unfold RV at hv
        obtain ⟨a, ys, rfl, h1, h2⟩ := hv
        obtain ⟨w, e1, e2⟩ := at_rv h2 hd
        exact .inl ⟨a, ys, i, w, rfl, rfl, h1.sq, e1, q ρ _ H Le.refl r e2⟩
      · cases e
    · cases e
  · cases e
theorem e_ix {a b : Expr} {fa fb : Env → M D} {pos : Pos} (hK : G.K = X.K) (ha : PE X a (tE G fa)) (hb : PE X b (tE G fb)) (hs : PlainIx b) : PE X (.Subscript a b pos) (tE G (fOp gIx fa fb)) := by
  have s := s_ix (G := G)
  rw [hK] at s
  exact PE.imp (pe_ix ix_seq ha hb hs) fun _ _ _ h => two_run s h

/-! ### slices -/
def cutD (xs : List D) (lo hi : Option Int) : List D := (xs.drop (HT.sIx xs.length 0 lo)).take (HT.sIx xs.length xs.length hi - HT.sIx xs.length 0 lo)
theorem cut_rv {K : PySem.W.Frag} {ρ : Nat → Option Addr} {H : Hp} {xs : List D} {ys : List V} (lo hi : Option Int) (h : RVs K ρ H xs ys) : RVs K ρ H (cutD xs lo hi) (cutV ys lo hi) := by
  unfold cutD cutV
  rw [← h.length]
  exact (h.drop _).take _
/-- an end of a slice -/
def tP (G : Gd) (f : Env → M (Option Int)) : TO := fun σ H Q => ∃ ρ env hm o hm', RS G ρ env hm σ H ∧ f env hm = some (o, hm') ∧ ∀ ρ' H', Le G.K ρ H hm ρ' H' hm' → RH G ρ' H' hm' → Q o H'
def fNoP : Env → M (Option Int) := fun _ => ret none
def partI : D → M (Option Int) := fun d hm => match d with
  | .int i => some (some i, hm)
  | _ => none
def fP (f : Env → M D) : Env → M (Option Int) := fun env => bnd (f env) partI
theorem PO.imp {e : Option Expr} {t t' : TO} (h : PO X e t) (i : ∀ σ H Q, t' σ H Q → t σ H Q) : PO X e t' := ⟨fun pins s σ H Q I q => h.run pins s σ H Q I (i σ H Q q)⟩
theorem p_no : PO X none (tP G fNoP) := PO.imp po_none fun σ H Q ⟨ρ, env, hm, o, hm', rs, e, q⟩ => by
  cases e
  exact q ρ H Le.refl rs.rh
theorem p_some {e : Expr} {f : Env → M D} (h : PE X e (tE G f)) : PO X (some e) (tP G (fP f)) := PO.imp (po_some h) fun σ H Q ⟨ρ, env, hm, o, hm', rs, e, q⟩ => by
  obtain ⟨d, h1, e1, e⟩ := bnd_some e
  unfold partI at e
  split at e
  · cases e
    refine ⟨ρ, env, hm, _, _, rs, e1, fun ρ1 v1 H1 l1 r1 v => ?_⟩
    unfold RV at v
    exact ⟨_, v, q ρ1 H1 l1 r1⟩
  · cases e
def gSl (x : D) (lo hi : Option Int) : M D := fun hm => match x with
  | .tup xs => some (.tup (cutD xs lo hi), hm)
  | .ref n => match itemsAt hm n with
    | some xs => some (.ref hm.nx, hm.new (.lst (cutD xs lo hi)))
    | none => none
  | .kl xs => some (.ref hm.nx, hm.new (.lst (cutD xs lo hi)))
  | _ => none
def fSl (fa : Env → M D) (fl fh : Env → M (Option Int)) : Env → M D := fun env => bnd (fa env) fun x => bnd (fl env) fun lo => bnd (fh env) fun hi => gSl x lo hi
theorem sIx_le0 {n : Nat} {o : Option Int} : HT.sIx n 0 o ≤ n := HT.sIx_le n 0 (Nat.zero_le _) o
theorem cut_whole {xs : List D} {lo hi : Option Int} (h : HT.sIx xs.length 0 lo = 0 ∧ HT.sIx xs.length xs.length hi = xs.length) : cutD xs lo hi = xs := by
  unfold cutD
  rw [h.1, h.2]; simp
theorem s_sl {ρ : Nat → Option Addr} {hm : Hm} {H : Hp} {x d : D} {v : V} {lo hi : Option Int} {hm' : Hm} {Q : VK} (r : RH G ρ H hm) (hv : RV G.K ρ H x v) (e : gSl x lo hi hm = some (d, hm')) (q : Aft G ρ H hm d hm' Q) : rSlA G.K v lo hi H Q ∨ rSlL G.K v lo hi H Q := by
  unfold gSl at e
  split at e
  · rename_i xs
    cases e
    have hv0 := hv
    unfold RV at hv
    obtain ⟨a, ys, rfl, h1, h2⟩ := hv
    refine .inl ⟨a, ys, rfl, h1.sq, fun c => ?_, fun c p hp => ?_⟩
    · rw [← h2.length] at c
      rw [cut_whole c] at q
      exact q ρ _ H Le.refl r hv0
    · exact q ρ _ _ (Le.tup hp) (r.tup hp) (rv_tup hp (cut_rv lo hi h2))
  · rename_i n
    split at e
    · rename_i xs hx
      cases e
      unfold RV at hv
      obtain ⟨a, ha, rfl⟩ := hv
      obtain ⟨a', ys, ha', h1, h2⟩ := r.items hx
      rw [ha] at ha'; cases ha'
      exact .inr ⟨a, ys, rfl, h1, rh_lst1 r (cut_rv lo hi h2) rfl rfl q⟩
    · cases e
  · rename_i xs
    cases e
    unfold RV at hv
    obtain ⟨a, ys, rfl, h1, h2⟩ := hv
    exact .inr ⟨a, ys, rfl, h1.sq, rh_lst1 r (cut_rv lo hi h2) rfl rfl q⟩
  · cases e
theorem e_slice {e : Expr} {lo hi : Option Expr} {fa : Env → M D} {fl fh : Env → M (Option Int)} {pos p2 : Pos} (hK : G.K = X.K) (he : PE X e (tE G fa)) (hl : PO X lo (tP G fl)) (hh : PO X hi (tP G fh)) : PE X (.Subscript e (.Slice lo hi none p2) pos) (tE G (fSl fa fl fh)) :=
  PE.imp (pe_slice (SlR.or sl_tupA sl_list) he hl hh) fun σ H Q ⟨ρ, env, hm, d, hm', rs, e, q⟩ => by
    obtain ⟨x, h1, e1, e⟩ := bnd_some e
    obtain ⟨l, h2, e2, e⟩ := bnd_some e
    obtain ⟨h, h3, e3, e⟩ := bnd_some e
    refine ⟨ρ, env, hm, x, h1, rs, e1, fun ρ1 v1 H1 l1 r1 v => ?_⟩
    refine ⟨ρ1, env, h1, l, h2, l1.rs rs r1, e2, fun ρ2 H2 l2 r2 => ?_⟩
    refine ⟨ρ2, env, h2, h, h3, l2.rs (l1.rs rs r1) r2, e3, fun ρ3 H3 l3 r3 => ?_⟩
    have z := s_sl r3 (l3.rv r2 (l2.rv r1 v)) e fun ρ4 v4 H4 l4 r4 w => q ρ4 v4 H4 (l1.trans (l2.trans (l3.trans l4))) r4 w
    rw [hK] at z
    exact z

/-! ### methods of lists -/
def mtA (x : D) (as : List D) : M D := fun hm => match x, as with
  | .ref n, [y] => match app1 n y hm with
    | some (_, h) => some (.non, h)
    | none => none
  | _, _ => none
def MtS (G : Gd) (T : String) (r : V → List V → Hp → VK → Prop) (g : D → List D → M D) : Prop := ∀ ρ hm H x as v us d hm' Q, RH G ρ H hm → RV G.K ρ H x v → RVs G.K ρ H as us → g x as hm = some (d, hm') → Aft G ρ H hm d hm' Q → r v us H Q
def fMt (T : String) (g : D → List D → M D) (c : D → Hm → Bool) (fo : Env → M D) (fa : Env → M (List D)) : Env → M D := fun env => bnd (fo env) fun x hm => if c x hm = true then bnd (fa env) (fun as => g x as) hm else none
/-- it is a list that is told -/
def isL (d : D) (hm : Hm) : Bool := match d with
  | .ref n => match hm.get n with
    | some (.lst _) => true
    | _ => false
  | _ => false
theorem isL_ty {ρ : Nat → Option Addr} {hm : Hm} {H : Hp} {d : D} {v : V} (r : RH G ρ H hm) (hv : RV G.K ρ H d v) (c : isL d hm = true) : tyV G.K "list" v H := by
  unfold isL at c
  split at c
  · rename_i n
    split at c
    · rename_i xs hx
      unfold RV at hv
      obtain ⟨a, ha, rfl⟩ := hv
      obtain ⟨a', ha', ys, h1, h2⟩ := r.obj _ _ hx
      rw [ha] at ha'; cases ha'
      exact .inl ⟨rfl, ys, SqL.of h1⟩
    · cases c
  · cases c
theorem mt_run {T : String} {r : V → List V → Hp → VK → Prop} {g : D → List D → M D} {fo : Env → M D} {fa : Env → M (List D)} {c : D → Hm → Bool} (hK : G.K = X.K) (hc : ∀ {ρ hm H d v}, RH G ρ H hm → RV G.K ρ H d v → c d hm = true → tyV G.K T v H) (s : MtS G T r g) {σ : L2.St} {H : Hp} {Q : VK} (h : tE G (fMt T g c fo fa) σ H Q) :
    tBM X.K T r (tE G fo) (tA G fa) σ H Q := by
  obtain ⟨ρ, env, hm, d, hm', rs, e, q⟩ := h
  obtain ⟨x, h1, e1, e⟩ := bnd_some e
  split at e
  · rename_i cc
    obtain ⟨as, h2, e2, e⟩ := bnd_some e
    refine ⟨ρ, env, hm, x, h1, rs, e1, fun ρ1 v1 H1 l1 r1 v => ⟨by rw [← hK]; exact hc r1 v cc, ?_⟩⟩
    refine ⟨ρ1, env, h1, as, h2, l1.rs rs r1, e2, fun ρ2 us H2 l2 r2 u => ?_⟩
    exact s ρ2 h2 H2 x as v1 us d hm' Q r2 (l2.rv r1 v) u e fun ρ3 w H3 l3 r3 z => q ρ3 w H3 (l1.trans (l2.trans l3)) r3 z
  · cases e
theorem RVs.one {K : PySem.W.Frag} {ρ : Nat → Option Addr} {H : Hp} {d : D} {vs : List V} (h : RVs K ρ H [d] vs) : ∃ v, vs = [v] ∧ RV K ρ H d v := by
  unfold RVs at h
  obtain ⟨y, r, rfl, h1, h2⟩ := h
  unfold RVs at h2
  subst h2
  exact ⟨y, rfl, h1⟩
theorem s_append : MtS G "list" rAppend mtA := by
  intro ρ hm H x as v us d hm' Q r hv hu e q
  unfold mtA at e
  split at e
  · rename_i n y
    split at e
    · rename_i u h ea
      cases e
      unfold RV at hv
      obtain ⟨a, ha, rfl⟩ := hv
      obtain ⟨w, rfl, hw⟩ := hu.one
      obtain ⟨acc, k1, k2, k3, k4⟩ := app1_ok r ha ea hw
      exact ⟨a, acc, w, rfl, rfl, k1, k2, q ρ _ _ k4 k3 (by unfold RV; rfl)⟩
    · cases e
  · cases e
def mtPop (x : D) (as : List D) : M D := fun hm => match x, as with
  | .ref n, [] => match hm.get n with
    | some (.lst xs) => match xs[xs.length - 1]? with
      | some d => some (d, hm.put n (.lst xs.dropLast) true)
      | none => none
    | _ => none
  | _, _ => none
theorem unders_take {n : Nat} : ∀ (k : Nat) {xs : List D}, D.unders n xs = true → D.unders n (xs.take k) = true
  | 0, _, _ => by simp [D.unders]
  | k + 1, [], h => by simp [D.unders]
  | k + 1, x :: xs, h => by
    unfold D.unders at h
    rw [Bool.and_eq_true] at h
    rw [List.take_succ_cons]; unfold D.unders
    rw [h.1, unders_take k h.2]; rfl
theorem s_pop : MtS G "list" rPop mtPop := by
  intro ρ hm H x as v us d hm' Q r hv hu e q
  unfold mtPop at e
  split at e
  · rename_i n
    split at e
    · rename_i xs hx
      split at e
      · rename_i d' hd
        cases e
        unfold RV at hv
        obtain ⟨a, ha, rfl⟩ := hv
        unfold RVs at hu
        subst hu
        obtain ⟨a', ha', ys, h1, h2⟩ := r.obj _ _ hx
        rw [ha] at ha'; cases ha'
        obtain ⟨w, e1, e2⟩ := h2.get hd
        have tx : TX G.K H (upd H a (.lst ys.dropLast)) := TX.mut h1 (by trivial)
        obtain ⟨z1, z2⟩ := r.put (bb := true) (u' := .lst ys.dropLast) hx ha h1 (by trivial) (o' := .lst xs.dropLast) ⟨_, upd_same, RVs.mono (fun _ _ z => z) tx _ _ h2.dropLast⟩ (fun _ b => by
          have b : D.unders (n + 1) xs = true := b
          show D.unders (n + 1) xs.dropLast = true
          rw [List.dropLast_eq_take]
          exact unders_take _ b)
        refine ⟨a, ys, w, rfl, rfl, h1, by rw [← h2.length]; exact e1, ?_⟩
        exact q ρ w _ z2 z1 (z2.rv r e2)
      · cases e
    · cases e
  · cases e
end
end Eng
set_option maxRecDepth 100000
set_option maxHeartbeats 4000000
/-! Dicts; calls of methods. -/
namespace Eng
open PySem PySem.Spec PyProof.Rows L2

def getKV {κ α : Type} [DecidableEq κ] : List (κ × α) → κ → Option α
  | [], _ => none
  | p :: r, k => if p.1 = k then some p.2 else getKV r k
def putKV {κ α : Type} [DecidableEq κ] (kvs : List (κ × α)) (k : κ) (v : α) : List (κ × α) :=
  if (kvs.any fun kv => decide (kv.1 = k)) = true then kvs.map (fun kv => if kv.1 = k then (kv.1, v) else kv) else kvs ++ [(k, v)]
/-- what is told stands, or nothing on both sides -/
def OV (K : PySem.W.Frag) (ρ : Nat → Option Addr) (H : Hp) : Option D → Option V → Prop
  | some d, some v => RV K ρ H d v
  | none, none => True
  | _, _ => False
section
variable {G : Gd} {ρ : Nat → Option Addr} {H : Hp} {κ : Type} [DecidableEq κ]
theorem RK.get : ∀ {x : List (κ × D)} {y : List (κ × V)} (k : κ), RK G ρ H x y → OV G.K ρ H (getKV x k) (valV y k)
  | _, _, k, .nil => by unfold getKV; rw [valV_nil]; trivial
  | p :: r, q :: t, k, .cons z w => by
    unfold getKV
    by_cases c : p.1 = k
    · rw [if_pos c, valV_pos (by rw [← z.1]; exact c)]; exact z.2
    · rw [if_neg c, valV_neg (by rw [← z.1]; exact c)]; exact RK.get k w
theorem RK.any : ∀ {x : List (κ × D)} {y : List (κ × V)} (k : κ), RK G ρ H x y → (x.any fun kv => decide (kv.1 = k)) = (y.any fun kv => decide (kv.1 = k))
  | _, _, k, .nil => rfl
  | p :: r, q :: t, k, .cons z w => by rw [List.any_cons, List.any_cons, RK.any k w, z.1]
theorem RK.maps {d : D} {v : V} (hv : RV G.K ρ H d v) (k : κ) : ∀ {x : List (κ × D)} {y : List (κ × V)}, RK G ρ H x y → RK G ρ H (x.map fun kv => if kv.1 = k then (kv.1, d) else kv) (y.map fun kv => if kv.1 = k then (kv.1, v) else kv)
  | _, _, .nil => .nil
  | p :: r, q :: t, .cons z w => by
    refine .cons ?_ (RK.maps hv k w)
    show (if p.1 = k then (p.1, d) else p).1 = (if q.1 = k then (q.1, v) else q).1 ∧ RV G.K ρ H (if p.1 = k then (p.1, d) else p).2 (if q.1 = k then (q.1, v) else q).2
    by_cases c : p.1 = k
    · have c' : q.1 = k := by rw [← z.1]; exact c
      rw [if_pos c, if_pos c']; exact ⟨z.1, hv⟩
    · have c' : ¬ q.1 = k := by rw [← z.1]; exact c
      rw [if_neg c, if_neg c']; exact z
theorem RK.app : ∀ {x x' : List (κ × D)} {y y' : List (κ × V)}, RK G ρ H x y → RK G ρ H x' y' → RK G ρ H (x ++ x') (y ++ y')
  | _, _, _, _, .nil, h => h
  | p :: r, _, q :: t, _, .cons z w, h => .cons z (RK.app w h)
theorem RK.put {d : D} {v : V} {x : List (κ × D)} {y : List (κ × V)} (k : κ) (h : RK G ρ H x y) (hv : RV G.K ρ H d v) : RK G ρ H (putKV x k d) (putK y k v) := by
  unfold putKV putK
  rw [h.any k]
  split
  · exact h.maps hv k
  · exact h.app (.cons ⟨rfl, hv⟩ .nil)
theorem RK.length {x : List (κ × D)} {y : List (κ × V)} (h : RK G ρ H x y) : x.length = y.length := Paired.length h
end
def keyOf : D → Option Key
  | .int i => some (.inl i)
  | .str x => some (.inr x)
  | _ => none
def keysOf (d : D) : Option (List Key) := match d with
  | .tup xs => optAll keyOf xs
  | _ => none
theorem keyOf_rv {K : PySem.W.Frag} {ρ : Nat → Option Addr} {H : Hp} {d : D} {k : Key} {v : V} (e : keyOf d = some k) (h : RV K ρ H d v) : v = kV k := by
  unfold keyOf at e
  split at e
  · cases e; unfold RV at h; exact h
  · cases e; unfold RV at h; exact h
  · cases e
theorem keysOf_rvs {K : PySem.W.Frag} {ρ : Nat → Option Addr} {H : Hp} : ∀ {xs : List D} {ks : List Key} {vs : List V}, optAll keyOf xs = some ks → RVs K ρ H xs vs → vs = ks.map kV
  | [], ks, vs, e, h => by cases e; unfold RVs at h; exact h
  | x :: xs, ks, vs, e, h => by
    unfold RVs at h
    obtain ⟨y, r, rfl, h1, h2⟩ := h
    unfold optAll at e
    split at e
    · rename_i k ks' e1 e2
      cases e
      rw [keyOf_rv e1 h1, keysOf_rvs e2 h2]; rfl
    · cases e
theorem keysOf_rv {K : PySem.W.Frag} {ρ : Nat → Option Addr} {H : Hp} {d : D} {ks : List Key} {v : V} (e : keysOf d = some ks) (h : RV K ρ H d v) : ∃ b, v = .ref b ∧ H b = some (.tup (ks.map kV)) := by
  unfold keysOf at e
  split at e
  · unfold RV at h
    obtain ⟨a, ys, rfl, h1, h2⟩ := h
    rw [keysOf_rvs e h2] at h1
    exact ⟨a, rfl, h1⟩
  · cases e
/-- what a dict tells of a key -/
def dLook (hm : Hm) (x y : D) : Option (Option D) := match x with
  | .ref n => match hm.get n with
    | some (.dk kvs) => match keyOf y with
      | some k => some (getKV kvs k)
      | none => none
    | some (.dt kvs) => match keysOf y with
      | some k => some (getKV kvs k)
      | none => none
    | _ => none
  | _ => none
def dKeep (hm : Hm) (x y d : D) : Option Hm := match x with
  | .ref n => match hm.get n with
    | some (.dk kvs) => match keyOf y with
      | some k => if kvs.length < big then some (hm.put n (.dk (putKV kvs k d)) (D.under (n + 1) d)) else none
      | none => none
    | some (.dt kvs) => match keysOf y with
      | some k => if kvs.length < big then some (hm.put n (.dt (putKV kvs k d)) (D.under (n + 1) d)) else none
      | none => none
    | _ => none
  | _ => none
theorem underKV_maps {κ : Type} [DecidableEq κ] {n : Nat} {d : D} (hd : D.under n d = true) (k : κ) : ∀ (kvs : List (κ × D)), D.underKV n kvs = true → D.underKV n (kvs.map fun kv => if kv.1 = k then (kv.1, d) else kv) = true
  | [], _ => rfl
  | (a, v) :: r, h => by
    unfold D.underKV at h
    rw [Bool.and_eq_true] at h
    have ih := underKV_maps hd k r h.2
    rw [List.map_cons]
    show D.underKV n ((if a = k then (a, d) else (a, v)) :: _) = true
    by_cases c : a = k
    · rw [if_pos c]; unfold D.underKV; rw [hd, ih]; rfl
    · rw [if_neg c]; unfold D.underKV; rw [h.1, ih]; rfl
theorem underKV_app {κ : Type} {n : Nat} {d : D} (hd : D.under n d = true) (k : κ) : ∀ (kvs : List (κ × D)), D.underKV n kvs = true → D.underKV n (kvs ++ [(k, d)]) = true
  | [], _ => by show D.underKV n [(k, d)] = true; unfold D.underKV; rw [hd]; rfl
  | (a, v) :: r, h => by
    unfold D.underKV at h
    rw [Bool.and_eq_true] at h
    have ih := underKV_app hd k r h.2
    rw [List.cons_append]; unfold D.underKV
    rw [h.1, ih]; rfl
theorem underKV_put {κ : Type} [DecidableEq κ] {n : Nat} {d : D} (hd : D.under n d = true) (k : κ) (kvs : List (κ × D)) (h : D.underKV n kvs = true) : D.underKV n (putKV kvs k d) = true := by
  unfold putKV
  split
  · exact underKV_maps hd k kvs h
  · exact underKV_app hd k kvs h
section
variable {X : Cx} {G : Gd} {ρ : Nat → Option Addr} {H : Hp} {hm : Hm}
theorem look_ok {x y : D} {o : Option D} {v u : V} (r : RH G ρ H hm) (hv : RV G.K ρ H x v) (hu : RV G.K ρ H y u) (e : dLook hm x y = some o) : ∃ a w, v = .ref a ∧ IsD H a ∧ DGet H a u w ∧ OV G.K ρ H o w := by
  unfold dLook at e
  split at e
  · rename_i n
    unfold RV at hv
    obtain ⟨a, ha, rfl⟩ := hv
    split at e
    · rename_i kvs hx
      split at e
      · rename_i k hk
        cases e
        obtain ⟨a', ha', ks, h1, h2⟩ := r.obj _ _ hx
        rw [ha] at ha'; cases ha'
        rw [keyOf_rv hk hu]
        exact ⟨a, _, rfl, .inl ⟨ks, .inl h1⟩, .inl ⟨ks, k, .inl h1, rfl, rfl⟩, h2.get k⟩
      · cases e
    · rename_i kvs hx
      split at e
      · rename_i k hk
        cases e
        obtain ⟨a', ha', ks, h1, h2⟩ := r.obj _ _ hx
        rw [ha] at ha'; cases ha'
        obtain ⟨b, rfl, hb⟩ := keysOf_rv hk hu
        exact ⟨a, _, rfl, .inr ⟨ks, .inl h1⟩, .inr ⟨ks, k, b, .inl h1, rfl, hb, rfl⟩, h2.get k⟩
      · cases e
    · cases e
  · cases e
theorem keep_ok {x y d : D} {hm' : Hm} {v u w : V} (r : RH G ρ H hm) (hv : RV G.K ρ H x v) (hu : RV G.K ρ H y u) (hw : RV G.K ρ H d w) (e : dKeep hm x y d = some hm') : ∃ a H', v = .ref a ∧ DPut H a u w H' ∧ RH G ρ H' hm' ∧ Le G.K ρ H hm ρ H' hm' := by
  unfold dKeep at e
  split at e
  · rename_i n
    unfold RV at hv
    obtain ⟨a, ha, rfl⟩ := hv
    split at e
    · rename_i kvs hx
      split at e
      · rename_i k hk
        split at e
        · rename_i hl
          cases e
          obtain ⟨a', ha', ks, h1, h2⟩ := r.obj _ _ hx
          rw [ha] at ha'; cases ha'
          rw [keyOf_rv hk hu]
          have tx : TX G.K H (upd H a (.dK (putK ks k w))) := TX.mut h1 (by trivial)
          refine ⟨a, _, rfl, .inl ⟨ks, k, h1, rfl, by rw [← h2.length]; exact big_lt hl, rfl⟩, r.put hx ha h1 (by trivial) ⟨_, upd_same, (h2.put k hw).mono (fun _ _ z => z) tx⟩ fun b1 b2 => ?_⟩
          exact underKV_put b1 k kvs b2
        · cases e
      · cases e
    · rename_i kvs hx
      split at e
      · rename_i k hk
        split at e
        · rename_i hl
          cases e
          obtain ⟨a', ha', ks, h1, h2⟩ := r.obj _ _ hx
          rw [ha] at ha'; cases ha'
          obtain ⟨b, rfl, hb⟩ := keysOf_rv hk hu
          have tx : TX G.K H (upd H a (.dT (putK ks k w))) := TX.mut h1 (by trivial)
          refine ⟨a, _, rfl, .inr ⟨ks, k, b, h1, rfl, hb, by rw [← h2.length]; exact big_lt hl, rfl⟩, r.put hx ha h1 (by trivial) ⟨_, upd_same, (h2.put k hw).mono (fun _ _ z => z) tx⟩ fun b1 b2 => ?_⟩
          exact underKV_put b1 k kvs b2
        · cases e
      · cases e
    · cases e
  · cases e

/-! ### the rules -/
def gDGet : D → D → M D := fun x y hm => match dLook hm x y with
  | some (some d) => some (d, hm)
  | _ => none
theorem e_dget {o i : Expr} {fo fi : Env → M D} {pos : Pos} (hu : X.A.units + 1 < cLine) (ho : PE X o (tE G fo)) (hi : PE X i (tE G fi)) (hs : NoSl i) : PE X (.Subscript o i pos) (tE G (fOp gDGet fo fi)) :=
  PE.imp (pe_dget hu ho hi hs) fun σ H Q ⟨ρ, env, hm, d, hm', rs, e, q⟩ => by
    obtain ⟨x, h1, e1, e⟩ := bnd_some e
    obtain ⟨y, h2, e2, e⟩ := bnd_some e
    refine ⟨ρ, env, hm, x, h1, rs, e1, fun ρ1 v1 H1 l1 r1 v => ?_⟩
    refine ⟨ρ1, env, h1, y, h2, l1.rs rs r1, e2, fun ρ2 v2 H2 l2 r2 u => ?_⟩
    unfold gDGet at e
    split at e
    · rename_i d' hl
      cases e
      obtain ⟨a, w, rfl, _, h3, h4⟩ := look_ok r2 (l2.rv r1 v) u hl
      cases w with
      | none => exact h4.elim
      | some w => exact ⟨a, w, rfl, h3, q ρ2 w H2 (l1.trans l2) r2 h4⟩
    · cases e
def gDIn (neg : Bool) : D → D → M D := fun y x hm => match dLook hm x y with
  | some o => some (.bl (if neg = true then !o.isSome else o.isSome), hm)
  | _ => none
theorem ov_some {K : PySem.W.Frag} {o : Option D} {w : Option V} (h : OV K ρ H o w) : w.isSome = o.isSome := by
  cases o <;> cases w <;> first | rfl | exact h.elim
def rDIn (neg : Bool) : R2 := fun y x H Q => ∃ a o, x = V.ref a ∧ DGet H a y o ∧ Q (V.bl (if neg = true then !o.isSome else o.isSome)) H
theorem op_din (hu : X.A.units + 1 < cLine) : OpR X (compareOp .In) (rDIn false) := by
  intro pins s σ H y x iv u Q I ry rx h
  obtain ⟨a, o, ex, g, q⟩ := h
  subst ex
  obtain rfl : u = Value.ref a := rx
  exact d_in hu I g ry fun s3 I3 => ⟨.bl o.isSome, H, I3, rfl, q⟩
theorem op_dnotin (hu : X.A.units + 1 < cLine) : OpR X (compareOp .NotIn) (rDIn true) := by
  intro pins s σ H y x iv u Q I ry rx h
  obtain ⟨a, o, ex, g, q⟩ := h
  subst ex
  obtain rfl : u = Value.ref a := rx
  exact d_notIn hu I g ry fun s3 I3 => ⟨.bl (!o.isSome), H, I3, rfl, q⟩
theorem s_din {neg : Bool} : OpS G (rDIn neg) (gDIn neg) := by
  intro ρ hm H y x v u d hm' Q r hv hu e q
  unfold gDIn at e
  split at e
  · rename_i o hl
    cases e
    obtain ⟨a, w, rfl, _, h3, h4⟩ := look_ok r hu hv hl
    refine ⟨a, w, rfl, h3, ?_⟩
    rw [ov_some h4]
    exact q ρ _ H Le.refl r (by unfold RV; rfl)
  · cases e
/-- one of two -/
def orM (g g' : D → D → M D) : D → D → M D := fun x y hm => match g x y hm with
  | some r => some r
  | none => g' x y hm
theorem OpS.or {r r' : R2} {g g' : D → D → M D} (a : OpS G r g) (b : OpS G r' g') : OpS G (fun x y H Q => r x y H Q ∨ r' x y H Q) (orM g g') := by
  intro ρ hm H x y v u d hm' Q rh hv hu e q
  unfold orM at e
  split at e
  · rename_i w hg
    cases e
    exact .inl (a ρ hm H x y v u d hm' Q rh hv hu hg q)
  · exact .inr (b ρ hm H x y v u d hm' Q rh hv hu e q)
def gIn : D → D → M D := orM (gDIn false) (inG false)
def gNotIn : D → D → M D := orM (gDIn true) (inG true)
theorem t_in {a b : Expr} {fa fb : Env → M D} {pos : Pos} (hK : G.K = X.K) (hu : X.A.units + 65 < cLine) (ha : PE X a (tE G fa)) (hb : PE X b (tE G fb)) (hm : behindInMarks .In b = false) : PT X (.Compare a [.In] [b] pos) (tT G (fTest (fOp gIn fa fb))) := by
  have s := OpS.or (s_din (G := G) (neg := false)) s_in
  rw [hK] at s
  exact t_cmp (OpR.or (op_din (by omega)) (op_inA hu)) s ha hb hm
theorem e_in {a b : Expr} {fa fb : Env → M D} {pos : Pos} (hK : G.K = X.K) (hu : X.A.units + 65 < cLine) (ha : PE X a (tE G fa)) (hb : PE X b (tE G fb)) (hm : behindInMarks .In b = false) : PE X (.Compare a [.In] [b] pos) (tE G (fOp gIn fa fb)) := by
  have s := OpS.or (s_din (G := G) (neg := false)) s_in
  rw [hK] at s
  exact e_cmp (OpR.or (op_din (by omega)) (op_inA hu)) s ha hb hm
theorem t_notIn {a b : Expr} {fa fb : Env → M D} {pos : Pos} (hK : G.K = X.K) (hu : X.A.units + 65 < cLine) (ha : PE X a (tE G fa)) (hb : PE X b (tE G fb)) (hm : behindInMarks .NotIn b = false) : PT X (.Compare a [.NotIn] [b] pos) (tT G (fTest (fOp gNotIn fa fb))) := by
  have s := OpS.or (s_din (G := G) (neg := true)) s_notIn
  rw [hK] at s
  exact t_cmp (OpR.or (op_dnotin (by omega)) (op_notInA hu)) s ha hb hm

/-! ### dicts that are new, put into, asked -/
theorem rh_dk {ρ : Nat → Option Addr} {H : Hp} {hm : Hm} {p : Addr} {ds : List (Key × D)} {vs : List (Key × V)} (r : RH G ρ H hm) (hp : H p = none) (h : RK G ρ H ds vs) :
    RH G (rset ρ hm.nx p) (upd H p (.dK vs)) (hm.new (.dk ds)) ∧ Le G.K ρ H hm (rset ρ hm.nx p) (upd H p (.dK vs)) (hm.new (.dk ds)) :=
  r.new hp ⟨vs, upd_same, h.mono (fun _ _ z => z) (TX.new hp)⟩
theorem rh_dt {ρ : Nat → Option Addr} {H : Hp} {hm : Hm} {p : Addr} {ds : List (List Key × D)} {vs : List (List Key × V)} (r : RH G ρ H hm) (hp : H p = none) (h : RK G ρ H ds vs) :
    RH G (rset ρ hm.nx p) (upd H p (.dT vs)) (hm.new (.dt ds)) ∧ Le G.K ρ H hm (rset ρ hm.nx p) (upd H p (.dT vs)) (hm.new (.dt ds)) :=
  r.new hp ⟨vs, upd_same, h.mono (fun _ _ z => z) (TX.new hp)⟩
def fNewK : Env → M D := fun _ hm => some (.ref hm.nx, hm.new (.dk []))
def fNewT : Env → M D := fun _ hm => some (.ref hm.nx, hm.new (.dt []))
theorem e_newK {pos : Pos} : PE X (.Dict [] [] pos) (tE G fNewK) := PE.imp pe_dnewK fun σ H Q ⟨ρ, env, hm, d, hm', rs, e, q⟩ => by
  cases e
  intro p hp
  obtain ⟨a, b⟩ := rh_dk rs.rh hp (ds := []) (vs := []) .nil
  exact q _ _ _ b a rv_new
theorem e_newT {pos : Pos} : PE X (.Dict [] [] pos) (tE G fNewT) := PE.imp pe_dnewT fun σ H Q ⟨ρ, env, hm, d, hm', rs, e, q⟩ => by
  cases e
  intro p hp
  obtain ⟨a, b⟩ := rh_dt rs.rh hp (ds := []) (vs := []) .nil
  exact q _ _ _ b a rv_new
def isD (d : D) (hm : Hm) : Bool := match d with
  | .ref n => match hm.get n with
    | some (.dk _) => true
    | some (.dt _) => true
    | _ => false
  | _ => false
theorem isD_ok {ρ : Nat → Option Addr} {H : Hp} {hm : Hm} {d : D} {v : V} (r : RH G ρ H hm) (hv : RV G.K ρ H d v) (c : isD d hm = true) : ∃ a, v = .ref a ∧ IsD H a := by
  unfold isD at c
  split at c
  · rename_i n
    unfold RV at hv
    obtain ⟨a, ha, rfl⟩ := hv
    refine ⟨a, rfl, ?_⟩
    split at c
    · rename_i kvs hx
      obtain ⟨a', ha', ks, h1, h2⟩ := r.obj _ _ hx
      rw [ha] at ha'; cases ha'
      exact .inl ⟨ks, .inl h1⟩
    · rename_i kvs hx
      obtain ⟨a', ha', ks, h1, h2⟩ := r.obj _ _ hx
      rw [ha] at ha'; cases ha'
      exact .inr ⟨ks, .inl h1⟩
    · cases c
  · cases c
def fDGet2 (fo fi fx : Env → M D) : Env → M D := fun env => bnd (fo env) fun x hm => if isD x hm = true then bnd (fi env) (fun y => bnd (fx env) fun z hm => match dLook hm x y with
  | some o => some (o.getD z, hm)
  | none => none) hm else none
theorem e_dget2 {o e f : Expr} {fo fi fx : Env → M D} {apos cpos : Pos} (hu : X.A.units + 1 < cLine) (ho : PE X o (tE G fo)) (he : PE X e (tE G fi)) (hf : PE X f (tE G fx)) (m : M2 X o "get" apos e f cpos) : PE X (.Call (.Attribute o "get" apos) [e, f] [] cpos) (tE G (fDGet2 fo fi fx)) :=
  PE.imp (pe_dget2 hu ho he hf m) fun σ H Q ⟨ρ, env, hm, d, hm', rs, e, q⟩ => by
    obtain ⟨x, h1, e1, e⟩ := bnd_some e
    split at e
    · rename_i c
      obtain ⟨y, h2, e2, e⟩ := bnd_some e
      obtain ⟨z, h3, e3, e⟩ := bnd_some e
      refine ⟨ρ, env, hm, x, h1, rs, e1, fun ρ1 v1 H1 l1 r1 v => ?_⟩
      obtain ⟨a, rfl, hd⟩ := isD_ok r1 v c
      refine ⟨a, rfl, hd, ?_⟩
      refine ⟨ρ1, env, h1, y, h2, l1.rs rs r1, e2, fun ρ2 v2 H2 l2 r2 u => ?_⟩
      refine ⟨ρ2, env, h2, z, h3, l2.rs (l1.rs rs r1) r2, e3, fun ρ3 v3 H3 l3 r3 w => ?_⟩
      have e' : (match dLook h3 x y with
        | some o => some (o.getD z, h3)
        | none => none) = some (d, hm') := e
      split at e'
      · rename_i o hl
        cases e'
        obtain ⟨a', w', ea, _, k1, k2⟩ := look_ok r3 (l3.rv r2 (l2.rv r1 v)) (l3.rv r2 u) hl
        cases ea
        refine ⟨w', k1, q ρ3 _ H3 (l1.trans (l2.trans l3)) r3 ?_⟩
        cases o <;> cases w' <;> first | exact k2.elim | exact w | exact k2
      · cases e'
    · cases e
/-- d[k] = v -/
def fDPut (fo fi fv : Env → M D) : Env → M Fl := fun env => bnd (fv env) fun w => bnd (fo env) fun x => bnd (fi env) fun y hm => match dKeep hm x y w with
  | some h => some (.nx env, h)
  | none => none
theorem s_dput {o i value : Expr} {fo fi fv : Env → M D} {pos pos' : Pos} (hu : X.A.units + 1 < cLine) (ho : PE X o (tE G fo)) (hi : PE X i (tE G fi)) (hv : PE X value (tE G fv)) (hs : swapsWith value (some (.Subscript o i pos')) pos.line X.env = pure false) :
    PS X (.Assign [.Subscript o i pos'] value pos) (tS G (fDPut fo fi fv)) := PS.imp (ps_dput hu ho hi hv hs) fun E σ H ⟨ρ, env, hm, fl, hm', rs, e, q⟩ => by
  obtain ⟨w, h1, e1, e⟩ := bnd_some e
  obtain ⟨x, h2, e2, e⟩ := bnd_some e
  obtain ⟨y, h3, e3, e⟩ := bnd_some e
  have e' : (match dKeep h3 x y w with
    | some h => some (Fl.nx env, h)
    | none => none) = some (fl, hm') := e
  split at e'
  · rename_i h hl
    cases e'
    refine ⟨ρ, env, hm, w, h1, rs, e1, fun ρ1 v1 H1 l1 r1 v => ?_⟩
    refine ⟨ρ1, env, h1, x, h2, l1.rs rs r1, e2, fun ρ2 v2 H2 l2 r2 u => ?_⟩
    refine ⟨ρ2, env, h2, y, h3, l2.rs (l1.rs rs r1) r2, e3, fun ρ3 v3 H3 l3 r3 z => ?_⟩
    obtain ⟨a, H4, rfl, k1, k2, k3⟩ := keep_ok r3 (l3.rv r2 u) z (l3.rv r2 (l2.rv r1 v)) hl
    exact ⟨a, H4, rfl, k1, q ρ3 σ H4 (l1.trans (l2.trans (l3.trans k3))) (k3.rs (l3.rs (l2.rs (l1.rs rs r1) r2) r3) k2)⟩
  · cases e'
end
end Eng
set_option maxRecDepth 100000
set_option maxHeartbeats 4000000
/-! Stores; calls of methods and of what is built in. -/
namespace Eng
open PySem PySem.Spec PyProof.Rows L2
section
variable {X : Cx} {G : Gd}

/-! ### o[i] = e for lists and dicts -/
theorem PSet.or {t t' : TSet} (h : PSet X t) (h' : PSet X t') : PSet X (fun o i v H Q => t o i v H Q ∨ t' o i v H Q) := by
  intro pins s σ H o i v ov iv u Q I ro ri rv q
  rcases q with q | q
  · exact h pins s σ H o i v ov iv u Q I ro ri rv q
  · exact h' pins s σ H o i v ov iv u Q I ro ri rv q
def lKeep (hm : Hm) (x y d : D) : Option Hm := match x, y with
  | .ref n, .int k => match hm.get n with
    | some (.lst xs) => match ixN xs.length k with
      | some j => some (hm.put n (.lst (xs.set j d)) (D.under (n + 1) d))
      | none => none
    | _ => none
  | _, _ => none
theorem unders_set {n : Nat} {d : D} (hd : D.under n d = true) : ∀ (j : Nat) {xs : List D}, D.unders n xs = true → D.unders n (xs.set j d) = true
  | _, [], h => h
  | 0, x :: xs, h => by
    unfold D.unders at h
    rw [Bool.and_eq_true] at h
    rw [List.set_cons_zero]; unfold D.unders
    rw [hd, h.2]; rfl
  | j + 1, x :: xs, h => by
    unfold D.unders at h
    rw [Bool.and_eq_true] at h
    rw [List.set_cons_succ]; unfold D.unders
    rw [h.1, unders_set hd j h.2]; rfl
theorem lkeep_ok {ρ : Nat → Option Addr} {H : Hp} {hm : Hm} {x y d : D} {hm' : Hm} {v u w : V} (r : RH G ρ H hm) (hv : RV G.K ρ H x v) (hu : RV G.K ρ H y u) (hw : RV G.K ρ H d w) (e : lKeep hm x y d = some hm') :
    ∃ p xs k j, v = .ref p ∧ u = .int k ∧ H p = some (.lst xs) ∧ ixN xs.length k = some j ∧ RH G ρ (upd H p (.lst (xs.set j w))) hm' ∧ Le G.K ρ H hm ρ (upd H p (.lst (xs.set j w))) hm' := by
  unfold lKeep at e
  split at e
  · rename_i n k
    unfold RV at hv hu
    obtain ⟨a, ha, rfl⟩ := hv
    split at e
    · rename_i xs hx
      split at e
      · rename_i j hj
        cases e
        obtain ⟨a', ha', ys, h1, h2⟩ := r.obj _ _ hx
        rw [ha] at ha'; cases ha'
        have tx : TX G.K H (upd H a (.lst (ys.set j w))) := TX.mut h1 (by trivial)
        refine ⟨a, ys, k, j, rfl, hu, h1, by rw [← h2.length]; exact hj, r.put hx ha h1 (by trivial) ⟨_, upd_same, RVs.mono (fun _ _ z => z) tx _ _ (h2.set j hw)⟩ fun b1 b2 => ?_⟩
        exact unders_set b1 j b2
      · cases e
    · cases e
  · cases e
def mKeep (hm : Hm) (x y d : D) : Option Hm := match lKeep hm x y d with
  | some h => some h
  | none => dKeep hm x y d
def gSubD (fo fi : Env → M D) : D → Env → M Env := fun d env => bnd (fo env) fun x => bnd (fi env) fun y hm => match mKeep hm x y d with
  | some h => some (env, h)
  | none => none
theorem g_sub {o i : Expr} {fo fi : Env → M D} {pos : Pos} (hu : X.A.units + 1 < cLine) (ho : PE X o (tE G fo)) (hi : PE X i (tE G fi))
    (ha : ∀ v, assign (.Subscript o i pos) X.env v = (do
      let ov ← holding [v] (eval o X.env)
      let iv ← holding [v, ov] (eval i X.env)
      standAt pos
      holding [v, ov, iv] (setItem ov iv v)
      release [v, ov, iv] []) := by intro _; rfl) : PG X (.Subscript o i pos) (tG G (gSubD fo fi)) :=
  PG.imp (pg_sub ho hi (PSet.or set_list (set_dict hu)) ha) fun v σ H Q ⟨ρ, env, hm, d, env', hm', rs, rv, e, q⟩ => by
    obtain ⟨x, h2, e2, e⟩ := bnd_some e
    obtain ⟨y, h3, e3, e⟩ := bnd_some e
    have e' : (match mKeep h3 x y d with
      | some h => some (env, h)
      | none => none) = some (env', hm') := e
    split at e'
    · rename_i h hl
      cases e'
      refine ⟨ρ, env, hm, x, h2, rs, e2, fun ρ2 v2 H2 l2 r2 u => ?_⟩
      refine ⟨ρ2, env, h2, y, h3, l2.rs rs r2, e3, fun ρ3 v3 H3 l3 r3 z => ?_⟩
      unfold mKeep at hl
      split at hl
      · rename_i h' hl'
        cases hl
        obtain ⟨p, xs, k, j, k1, k2, k3, k4, k5, k6⟩ := lkeep_ok r3 (l3.rv r2 u) z (l3.rv r2 (l2.rv rs.rh rv)) hl'
        exact .inl ⟨p, xs, k, j, k1, k2, k3, k4, q ρ3 σ _ (l2.trans (l3.trans k6)) (k6.rs (l3.rs (l2.rs rs r2) r3) k5)⟩
      · obtain ⟨a, H4, k0, k1, k2, k3⟩ := keep_ok r3 (l3.rv r2 u) z (l3.rv r2 (l2.rv rs.rh rv)) hl
        exact .inr ⟨a, H4, k0, k1, q ρ3 σ H4 (l2.trans (l3.trans k3)) (k3.rs (l3.rs (l2.rs rs r2) r3) k2)⟩
    · cases e'

/-! ### methods -/
def fMt0 (g : D → List D → M D) (c : D → Hm → Bool) (fo : Env → M D) : Env → M D := fun env => bnd (fo env) fun x hm => if c x hm = true then g x [] hm else none
theorem mt0_run {T : String} {r : V → List V → Hp → VK → Prop} {g : D → List D → M D} {fo : Env → M D} {c : D → Hm → Bool} (hK : G.K = X.K) (hc : ∀ {ρ hm H d v}, RH G ρ H hm → RV G.K ρ H d v → c d hm = true → tyV G.K T v H) (s : MtS G T r g) {σ : L2.St} {H : Hp} {Q : VK} (h : tE G (fMt0 g c fo) σ H Q) :
    tBM0 X.K T r (tE G fo) σ H Q := by
  obtain ⟨ρ, env, hm, d, hm', rs, e, q⟩ := h
  obtain ⟨x, h1, e1, e⟩ := bnd_some e
  split at e
  · rename_i cc
    refine ⟨ρ, env, hm, x, h1, rs, e1, fun ρ1 v1 H1 l1 r1 v => ⟨by rw [← hK]; exact hc r1 v cc, ?_⟩⟩
    exact s ρ1 h1 H1 x [] v1 [] d hm' Q r1 v .nil e fun ρ3 w H3 l3 r3 z => q ρ3 w H3 (l1.trans l3) r3 z
  · cases e
theorem isL_ok {ρ : Nat → Option Addr} {hm : Hm} {H : Hp} {d : D} {v : V} (r : RH G ρ H hm) (hv : RV G.K ρ H d v) (c : isL d hm = true) : tyV G.K "list" v H := isL_ty r hv c
theorem e_append {o e : Expr} {fo fe : Env → M D} {apos cpos : Pos} (hK : G.K = X.K) (ho : PE X o (tE G fo)) (he : PE X e (tE G fe))
    (hbase : attributeBase o "append" X.env (eval o X.env) = eval o X.env := by rfl)
    (hfew : (((backTo cpos (starEach [e] X.env)).all (fun x => !x.1) && (backToKw cpos (keywordEach [] X.env)).all (fun x => x.1.isSome)) && decide (([e] : List Expr).length + ([] : List Keyword).length + (if ([] : List Keyword).isEmpty = true then 0 else 1) < 30)) = true := by rfl)
    (hline : (apos.endLine == cpos.line) = true := by rfl) (hs : starEach [e] X.env = (false, eval e X.env) :: starEach [] X.env := by rfl) :
    PE X (.Call (.Attribute o "append" apos) [e] [] cpos) (tE G (fMt "list" mtA isL fo (fCons fe fNil))) :=
  PE.imp (pe_bm PySem.F.plainAttrs_list PySem.F.slot_list_append PySem.F.type_list_append mt_append ho (a_cons he a_nil hs) hbase hfew hline hs) fun σ H Q h => mt_run hK isL_ok s_append h
theorem e_pop {o : Expr} {fo : Env → M D} {apos cpos : Pos} (hK : G.K = X.K) (ho : PE X o (tE G fo))
    (hbase : attributeBase o "pop" X.env (eval o X.env) = eval o X.env := by rfl) (hline : (apos.endLine == cpos.line) = true := by rfl) :
    PE X (.Call (.Attribute o "pop" apos) [] [] cpos) (tE G (fMt0 mtPop isL fo)) :=
  PE.imp (pe_bm0 PySem.F.plainAttrs_list PySem.F.slot_list_pop PySem.F.type_list_pop mt_pop ho hbase hline) fun σ H Q h => mt0_run hK isL_ok s_pop h
def mtCnt (x : D) (as : List D) : M D := fun hm => match x, as with
  | .ref n, [.int k] => match itemsAt hm n with
    | some xs => match D.ints xs with
      | some ns => some (.int (ns.count k : Nat), hm)
      | none => none
    | none => none
  | _, _ => none
theorem s_count : MtS G "list" (rCntI G.K) mtCnt := by
  intro ρ hm H x as v us d hm' Q r hv hu e q
  unfold mtCnt at e
  split at e
  · rename_i n k
    split at e
    · rename_i xs hx
      split at e
      · rename_i ns hn
        cases e
        unfold RV at hv
        obtain ⟨a, ha, rfl⟩ := hv
        obtain ⟨w, rfl, hw⟩ := hu.one
        unfold RV at hw
        obtain ⟨a', ys, ha', h1, h2⟩ := r.items hx
        rw [ha] at ha'; cases ha'
        rw [ints_some hn] at h2
        rw [h2.ints] at h1
        subst hw
        exact ⟨a, ns, k, rfl, rfl, h1, q ρ _ H Le.refl r (by unfold RV; rfl)⟩
      · cases e
    · cases e
  · cases e
theorem e_count {o e : Expr} {fo fe : Env → M D} {apos cpos : Pos} (hK : G.K = X.K) (ho : PE X o (tE G fo)) (he : PE X e (tE G fe))
    (hbase : attributeBase o "count" X.env (eval o X.env) = eval o X.env := by rfl)
    (hfew : (((backTo cpos (starEach [e] X.env)).all (fun x => !x.1) && (backToKw cpos (keywordEach [] X.env)).all (fun x => x.1.isSome)) && decide (([e] : List Expr).length + ([] : List Keyword).length + (if ([] : List Keyword).isEmpty = true then 0 else 1) < 30)) = true := by rfl)
    (hline : (apos.endLine == cpos.line) = true := by rfl) (hs : starEach [e] X.env = (false, eval e X.env) :: starEach [] X.env := by rfl) :
    PE X (.Call (.Attribute o "count" apos) [e] [] cpos) (tE G (fMt "list" mtCnt isL fo (fCons fe fNil))) := by
  have s := s_count (G := G)
  rw [hK] at s
  exact PE.imp (pe_bm PySem.F.plainAttrs_list PySem.F.slot_list_count PySem.F.type_list_count mt_lcount ho (a_cons he a_nil hs) hbase hfew hline hs) fun σ H Q h => mt_run hK isL_ok s h
end
end Eng
set_option maxRecDepth 100000
set_option maxHeartbeats 4000000
/-! Calls of what is built in: len, int, abs, list, tuple, sum, all, min, max, type, isinstance. -/
namespace Eng
open PySem PySem.Spec PyProof.Rows L2
section
variable {X : Cx} {G : Gd}
abbrev RC := List V → Hp → VK → Prop
theorem CallR.or' {f : Value} {r r' : RC} (h : CallR X f r) (h' : CallR X f r') : CallR X f (fun xs H Q => r xs H Q ∨ r' xs H Q) := by
  intro pins s σ H xs us Q I rs q
  rcases q with q | q
  · exact h pins s σ H xs us Q I rs q
  · exact h' pins s σ H xs us Q I rs q
def orC (g g' : List D → M D) : List D → M D := fun xs hm => match g xs hm with
  | some r => some r
  | none => g' xs hm
theorem CallS.or {r r' : RC} {g g' : List D → M D} (a : CallS G r g) (b : CallS G r' g') : CallS G (fun xs H Q => r xs H Q ∨ r' xs H Q) (orC g g') := by
  intro ρ hm H xs vs d hm' Q rh hv e q
  unfold orC at e
  split at e
  · rename_i w hg
    cases e
    exact .inl (a ρ hm H xs vs d hm' Q rh hv hg q)
  · exact .inr (b ρ hm H xs vs d hm' Q rh hv e q)
theorem RVs.two {K : PySem.W.Frag} {ρ : Nat → Option Addr} {H : Hp} {d e : D} {vs : List V} (h : RVs K ρ H [d, e] vs) : ∃ v u, vs = [v, u] ∧ RV K ρ H d v ∧ RV K ρ H e u := by
  unfold RVs at h
  obtain ⟨y, r, rfl, h1, h2⟩ := h
  obtain ⟨u, rfl, h3⟩ := h2.one
  exact ⟨y, u, rfl, h1, h3⟩
/-- the items of a tuple, of a list -/
def seqOf (hm : Hm) (d : D) : Option (List D) := match d with
  | .tup xs => some xs
  | .ref n => itemsAt hm n
  | .kl xs => some xs
  | _ => none
theorem seq_ok {ρ : Nat → Option Addr} {H : Hp} {hm : Hm} {d : D} {xs : List D} {v : V} (r : RH G ρ H hm) (hv : RV G.K ρ H d v) (e : seqOf hm d = some xs) : ∃ p ys, v = .ref p ∧ (SqL G.K H p ys ∨ SqT G.K H p ys) ∧ RVs G.K ρ H xs ys := by
  unfold seqOf at e
  split at e
  · cases e
    unfold RV at hv
    obtain ⟨a, ys, rfl, h1, h2⟩ := hv
    exact ⟨a, ys, rfl, .inr h1.sq, h2⟩
  · unfold RV at hv
    obtain ⟨a, ha, rfl⟩ := hv
    obtain ⟨a', ys, ha', h1, h2⟩ := r.items e
    rw [ha] at ha'; cases ha'
    exact ⟨a, ys, rfl, .inl h1, h2⟩
  · cases e
    unfold RV at hv
    obtain ⟨a, ys, rfl, h1, h2⟩ := hv
    exact ⟨a, ys, rfl, .inl h1.sq, h2⟩
  · cases e
/-- the items of a list -/
def lstOf (hm : Hm) (d : D) : Option (List D) := match d with
  | .ref n => itemsAt hm n
  | _ => none
theorem lst_ok {ρ : Nat → Option Addr} {H : Hp} {hm : Hm} {d : D} {xs : List D} {v : V} (r : RH G ρ H hm) (hv : RV G.K ρ H d v) (e : lstOf hm d = some xs) : ∃ p ys, v = .ref p ∧ SqL G.K H p ys ∧ RVs G.K ρ H xs ys := by
  unfold lstOf at e
  split at e
  · unfold RV at hv
    obtain ⟨a, ha, rfl⟩ := hv
    obtain ⟨a', ys, ha', h1, h2⟩ := r.items e
    rw [ha] at ha'; cases ha'
    exact ⟨a, ys, rfl, h1, h2⟩
  · cases e

/-! ### len -/
def rLen (K : PySem.W.Frag) : RC := fun xs H Q => ∃ p ys, xs = [V.ref p] ∧ (SqL K H p ys ∨ SqT K H p ys) ∧ Q (V.int ys.length) H
def rLenK : RC := fun xs H Q => ∃ a kvs, xs = [V.ref a] ∧ H a = some (HO.dK kvs) ∧ Q (V.int kvs.length) H
def gLenQ (ds : List D) : M D := fun hm => match ds with
  | [d] => match seqOf hm d with
    | some xs => some (.int xs.length, hm)
    | none => none
  | _ => none
theorem s_lenQ : CallS G (rLen G.K) gLenQ := by
  intro ρ hm H xs vs d hm' Q r hvs e q
  unfold gLenQ at e
  split at e
  · split at e
    · rename_i x xs hs
      cases e
      obtain ⟨v, rfl, hv⟩ := hvs.one
      obtain ⟨p, ys, rfl, h1, h2⟩ := seq_ok r hv hs
      refine ⟨p, ys, rfl, h1, q ρ _ H Le.refl r ?_⟩
      rw [h2.length]; unfold RV; rfl
    · cases e
  · cases e
def gLenD (ds : List D) : M D := fun hm => match ds with
  | [.ref n] => match hm.get n with
    | some (.dk kvs) => some (.int kvs.length, hm)
    | _ => none
  | _ => none
theorem s_lenD : CallS G rLenK gLenD := by
  intro ρ hm H xs vs d hm' Q r hvs e q
  unfold gLenD at e
  split at e
  · split at e
    · rename_i n kvs hx
      cases e
      obtain ⟨v, rfl, hv⟩ := hvs.one
      unfold RV at hv
      obtain ⟨a, ha, rfl⟩ := hv
      obtain ⟨a', ha', ks, h1, h2⟩ := r.obj _ _ hx
      rw [ha] at ha'; cases ha'
      refine ⟨a, ks, rfl, h1, q ρ _ H Le.refl r ?_⟩
      rw [h2.length]; unfold RV; rfl
    · cases e
  · cases e
def gLenT (ds : List D) : M D := fun hm => match ds with
  | [.ref n] => match hm.get n with
    | some (.dt kvs) => some (.int kvs.length, hm)
    | _ => none
  | _ => none
theorem s_lenT : CallS G rLenT gLenT := by
  intro ρ hm H xs vs d hm' Q r hvs e q
  unfold gLenT at e
  split at e
  · split at e
    · rename_i n kvs hx
      cases e
      obtain ⟨v, rfl, hv⟩ := hvs.one
      unfold RV at hv
      obtain ⟨a, ha, rfl⟩ := hv
      obtain ⟨a', ha', ks, h1, h2⟩ := r.obj _ _ hx
      rw [ha] at ha'; cases ha'
      refine ⟨a, ks, rfl, h1, q ρ _ H Le.refl r ?_⟩
      rw [h2.length]; unfold RV; rfl
    · cases e
  · cases e
def gLen : List D → M D := orC gLenQ (orC gLenD gLenT)

/-! ### int, abs, max of two -/
def gInt (ds : List D) : M D := fun hm => match ds with
  | [.int i] => some (.int i, hm)
  | [.bl k] => some (.int (if k = true then 1 else 0), hm)
  | _ => none
theorem s_int : CallS G (fun xs H Q => (∃ i, xs = [.int i] ∧ Q (.int i) H) ∨ ∃ k, xs = [.bl k] ∧ Q (.int (if k = true then 1 else 0)) H) gInt := by
  intro ρ hm H xs vs d hm' Q r hvs e q
  unfold gInt at e
  split at e
  · cases e
    obtain ⟨v, rfl, hv⟩ := hvs.one
    unfold RV at hv
    subst hv
    exact .inl ⟨_, rfl, q ρ _ H Le.refl r (by unfold RV; rfl)⟩
  · cases e
    obtain ⟨v, rfl, hv⟩ := hvs.one
    unfold RV at hv
    subst hv
    exact .inr ⟨_, rfl, q ρ _ H Le.refl r (by unfold RV; rfl)⟩
  · cases e
def gAbs (ds : List D) : M D := fun hm => match ds with
  | [.int i] => some (.int (if i < 0 then -i else i), hm)
  | _ => none
theorem s_abs : CallS G (fun xs H Q => ∃ i, xs = [.int i] ∧ Q (.int (if i < 0 then -i else i)) H) gAbs := by
  intro ρ hm H xs vs d hm' Q r hvs e q
  unfold gAbs at e
  split at e
  · cases e
    obtain ⟨v, rfl, hv⟩ := hvs.one
    unfold RV at hv
    subst hv
    exact ⟨_, rfl, q ρ _ H Le.refl r (by unfold RV; rfl)⟩
  · cases e
def gMax2 (ds : List D) : M D := fun hm => match ds with
  | [.int i, .int j] => some (.int (if j > i then j else i), hm)
  | _ => none
theorem s_max2 : CallS G (fun xs H Q => ∃ i j, xs = [.int i, .int j] ∧ Q (.int (if j > i then j else i)) H) gMax2 := by
  intro ρ hm H xs vs d hm' Q r hvs e q
  unfold gMax2 at e
  split at e
  · cases e
    obtain ⟨v, u, rfl, hv, hu⟩ := hvs.two
    unfold RV at hv hu
    subst hv hu
    exact ⟨_, _, rfl, q ρ _ H Le.refl r (by unfold RV; rfl)⟩
  · cases e

/-! ### list, tuple -/
def gListQ (ds : List D) : M D := fun hm => match ds with
  | [d] => match seqOf hm d with
    | some xs => some (.ref hm.nx, hm.new (.lst xs))
    | none => none
  | _ => none
theorem s_listQ : CallS G (fun xs H Q => ∃ p ys, xs = [.ref p] ∧ (SqL G.K H p ys ∨ SqT G.K H p ys) ∧ ∀ l, H l = none → Q (.ref l) (upd H l (.lst ys))) gListQ := by
  intro ρ hm H xs vs d hm' Q r hvs e q
  unfold gListQ at e
  split at e
  · split at e
    · rename_i x xs hs
      cases e
      obtain ⟨v, rfl, hv⟩ := hvs.one
      obtain ⟨p, ys, rfl, h1, h2⟩ := seq_ok r hv hs
      exact ⟨p, ys, rfl, h1, rh_lst1 r h2 rfl rfl q⟩
    · cases e
  · cases e
def gListK (ds : List D) : M D := fun hm => match ds with
  | [.ref n] => match hm.get n with
    | some (.dk kvs) => some (.ref hm.nx, hm.new (.lst (kvs.map fun p => keyD p.1)))
    | _ => none
  | _ => none
theorem keys_rvs {K : PySem.W.Frag} {ρ : Nat → Option Addr} {H : Hp} : ∀ ks : List Key, RVs K ρ H (ks.map keyD) (ks.map kV)
  | [] => .nil
  | .inl i :: r => .cons (by unfold keyD RV; rfl) (keys_rvs r)
  | .inr x :: r => .cons (by unfold keyD RV; rfl) (keys_rvs r)
theorem RK.keys {κ : Type} {ρ : Nat → Option Addr} {H : Hp} : ∀ {x : List (κ × D)} {y : List (κ × V)}, RK G ρ H x y → x.map (·.1) = y.map (·.1)
  | _, _, .nil => rfl
  | p :: r, q :: t, .cons z w => by rw [List.map_cons, List.map_cons, RK.keys w, z.1]
theorem s_listK : CallS G rListD gListK := by
  intro ρ hm H xs vs d hm' Q r hvs e q
  unfold gListK at e
  split at e
  · split at e
    · rename_i n kvs hx
      cases e
      obtain ⟨v, rfl, hv⟩ := hvs.one
      unfold RV at hv
      obtain ⟨a, ha, rfl⟩ := hv
      obtain ⟨a', ha', ks, h1, h2⟩ := r.obj _ _ hx
      rw [ha] at ha'; cases ha'
      refine ⟨a, ks, rfl, h1, rh_lst1 (d := kvs.map fun p => keyD p.1) r ?_ rfl rfl q⟩
      have e1 : (kvs.map fun p => keyD p.1) = (kvs.map (·.1)).map keyD := by rw [List.map_map]; rfl
      have e2 : (ks.map fun kv => kV kv.1) = (ks.map (·.1)).map kV := by rw [List.map_map]; rfl
      rw [e1, e2, h2.keys]
      exact keys_rvs _
    · cases e
  · cases e
def keyT (ks : List Key) : D := .tup (ks.map keyD)
def gListT (ds : List D) : M D := fun hm => match ds with
  | [.ref n] => match hm.get n with
    | some (.dt kvs) => some (.ref hm.nx, hm.new (.lst (kvs.map fun p => keyT p.1)))
    | _ => none
  | _ => none
theorem isKeys_rvs {ρ : Nat → Option Addr} {H : Hp} : ∀ {kvs : List (List Key × D)} {ks : List (List Key × V)} {bs : List Addr}, RK G ρ H kvs ks → IsKeys H ks bs → RVs G.K ρ H (kvs.map fun p => keyT p.1) (bs.map V.ref)
  | _, _, _, .nil, h => by cases h; exact .nil
  | p :: r, _, _, .cons z w, h => by
    cases h with
    | cons h1 h2 =>
      refine .cons ?_ (isKeys_rvs w h2)
      unfold keyT RV
      refine ⟨_, _, rfl, h1, ?_⟩
      rw [z.1]
      exact keys_rvs _
theorem s_listT : CallS G (fun xs H Q => ∃ d kvs, xs = [V.ref d] ∧ Rd H d (.dT kvs) ∧ ∀ p bs, H p = none → IsKeys H kvs bs → Q (.ref p) (upd H p (.lst (bs.map V.ref)))) gListT := by
  intro ρ hm H xs vs d hm' Q r hvs e q
  unfold gListT at e
  split at e
  · split at e
    · rename_i n kvs hx
      cases e
      obtain ⟨v, rfl, hv⟩ := hvs.one
      unfold RV at hv
      obtain ⟨a, ha, rfl⟩ := hv
      obtain ⟨a', ha', ks, h1, h2⟩ := r.obj _ _ hx
      rw [ha] at ha'; cases ha'
      exact ⟨a, ks, rfl, .inl h1, fun p bs hp hb => rh_lst1 r (isKeys_rvs h2 hb) rfl rfl q p hp⟩
    · cases e
  · cases e
def gList : List D → M D := orC gListQ (orC gListK gListT)
def gTupL (ds : List D) : M D := fun hm => match ds with
  | [d] => match seqOf hm d with
    | some xs => some (.tup xs, hm)
    | none => none
  | _ => none
theorem s_tupL : CallS G (fun xs H Q => ∃ p ys, xs = [.ref p] ∧ ((SqL G.K H p ys ∧ ∀ l, H l = none → Q (.ref l) (upd H l (.tup ys))) ∨ (SqT G.K H p ys ∧ Q (.ref p) H))) gTupL := by
  intro ρ hm H xs vs d hm' Q r hvs e q
  unfold gTupL at e
  split at e
  · rename_i x
    split at e
    · rename_i xs hs
      cases e
      obtain ⟨v, rfl, hv⟩ := hvs.one
      unfold seqOf at hs
      split at hs
      · cases hs
        have hv0 := hv
        unfold RV at hv
        obtain ⟨a, ys, rfl, h1, h2⟩ := hv
        exact ⟨a, ys, rfl, .inr ⟨h1.sq, q ρ _ H Le.refl r hv0⟩⟩
      · unfold RV at hv
        obtain ⟨a, ha, rfl⟩ := hv
        obtain ⟨a', ys, ha', h1, h2⟩ := r.items hs
        rw [ha] at ha'; cases ha'
        exact ⟨a, ys, rfl, .inl ⟨h1, fun l hl => q ρ _ _ (Le.tup hl) (r.tup hl) (rv_tup hl h2)⟩⟩
      · cases hs
        unfold RV at hv
        obtain ⟨a, ys, rfl, h1, h2⟩ := hv
        exact ⟨a, ys, rfl, .inl ⟨h1.sq, fun l hl => q ρ _ _ (Le.tup hl) (r.tup hl) (rv_tup hl h2)⟩⟩
      · cases hs
    · cases e
  · cases e

/-! ### sum, all, min, max -/
def gSum (ds : List D) : M D := fun hm => match ds with
  | [d] => match lstOf hm d with
    | some xs => match D.ints xs with
      | some ns => some (.int ns.sum, hm)
      | none => none
    | none => none
  | _ => none
theorem s_sum : CallS G (rSum G.K) gSum := by
  intro ρ hm H xs vs d hm' Q r hvs e q
  unfold gSum at e
  split at e
  · split at e
    · rename_i xs hs
      split at e
      · rename_i ns hn
        cases e
        obtain ⟨v, rfl, hv⟩ := hvs.one
        obtain ⟨p, ys, rfl, h1, h2⟩ := lst_ok r hv hs
        rw [ints_some hn] at h2
        rw [h2.ints] at h1
        exact ⟨p, ns, rfl, h1, q ρ _ H Le.refl r (by unfold RV; rfl)⟩
      · cases e
    · cases e
  · cases e
def D.bls : List D → Option (List Bool)
  | [] => some []
  | .bl i :: xs => (D.bls xs).map (i :: ·)
  | _ => none
theorem bls_some : ∀ {xs : List D} {ns : List Bool}, D.bls xs = some ns → xs = ns.map D.bl
  | [], ns, e => by cases e; rfl
  | x :: xs, ns, e => by
    cases x <;> first | (cases e; done) | skip
    rename_i i
    unfold D.bls at e
    cases c : D.bls xs with
    | none => rw [c] at e; cases e
    | some ms => rw [c] at e; cases e; rw [bls_some c]; rfl
def gAll (ds : List D) : M D := fun hm => match ds with
  | [d] => match lstOf hm d with
    | some xs => match D.bls xs with
      | some ns => some (.bl (ns.all id), hm)
      | none => none
    | none => none
  | _ => none
theorem s_all : CallS G (rAll G.K) gAll := by
  intro ρ hm H xs vs d hm' Q r hvs e q
  unfold gAll at e
  split at e
  · split at e
    · rename_i xs hs
      split at e
      · rename_i ns hn
        cases e
        obtain ⟨v, rfl, hv⟩ := hvs.one
        obtain ⟨p, ys, rfl, h1, h2⟩ := lst_ok r hv hs
        rw [bls_some hn] at h2
        rw [h2.bls] at h1
        exact ⟨p, ns, rfl, h1, q ρ _ H Le.refl r (by unfold RV; rfl)⟩
      · cases e
    · cases e
  · cases e
def minL : Int → List Int → Int
  | m, [] => m
  | m, x :: xs => minL (if x < m then x else m) xs
def maxL : Int → List Int → Int
  | m, [] => m
  | m, x :: xs => maxL (if m < x then x else m) xs
theorem minL_spec : ∀ (xs : List Int) (m : Int), (minL m xs = m ∨ minL m xs ∈ xs) ∧ minL m xs ≤ m ∧ ∀ y ∈ xs, minL m xs ≤ y
  | [], m => ⟨.inl rfl, Int.le_refl _, fun _ h => nomatch h⟩
  | x :: xs, m => by
    have h := minL_spec xs (if x < m then x else m)
    unfold minL
    by_cases c : x < m
    · rw [if_pos c] at h ⊢
      refine ⟨.inr ?_, by omega, fun y hy => ?_⟩
      · rcases h.1 with e | e
        · rw [e]; exact List.mem_cons_self
        · exact List.mem_cons_of_mem _ e
      · rcases List.mem_cons.mp hy with rfl | hy
        · exact h.2.1
        · exact h.2.2 y hy
    · rw [if_neg c] at h ⊢
      refine ⟨?_, h.2.1, fun y hy => ?_⟩
      · rcases h.1 with e | e
        · exact .inl e
        · exact .inr (List.mem_cons_of_mem _ e)
      · rcases List.mem_cons.mp hy with rfl | hy
        · omega
        · exact h.2.2 y hy
theorem maxL_spec : ∀ (xs : List Int) (m : Int), (maxL m xs = m ∨ maxL m xs ∈ xs) ∧ m ≤ maxL m xs ∧ ∀ y ∈ xs, y ≤ maxL m xs
  | [], m => ⟨.inl rfl, Int.le_refl _, fun _ h => nomatch h⟩
  | x :: xs, m => by
    have h := maxL_spec xs (if m < x then x else m)
    unfold maxL
    by_cases c : m < x
    · rw [if_pos c] at h ⊢
      refine ⟨.inr ?_, by omega, fun y hy => ?_⟩
      · rcases h.1 with e | e
        · rw [e]; exact List.mem_cons_self
        · exact List.mem_cons_of_mem _ e
      · rcases List.mem_cons.mp hy with rfl | hy
        · exact h.2.1
        · exact h.2.2 y hy
    · rw [if_neg c] at h ⊢
      refine ⟨?_, h.2.1, fun y hy => ?_⟩
      · rcases h.1 with e | e
        · exact .inl e
        · exact .inr (List.mem_cons_of_mem _ e)
      · rcases List.mem_cons.mp hy with rfl | hy
        · omega
        · exact h.2.2 y hy
/-- the ints of a list, of a dict's keys -/
def gMinL (ds : List D) : M D := fun hm => match ds with
  | [d] => match lstOf hm d with
    | some xs => match D.ints xs with
      | some (n :: ns) => some (.int (minL n ns), hm)
      | _ => none
    | none => none
  | _ => none
def gMaxL (ds : List D) : M D := fun hm => match ds with
  | [d] => match lstOf hm d with
    | some xs => match D.ints xs with
      | some (n :: ns) => some (.int (maxL n ns), hm)
      | _ => none
    | none => none
  | _ => none
theorem min_is {n m : Int} {ns : List Int} (h1 : m ∈ n :: ns) (h2 : ∀ y, y ∈ n :: ns → m ≤ y) : m = minL n ns := by
  have h := minL_spec ns n
  have a : minL n ns ∈ n :: ns := by
    rcases h.1 with e | e
    · rw [e]; exact List.mem_cons_self
    · exact List.mem_cons_of_mem _ e
  have b := h2 _ a
  have c : minL n ns ≤ m := by
    rcases List.mem_cons.mp h1 with e | e
    · rw [e]; exact h.2.1
    · exact h.2.2 _ e
  omega
theorem max_is {n m : Int} {ns : List Int} (h1 : m ∈ n :: ns) (h2 : ∀ y, y ∈ n :: ns → y ≤ m) : m = maxL n ns := by
  have h := maxL_spec ns n
  have a : maxL n ns ∈ n :: ns := by
    rcases h.1 with e | e
    · rw [e]; exact List.mem_cons_self
    · exact List.mem_cons_of_mem _ e
  have b := h2 _ a
  have c : m ≤ maxL n ns := by
    rcases List.mem_cons.mp h1 with e | e
    · rw [e]; exact h.2.1
    · exact h.2.2 _ e
  omega
theorem s_minL : CallS G (rMin G.K) gMinL := by
  intro ρ hm H xs vs d hm' Q r hvs e q
  unfold gMinL at e
  split at e
  · split at e
    · rename_i xs hs
      split at e
      · rename_i n ns hn
        cases e
        obtain ⟨v, rfl, hv⟩ := hvs.one
        obtain ⟨p, ys, rfl, h1, h2⟩ := lst_ok r hv hs
        rw [ints_some hn] at h2
        rw [h2.ints] at h1
        exact ⟨p, n :: ns, rfl, h1, Nat.succ_pos _, fun m a b => by rw [min_is a b]; exact q ρ _ H Le.refl r (by unfold RV; rfl)⟩
      · cases e
    · cases e
  · cases e
theorem s_maxL : CallS G (rMax G.K) gMaxL := by
  intro ρ hm H xs vs d hm' Q r hvs e q
  unfold gMaxL at e
  split at e
  · split at e
    · rename_i xs hs
      split at e
      · rename_i n ns hn
        cases e
        obtain ⟨v, rfl, hv⟩ := hvs.one
        obtain ⟨p, ys, rfl, h1, h2⟩ := lst_ok r hv hs
        rw [ints_some hn] at h2
        rw [h2.ints] at h1
        exact ⟨p, n :: ns, rfl, h1, Nat.succ_pos _, fun m a b => by rw [max_is a b]; exact q ρ _ H Le.refl r (by unfold RV; rfl)⟩
      · cases e
    · cases e
  · cases e
end
end Eng
set_option maxRecDepth 100000
set_option maxHeartbeats 4000000
/-! max, min of a dict's keys; types; truth; two and three names at once; slices turned about. -/
namespace Eng
open PySem PySem.Spec PyProof.Rows L2
section
variable {X : Cx} {G : Gd}

/-! ### the greatest key -/
def rMaxK : List V → Hp → VK → Prop := fun vs H Q => ∃ (a : Addr) (kvs : List (Key × V)) (is : List Int), vs = [V.ref a] ∧ H a = some (.dK kvs) ∧ kvs.map (·.1) = is.map Sum.inl ∧ is ≠ [] ∧ ∀ m, m ∈ is → (∀ j ∈ is, j ≤ m) → Q (.int m) H
/-- a dict whose keys are these ints, as its own walk meets them -/
theorem keys_met {P : Program} {w : World} {kvs : List (Key × V)} {vs : List (Key × Value)} {ns : List Int} (rel : KV kvs vs) (hk : kvs.map (·.1) = ns.map Sum.inl) :
    vs.length = ns.length ∧ ∀ (i : Nat) (v : Value), (∃ k x, vs[i]? = some (k, x) ∧ (mixKind P w).is k v = true) → ∃ t, v = Value.int (ns.getD i 0) t := by
  have e : vs.map (·.1) = ns.map Sum.inl := by rw [← KV.keys rel, hk]
  refine ⟨?_, fun i v ⟨k, x, at_, isk⟩ => ?_⟩
  · have := congrArg List.length e
    simpa using this
  · have at2 : (ns.map (Sum.inl : Int → Key))[i]? = some k := by
      rw [← e, List.getElem?_map, at_]; rfl
    cases hn : ns[i]? with
    | none => rw [List.getElem?_map, hn] at at2; cases at2
    | some n =>
      rw [List.getElem?_map, hn] at at2
      cases at2
      obtain ⟨t, ev⟩ := Value.isInt_shape (k := n) (v := v) isk
      exact ⟨t, by rw [ev, List.getD_eq_getElem?_getD, hn]; rfl⟩
theorem getD_mem {ns : List Int} {i : Nat} (h : i < ns.length) : ns.getD i 0 ∈ ns := by
  rw [List.getD_eq_getElem?_getD, List.getElem?_eq_getElem h]
  exact List.getElem_mem h
theorem mem_getD {ns : List Int} {n : Int} (h : n ∈ ns) : ∃ i, i < ns.length ∧ ns.getD i 0 = n := by
  obtain ⟨i, lt, ei⟩ := List.mem_iff_getElem.mp h
  exact ⟨i, lt, by rw [List.getD_eq_getElem?_getD, List.getElem?_eq_getElem lt, ← ei]; rfl⟩
theorem cr_maxK (hc : X.calm = true) : CallR X (.builtin "max") rMaxK := by
  intro pins s σ H vs us Q I r ⟨a, kvs, ns, ev, ha, hk, ne, q⟩
  subst ev
  rw [Vals.ref1 r]
  obtain ⟨_, notSys, es, rel, dof⟩ := dk_of I.hok ha
  obtain ⟨ep, dat⟩ := dof.dictAt
  obtain ⟨len, met⟩ := keys_met (P := X.prog) (w := X.w) rel hk
  have pos : 0 < es.length := len ▸ List.length_pos_iff.mpr ne
  have below : a < s.heap.objs.size := let ⟨_, _, o, _⟩ := dat; Heap.lt_size o
  have W := Walks.dictKeys (knd := mixKind X.prog X.w) (A := X.A.in1) (I.ok.hd hc) s.heap.objs.size a (Nat.ne_of_lt below) es ep
  refine call_max_walk (wpAny_pyIter_dict (knd := mixKind X.prog X.w) notSys dat ⟨_, _, _, _, _, _, _, rfl, W, ⟨⟨_, Heap.get?_push_size _ rfl, rfl, rfl⟩, dat.keep fun b u e => Heap.get?_push_of_some _ e⟩, fun b hb => ?_, pos, CmpOf.ints_gt (fun i => ns.getD i 0) met, fun v h' tk hP kept => ?_⟩)
  · have e : b = s.heap.objs.size ∨ b = a := by simpa using hb
    show b < (s.heap.push _).objs.size
    rw [Heap.size_push]
    rcases e with e | e <;> subst e
    · exact Nat.lt_succ_self _
    · exact Nat.lt_succ_of_lt below
  · obtain ⟨t, hv⟩ := met _ v hP
    subst hv
    obtain ⟨b1, b2⟩ := argBest_gt (fun i => ns.getD i 0) (es.length - 1)
    refine ⟨.int _, H, I.kept (t' := tk) fun b u e => kept b u (fun m => absurd (Heap.lt_size e) ?_) (Heap.get?_push_of_some _ e), ⟨t, rfl⟩, q _ (getD_mem (by omega)) fun n hn => ?_⟩
    · rw [List.mem_singleton.mp m]
      exact Nat.lt_irrefl _
    · obtain ⟨i, lt, ei⟩ := mem_getD hn
      rw [← ei]
      exact b2 i (by omega)
def intKeys : List (Key × D) → Option (List Int)
  | [] => some []
  | (.inl i, _) :: r => (intKeys r).map (i :: ·)
  | _ => none
theorem intKeys_some : ∀ {kvs : List (Key × D)} {ns : List Int}, intKeys kvs = some ns → kvs.map (·.1) = ns.map Sum.inl
  | [], ns, e => by cases e; rfl
  | (.inl i, d) :: r, ns, e => by
    unfold intKeys at e
    cases c : intKeys r with
    | none => rw [c] at e; cases e
    | some ms => rw [c] at e; cases e; rw [List.map_cons, intKeys_some c]; rfl
  | (.inr x, d) :: r, ns, e => by cases e
def gMinK (ds : List D) : M D := fun hm => match ds with
  | [.ref n] => match hm.get n with
    | some (.dk kvs) => match intKeys kvs with
      | some (n :: ns) => some (.int (minL n ns), hm)
      | _ => none
    | _ => none
  | _ => none
def gMaxK (ds : List D) : M D := fun hm => match ds with
  | [.ref n] => match hm.get n with
    | some (.dk kvs) => match intKeys kvs with
      | some (n :: ns) => some (.int (maxL n ns), hm)
      | _ => none
    | _ => none
  | _ => none
theorem s_minK : CallS G rMinK gMinK := by
  intro ρ hm H xs vs d hm' Q r hvs e q
  unfold gMinK at e
  split at e
  · split at e
    · rename_i n kvs hx
      split at e
      · rename_i m ns hn
        cases e
        obtain ⟨v, rfl, hv⟩ := hvs.one
        unfold RV at hv
        obtain ⟨a, ha, rfl⟩ := hv
        obtain ⟨a', ha', ks, h1, h2⟩ := r.obj _ _ hx
        rw [ha] at ha'; cases ha'
        exact ⟨a, ks, m :: ns, rfl, h1, by rw [← h2.keys]; exact intKeys_some hn, (fun z => nomatch z), fun j a b => by rw [min_is a b]; exact q ρ _ H Le.refl r (by unfold RV; rfl)⟩
      · cases e
    · cases e
  · cases e
theorem s_maxK : CallS G rMaxK gMaxK := by
  intro ρ hm H xs vs d hm' Q r hvs e q
  unfold gMaxK at e
  split at e
  · split at e
    · rename_i n kvs hx
      split at e
      · rename_i m ns hn
        cases e
        obtain ⟨v, rfl, hv⟩ := hvs.one
        unfold RV at hv
        obtain ⟨a, ha, rfl⟩ := hv
        obtain ⟨a', ha', ks, h1, h2⟩ := r.obj _ _ hx
        rw [ha] at ha'; cases ha'
        exact ⟨a, ks, m :: ns, rfl, h1, by rw [← h2.keys]; exact intKeys_some hn, (fun z => nomatch z), fun j a b => by rw [max_is a b]; exact q ρ _ H Le.refl r (by unfold RV; rfl)⟩
      · cases e
    · cases e
  · cases e
def gMin : List D → M D := orC gMinL gMinK
def gMax : List D → M D := orC gMax2 (orC gMaxL gMaxK)

/-! ### types -/
def tyOf (hm : Hm) (d : D) : Option String := match d with
  | .non => some "NoneType"
  | .bl _ => some "bool"
  | .int _ => some "int"
  | .str _ => some "str"
  | .tup _ => some "tuple"
  | .ref n => match hm.get n with
    | some (.lst _) => some "list"
    | some (.dk _) => some "dict"
    | some (.ftp _) => some "tuple"
    | _ => none
  | .ty _ => none
  | .kl _ => none
theorem tyOf_b {ρ : Nat → Option Addr} {H : Hp} {hm : Hm} {d : D} {T : String} {v : V} (r : RH G ρ H hm) (hv : RV G.K ρ H d v) (e : tyOf hm d = some T) : TyB G.K H v T ∧ TyX G.K H v (.type T) := by
  cases d with
  | non => unfold RV at hv; subst hv; cases e; exact ⟨.non, .base .non⟩
  | bl b => unfold RV at hv; subst hv; cases e; exact ⟨.bl _, .base (.bl _)⟩
  | int b => unfold RV at hv; subst hv; cases e; exact ⟨.int _, .base (.int _)⟩
  | str b => unfold RV at hv; subst hv; cases e; exact ⟨.str _, .base (.str _)⟩
  | ty b => cases e
  | kl b => cases e
  | tup xs =>
    unfold RV at hv
    obtain ⟨a, ys, rfl, h1, h2⟩ := hv
    cases e
    exact ⟨.tup h1.sq, .base (.tup h1)⟩
  | ref n =>
    unfold RV at hv
    obtain ⟨a, ha, rfl⟩ := hv
    unfold tyOf at e
    split at e <;> rename_i q <;> first | (cases q; done) | skip
    injection q with q
    subst q
    split at e
    · rename_i xs hx
      cases e
      obtain ⟨a', ha', ks, h1, h2⟩ := r.obj _ _ hx
      rw [ha] at ha'; cases ha'
      exact ⟨.lst (SqL.of h1), .base (.lst h1)⟩
    · rename_i xs hx
      cases e
      obtain ⟨a', ha', ks, h1, h2⟩ := r.obj _ _ hx
      rw [ha] at ha'; cases ha'
      exact ⟨.dK h1, .base (.dK h1)⟩
    · rename_i xs hx
      cases e
      obtain ⟨a', ha', ob, ks, ⟨h1, h0⟩, h2⟩ := r.obj _ _ hx
      rw [ha] at ha'; cases ha'
      exact ⟨.tup (.inl (.inr ⟨ob, h1⟩)), .fTuple h1⟩
    · cases e
def gType (ds : List D) : M D := fun hm => match ds with
  | [d] => match tyOf hm d with
    | some T => some (.ty T, hm)
    | none => none
  | _ => none
theorem s_type : CallS G (rTyp G.K) gType := by
  intro ρ hm H xs vs d hm' Q r hvs e q
  unfold gType at e
  split at e
  · split at e
    · rename_i T hT
      cases e
      obtain ⟨v, rfl, hv⟩ := hvs.one
      exact ⟨v, T, rfl, (tyOf_b r hv hT).1, q ρ _ H Le.refl r (by unfold RV; rfl)⟩
    · cases e
  · cases e
/-- one of these is a kind of that one -/
def kinds : List String := ["NoneType", "bool", "int", "str", "tuple", "list", "dict"]
def kindOf (a b : String) : Bool := decide (a = b) || (decide (a = "bool") && decide (b = "int"))
theorem kind_ok : ∀ a ∈ kinds, ∀ b ∈ kinds, kitB a b = some (kindOf a b) := by decide +kernel
theorem tyOf_kind {hm : Hm} {d : D} {T : String} (e : tyOf hm d = some T) : T ∈ kinds := by
  unfold tyOf at e
  split at e <;> first | (cases e; decide) | (cases e; done) | (split at e <;> first | (cases e; decide) | cases e)
def gIsi1 (ds : List D) : M D := fun hm => match ds with
  | [d, .ty c] => match tyOf hm d with
    | some T => if kinds.contains c = true then some (.bl (kindOf T c), hm) else none
    | none => none
  | _ => none
theorem s_isi1 : CallS G (rIsi G.K) gIsi1 := by
  intro ρ hm H xs vs d hm' Q r hvs e q
  unfold gIsi1 at e
  split at e
  · rename_i x c
    split at e
    · rename_i T hT
      split at e
      · rename_i hc
        cases e
        obtain ⟨v, u, rfl, hv, hu⟩ := hvs.two
        unfold RV at hu
        subst hu
        exact ⟨v, _, .type T, .type c, _, rfl, .ty c, (tyOf_b r hv hT).2, kit_ty (kind_ok T (tyOf_kind hT) c (by simpa using hc)), q ρ _ H Le.refl r (by unfold RV; rfl)⟩
      · cases e
    · cases e
  · cases e
def D.tys : List D → Option (List String)
  | [] => some []
  | .ty i :: xs => (D.tys xs).map (i :: ·)
  | _ => none
theorem tys_some {K : PySem.W.Frag} {ρ : Nat → Option Addr} {H : Hp} : ∀ {xs : List D} {ns : List String} {vs : List V}, D.tys xs = some ns → RVs K ρ H xs vs → Paired ClsV vs (ns.map Value.type)
  | [], ns, vs, e, h => by cases e; unfold RVs at h; subst h; exact .nil
  | x :: xs, ns, vs, e, h => by
    unfold RVs at h
    obtain ⟨y, r, rfl, h1, h2⟩ := h
    cases x <;> first | (cases e; done) | skip
    rename_i i
    unfold D.tys at e
    cases c : D.tys xs with
    | none => rw [c] at e; cases e
    | some ms =>
      rw [c] at e; cases e
      unfold RV at h1
      subst h1
      exact .cons (.ty i) (tys_some c h2)
theorem kitAny_ok {K : PySem.W.Frag} {T : String} (hT : T ∈ kinds) : ∀ (cs : List String), (cs.all fun c => kinds.contains c) = true → PySem.W.kitAny K (.type T) (cs.map Value.type) = some (cs.any fun c => kindOf T c)
  | [], _ => rfl
  | c :: cs, h => by
    rw [List.all_cons, Bool.and_eq_true] at h
    rw [List.map_cons, List.any_cons]
    refine kitAny_cons (kit_ty (kind_ok T hT c (by simpa using h.1))) (fun e => ?_) (fun e => ?_)
    · rw [e, kitAny_ok hT cs h.2]; rfl
    · rw [e]; rfl
def gIsiT (ds : List D) : M D := fun hm => match ds with
  | [d, .tup xs] => match tyOf hm d, D.tys xs with
    | some T, some cs => if (cs.all fun c => kinds.contains c) = true then some (.bl (cs.any fun c => kindOf T c), hm) else none
    | _, _ => none
  | _ => none
theorem s_isiT : CallS G (rIsiT G.K) gIsiT := by
  intro ρ hm H xs vs d hm' Q r hvs e q
  unfold gIsiT at e
  split at e
  · rename_i x cs0
    split at e
    · rename_i T cs hT hc
      split at e
      · rename_i ha
        cases e
        obtain ⟨v, u, rfl, hv, hu⟩ := hvs.two
        unfold RV at hu
        obtain ⟨a, ys, rfl, h1, h2⟩ := hu
        exact ⟨v, a, ys, .type T, _, _, rfl, h1, tys_some hc h2, (tyOf_b r hv hT).2, kitAny_ok (tyOf_kind hT) cs ha, q ρ _ H Le.refl r (by unfold RV; rfl)⟩
      · cases e
    · cases e
  · cases e
def gIsi : List D → M D := orC gIsi1 gIsiT

/-! ### truth -/
def truOf (hm : Hm) (d : D) : Option Bool := match d with
  | .non => some false
  | .bl b => some b
  | .int i => some (i != 0)
  | .tup xs => some (!xs.isEmpty)
  | .ref n => match hm.get n with
    | some (.lst xs) => some (!xs.isEmpty)
    | some (.frz xs) => some (!xs.isEmpty)
    | some (.dk xs) => some (!xs.isEmpty)
    | _ => none
  | _ => none
theorem empty_len {α β : Type} {xs : List α} {ys : List β} (h : xs.length = ys.length) : (!xs.isEmpty) = (!ys.isEmpty) := by
  cases xs <;> cases ys <;> first | rfl | (simp at h)
theorem truOf_v {ρ : Nat → Option Addr} {H : Hp} {hm : Hm} {d : D} {b : Bool} {v : V} (r : RH G ρ H hm) (hv : RV G.K ρ H d v) (e : truOf hm d = some b) : TruV G.K v H b := by
  cases d with
  | non => unfold RV at hv; subst hv; cases e; rfl
  | bl b => unfold RV at hv; subst hv; cases e; rfl
  | int b => unfold RV at hv; subst hv; cases e; rfl
  | str b => cases e
  | ty b => cases e
  | kl b => cases e
  | tup xs =>
    unfold RV at hv
    obtain ⟨a, ys, rfl, h1, h2⟩ := hv
    cases e
    exact .inr (.inl ⟨ys, h1.sq, empty_len h2.length⟩)
  | ref n =>
    unfold RV at hv
    obtain ⟨a, ha, rfl⟩ := hv
    have e : (match hm.get n with
      | some (.lst xs) => some (!xs.isEmpty)
      | some (.frz xs) => some (!xs.isEmpty)
      | some (.dk xs) => some (!xs.isEmpty)
      | _ => none) = some b := e
    split at e
    · rename_i xs hx
      cases e
      obtain ⟨a', ha', ks, h1, h2⟩ := r.obj _ _ hx
      rw [ha] at ha'; cases ha'
      exact .inl ⟨ks, SqL.of h1, empty_len h2.length⟩
    · rename_i xs hx
      cases e
      obtain ⟨a', ha', ob, ks, h1, h2⟩ := r.obj _ _ hx
      rw [ha] at ha'; cases ha'
      exact .inl ⟨ks, .inl (.inr ⟨ob, h1⟩), empty_len h2.length⟩
    · rename_i xs hx
      cases e
      obtain ⟨a', ha', ks, h1, h2⟩ := r.obj _ _ hx
      rw [ha] at ha'; cases ha'
      exact .inr (.inr ⟨ks, h1, empty_len h2.length⟩)
    · cases e
def mTru (d : D) : M Bool := fun hm => match truOf hm d with
  | some b => some (b, hm)
  | none => none
def fTru (f : Env → M D) : Env → M Bool := fun env => bnd (f env) mTru
theorem t_truth {a : Expr} {f : Env → M D} (hK : G.K = X.K) (ha : PE X a (tE G f)) (he : ∀ whole, isTrue a X.env whole = (do let v ← whole; standAt a.pos; holding [v] (truthy v)) := by intro _; rfl) : PT X a (tT G (fTru f)) :=
  PT.imp (pt_truth ha he) fun σ H Q ⟨ρ, env, hm, b, hm', rs, e, q⟩ => by
    obtain ⟨d, h1, e1, e⟩ := bnd_some e
    unfold mTru at e
    split at e
    · rename_i k hk
      cases e
      exact ⟨ρ, env, hm, d, _, rs, e1, fun ρ1 v1 H1 l1 r1 v => ⟨_, by rw [← hK]; exact truOf_v r1 v hk, q ρ1 H1 l1 r1⟩⟩
    · cases e
def fOrT (fa fb : Env → M D) : Env → M D := fun env => bnd (fa env) fun x => bnd (mTru x) fun k => if k = true then ret x else fb env
theorem e_orT {a b : Expr} {rest : List Expr} {fa fb : Env → M D} {pos : Pos} (hK : G.K = X.K) (ha : PE X a (tE G fa)) (hb : PE X (.BoolOp .Or (b :: rest) pos) (tE G fb)) : PE X (.BoolOp .Or (a :: b :: rest) pos) (tE G (fOrT fa fb)) :=
  PE.imp (pe_orT ha hb) fun σ H Q ⟨ρ, env, hm, d, hm', rs, e, q⟩ => by
    obtain ⟨x, h1, e1, e⟩ := bnd_some e
    obtain ⟨k, h2, e2, e⟩ := bnd_some e
    unfold mTru at e2
    split at e2
    · rename_i k' hk
      cases e2
      refine ⟨ρ, env, hm, x, h1, rs, e1, fun ρ1 v1 H1 l1 r1 v => ⟨k, by rw [← hK]; exact truOf_v r1 v hk, ?_⟩⟩
      cases k with
      | true =>
        rw [if_pos rfl] at e ⊢
        cases e
        exact q ρ1 v1 H1 l1 r1 v
      | false =>
        rw [if_neg (by decide)] at e ⊢
        exact ⟨ρ1, env, h1, d, hm', l1.rs rs r1, e, fun ρ2 v2 H2 l2 r2 u => q ρ2 v2 H2 (l1.trans l2) r2 u⟩
    · cases e2

/-! ### two, three names at once -/
def fPar2 (i j : Nat) (fa : Env → M (List D)) : Env → M Fl := fun env => bnd (fa env) fun ds => match ds with
  | [a, b] => ret (.nx ((env.set i (some a)).set j (some b)))
  | _ => fail
theorem s_par2 {i j : Nat} {x y : Str} {a b : Expr} {fa : Env → M (List D)} {px py pt pos : Pos} {kt k2 pt2} (hc : X.calm = true) (hN : X.N.Nodup) (hi : X.N[i]? = some x) (hj : X.N[j]? = some y) (hij : i ≠ j)
    (hx : X.env.scope.names.lookup x = some .local) (hy : X.env.scope.names.lookup y = some .local) (ha : PA X [a, b] (tA G fa))
    (hw : swappedStores [.Tuple [.Name x px, .Name y py] kt pt] (.Tuple [a, b] k2 pt2) X.env = pure (some [x, y]))
    (hs : swapsWithSole [.Tuple [.Name x px, .Name y py] kt pt] (.Tuple [a, b] k2 pt2) pos.line X.env = pure false := by rfl) :
    PS X (.Assign [.Tuple [.Name x px, .Name y py] kt pt] (.Tuple [a, b] k2 pt2) pos) (tS G (fPar2 i j fa)) := PS.imp (ps_par hc hN hi hj hij hx hy ha hw hs) fun E σ H ⟨ρ, env, hm, fl, hm', rs, e, q⟩ => by
  obtain ⟨ds, h1, e1, e⟩ := bnd_some e
  split at e
  · cases e
    refine ⟨ρ, env, hm, _, _, rs, e1, fun ρ1 vs H1 l1 r1 hv => ?_⟩
    obtain ⟨v, u, rfl, hv, hu⟩ := hv.two
    exact ⟨v, u, rfl, q ρ1 _ H1 l1 (((l1.rs rs r1).set hv i).set hu j)⟩
  · cases e
theorem RVs.three {K : PySem.W.Frag} {ρ : Nat → Option Addr} {H : Hp} {d e f : D} {vs : List V} (h : RVs K ρ H [d, e, f] vs) : ∃ v u w, vs = [v, u, w] ∧ RV K ρ H d v ∧ RV K ρ H e u ∧ RV K ρ H f w := by
  unfold RVs at h
  obtain ⟨y, r, rfl, h1, h2⟩ := h
  obtain ⟨u, w, rfl, h3, h4⟩ := h2.two
  exact ⟨y, u, w, rfl, h1, h3, h4⟩
def fPar3 (i j l : Nat) (fa : Env → M (List D)) : Env → M Fl := fun env => bnd (fa env) fun ds => match ds with
  | [a, b, c] => ret (.nx (((env.set i (some a)).set j (some b)).set l (some c)))
  | _ => fail
theorem s_par3 {i j l : Nat} {x y z : Str} {a b c : Expr} {fa : Env → M (List D)} {px py pz pt pos : Pos} {kt k2 pt2} (hc : X.calm = true) (hN : X.N.Nodup) (hi : X.N[i]? = some x) (hj : X.N[j]? = some y) (hl : X.N[l]? = some z) (hij : i ≠ j) (hil : i ≠ l) (hjl : j ≠ l)
    (hx : X.env.scope.names.lookup x = some .local) (hy : X.env.scope.names.lookup y = some .local) (hz : X.env.scope.names.lookup z = some .local) (ha : PA X [a, b, c] (tA G fa))
    (hw : swappedStores [.Tuple [.Name x px, .Name y py, .Name z pz] kt pt] (.Tuple [a, b, c] k2 pt2) X.env = pure (some [x, y, z]))
    (hs : swapsWithSole [.Tuple [.Name x px, .Name y py, .Name z pz] kt pt] (.Tuple [a, b, c] k2 pt2) pos.line X.env = pure false := by rfl) :
    PS X (.Assign [.Tuple [.Name x px, .Name y py, .Name z pz] kt pt] (.Tuple [a, b, c] k2 pt2) pos) (tS G (fPar3 i j l fa)) := PS.imp (ps_par3 hc hN hi hj hl hij hil hjl hx hy hz ha hw hs) fun E σ H ⟨ρ, env, hm, fl, hm', rs, e, q⟩ => by
  obtain ⟨ds, h1, e1, e⟩ := bnd_some e
  split at e
  · cases e
    refine ⟨ρ, env, hm, _, _, rs, e1, fun ρ1 vs H1 l1 r1 hv => ?_⟩
    obtain ⟨v, u, w, rfl, hv, hu, hw⟩ := hv.three
    exact ⟨v, u, w, rfl, q ρ1 _ H1 l1 ((((l1.rs rs r1).set hv i).set hu j).set hw l)⟩
  · cases e
end
end Eng
set_option maxRecDepth 100000
set_option maxHeartbeats 4000000
/-! sorted(..) of lists and tuples of data. -/
namespace Eng
open PySem PySem.Spec PySem.Calls PyProof.Rows L2

/-! ### a sort that runs -/
def ins {α : Type} (le : α → α → Bool) (x : α) : List α → List α
  | [] => [x]
  | y :: ys => if le x y = true then x :: y :: ys else y :: ins le x ys
def isort {α : Type} (le : α → α → Bool) : List α → List α
  | [] => []
  | x :: xs => ins le x (isort le xs)
section
variable {α : Type} {le : α → α → Bool}
theorem mem_ins {x z : α} : ∀ {ys : List α}, z ∈ ins le x ys ↔ z = x ∨ z ∈ ys
  | [] => by simp [ins]
  | y :: ys => by
    unfold ins
    split
    · simp
    · rw [List.mem_cons, mem_ins, List.mem_cons]
      constructor
      · rintro (h | h | h)
        · exact .inr (.inl h)
        · exact .inl h
        · exact .inr (.inr h)
      · rintro (h | h | h)
        · exact .inr (.inl h)
        · exact .inl h
        · exact .inr (.inr h)
theorem ins_sorted (h : PySem.W.TotalLe le) {x : α} : ∀ {ys : List α}, ys.Pairwise (fun a b => le a b = true) → (ins le x ys).Pairwise (fun a b => le a b = true)
  | [], _ => by simp [ins]
  | y :: ys, p => by
    have p' := p
    rw [List.pairwise_cons] at p
    unfold ins
    split
    · rename_i c
      refine List.pairwise_cons.mpr ⟨fun z hz => ?_, p'⟩
      rcases List.mem_cons.mp hz with rfl | hz
      · exact c
      · exact h.trans _ _ _ c (p.1 z hz)
    · rename_i c
      refine List.pairwise_cons.mpr ⟨fun z hz => ?_, ins_sorted h p.2⟩
      rcases mem_ins.mp hz with rfl | hz
      · exact (h.total y z).resolve_right c
      · exact p.1 z hz
theorem isort_sorted (h : PySem.W.TotalLe le) : ∀ xs : List α, (isort le xs).Pairwise (fun a b => le a b = true)
  | [] => .nil
  | x :: xs => ins_sorted h (isort_sorted h xs)
theorem ins_filter (h : PySem.W.TotalLe le) (c x : α) : ∀ ys : List α, (ins le x ys).filter (PySem.W.sameRank le c) = (x :: ys).filter (PySem.W.sameRank le c)
  | [] => rfl
  | y :: ys => by
    unfold ins
    split
    · rfl
    · rename_i n
      have ih := ins_filter h c x ys
      rw [List.filter_cons, ih, List.filter_cons, List.filter_cons, List.filter_cons]
      by_cases hx : PySem.W.sameRank le c x = true
      · by_cases hy : PySem.W.sameRank le c y = true
        · unfold PySem.W.sameRank at hx hy
          rw [Bool.and_eq_true] at hx hy
          exact absurd (h.trans _ _ _ hx.2 hy.1) n
        · rw [if_neg hy, if_pos hx, if_neg hy, if_pos hx]
      · rw [if_neg hx, if_neg hx]
theorem isort_filter (h : PySem.W.TotalLe le) (c : α) : ∀ xs : List α, (isort le xs).filter (PySem.W.sameRank le c) = xs.filter (PySem.W.sameRank le c)
  | [] => rfl
  | x :: xs => by
    show (ins le x (isort le xs)).filter _ = _
    rw [ins_filter h, List.filter_cons, List.filter_cons, isort_filter h c xs]
theorem isort_is (h : PySem.W.TotalLe le) (xs : List α) : isort le xs = xs.mergeSort le := PySem.W.sort_unique h (isort_sorted h xs) fun c => isort_filter h c xs
end

/-! ### sorted of a list, of a tuple -/
section
variable {prog : Program} {w : World} {A : Around} {E : Value → Shared → Prop} {s : Shared}
/-- the list that the items are laid into -/
abbrev newL : Obj := seqObj "list" #[] 0
abbrev filled (h : Heap) (vs : List Value) : Heap := (h.push newL).update h.objs.size (Obj.mapSeq (· ++ vs.toArray))
theorem filled_size (h : Heap) (vs : List Value) : (filled h vs).objs.size = h.objs.size + 1 := by
  show ((h.push newL).update h.objs.size _).objs.size = _
  rw [Heap.size_update]; exact size_push' h newL
theorem collect_seq {l : Addr} {T : String} {o : Obj} {vs : List Value} {n : Nat} {Q : List Value → Shared → Prop} (hT : T = "list" ∨ T = "tuple") (ho : s.heap.get? l = some o) (hc : o.cls = .type T) (hd : o.data = .seq vs.toArray n)
    (h : Q vs { s with heap := filled s.heap vs }) (hsz : vs.length ≤ sizeLine) : wpAny (model prog w) A (collect (.ref l)) Q E s := by
  have at1 : (s.heap.push newL).get? l = some o := Heap.get?_push_of_some _ ho
  have at2 : (s.heap.push newL).get? s.heap.objs.size = some newL := Heap.get?_push_size _ rfl
  have few : ((#[] : Array Value) ++ vs.toArray).size ≤ sizeLine + 1 := by simp; omega
  unfold collect
  refine wpAny_bind (wpAny_runValue (codeAny_builtin entry_proto_collect' (wpAny_bind (wpAny_newList (wpAny_pure ⟨Code.quiet_builtin _ (by decide +kernel), codeAny_builtin entry_list_iadd' (show wpAny _ _ (Builtin.List.listExtendWith (.ref s.heap.objs.size) (.ref l) (.ref s.heap.objs.size)) _ _ { s with heap := s.heap.push newL } from ?_)⟩)))))
  unfold Builtin.List.listExtendWith
  refine wpAny_bind (wpAny_typeOf (T := T) ⟨o, at1, hc⟩ ?_)
  rw [if_pos (by rcases hT with rfl | rfl <;> simp)]
  refine wpAny_bind (listItems_at at1 hd (wpAny_bind (listItems_at (xs := #[]) (n := 0) at2 rfl ?_)))
  rw [if_neg (by simp)]
  refine wpAny_bind (listUpdate_at (xs := #[]) (n := 0) at2 rfl (wpAny_pure ?_) (Nat.zero_le _) few)
  refine (show wpAny (model prog w) A (load s.heap.objs.size >>= fun o => match o.data with
      | .seq xs _ => pure xs.toList
      | _ => unsupported "internal:collect") Q E { s with heap := filled s.heap vs } from wpAny_bind (wpAny_load (get?_update_seq at2 _) ?_))
  have e : ((#[] : Array Value) ++ vs.toArray).toList = vs := by simp
  refine (show wpAny (model prog w) A (pure ((#[] : Array Value) ++ vs.toArray).toList) Q E _ from ?_)
  rw [e]; exact wpAny_pure h
theorem sorted_of_sortQ {l : Addr} {T : String} {o : Obj} {vs : List Value} {n : Nat} {Q : Value → Shared → Prop} (hT : T = "list" ∨ T = "tuple") (ho : s.heap.get? l = some o) (hc : o.cls = .type T) (hd : o.data = .seq vs.toArray n) (hL : vs.length ≤ sizeLine)
    (body : ∀ E' : Value → Shared → Prop, wpAny (model prog w) A.in1.in1 (Builtin.«list.sort» ⟨[.ref (s.heap.objs.size + 1)], []⟩) (fun f s' => f = .done (.ret .none) ∧ Q (.ref (s.heap.objs.size + 1)) s') E' { s with heap := PySem.W.copyHeap s.heap vs }) :
    wpAny (model prog w) A (call (.builtin "sorted") [.ref l]) Q E s := by
  refine call_function_entry_kw kind_sorted plain_sorted entry_sorted (args_sorted1 _) ?_
  unfold Builtin.«sorted»
  refine wpAny_bind (m := checkCount "sorted" 1 1 _) (wpAny_pure (wpAny_bind (collect_seq hT ho hc hd (wpAny_bind (wpAny_newList ?_ hL)) hL)))
  refine (show wpAny _ _ _ _ _ { s with heap := PySem.W.copyHeap s.heap vs } from ?_)
  rw [filled_size s.heap vs]
  refine wpAny_bind (wpAny_holding (wpAny_call_entry_kw slot_list_sort ⟨_, PySem.W.copyHeap_at s.heap vs, rfl⟩ entry_list_sort (wpAny_mono (body _) (fun f s' ⟨e1, e2⟩ => ?_) fun _ _ z => z) (args_list_sort _)))
  subst e1
  exact ⟨.none, rfl, wpAny_pure ⟨.ref (s.heap.objs.size + 1), rfl, e2⟩⟩

/-- what can be sorted: also one alone -/
def Srt (ds : List PyData) : Prop := PySem.W.Sortable ds ∨ (ds.length < 2 ∧ ∀ d, d ∈ ds → d ≠ .none)
theorem srt_at {vs : List Value} {ds : List PyData} (e : PySem.W.EachIs (fun v d => ∃ as, Reads s.heap v d as) vs ds) (hal : PySem.W.AllAlike ds) (hk : Srt ds) (hu : ∀ d, d ∈ ds → A.units + d.depth < cLine) : PySem.W.SortsAt prog w A s (PySem.W.dataKind s.heap ds) vs := by
  rcases hk with hk | ⟨h1, hn⟩
  · exact PySem.W.SortsAt.data e hal hk hu
  · refine ⟨fun v hv => ?_, general', fun E x y a b Q ha hb hq => ?_, fun h2 => ?_⟩
    · obtain ⟨d, hd, as, r⟩ := e.left v hv
      exact ⟨_, PySem.W.dataKind_some hal hd r⟩
    · obtain ⟨d, as, hd, ra, rfl⟩ := PySem.W.dataKind_inv ha
      obtain ⟨d', as', hd', rb, rfl⟩ := PySem.W.dataKind_inv hb
      show wpAny (model prog w) A (oneLt' false x y) Q E s
      exact PySem.W.oneLt_alike (fun z => nomatch z) ra rb (hal d hd d' hd') (hn d hd) (Nat.lt_of_le_of_lt (Nat.add_le_add_left (Nat.min_le_left _ _) _) (hu d hd)) hq
    · have := e.length
      omega
theorem sorted_dataQ {β : Type} {vs : List Value} {bs : List β} {enc : β → PyData} {R : Value → β → Prop} {l : Addr} {T : String} {o : Obj} {n : Nat} {Q : Value → Shared → Prop} (hT : T = "list" ∨ T = "tuple") (ho : s.heap.get? l = some o) (hc : o.cls = .type T) (hd : o.data = .seq vs.toArray n)
    (e : PySem.W.EachIs R vs bs) (er : PySem.W.EachIs (fun v b => ∃ as, Reads s.heap v (enc b) as) vs bs) (hal : PySem.W.AllAlike (bs.map enc)) (hk : Srt (bs.map enc)) (hL : bs.length ≤ sizeLine)
    (hu : ∀ b, b ∈ bs → A.units + 2 + (enc b).depth < cLine) (h : ∀ out, out.length = bs.length → PySem.W.EachIs R out (bs.mergeSort (PySem.W.dataLe false enc)) → Q (.ref (s.heap.objs.size + 1)) { s with heap := sortedAll s.heap vs (List.toArray out) }) :
    wpAny (model prog w) A (call (.builtin "sorted") [.ref l]) Q E s := by
  have er' : PySem.W.EachIs (fun v b => ∃ as, Reads (PySem.W.sortingHeap (PySem.W.copyHeap s.heap vs) (s.heap.objs.size + 1) vs) v (enc b) as) vs bs := er.mono fun _ _ ⟨as, r⟩ => ⟨as, PyProof.Rows.Reads.keeps (fun _ _ => PySem.W.sorting_copy_old) r⟩
  have hLv : vs.length ≤ sizeLine := by rw [e.length]; exact hL
  refine sorted_of_sortQ hT ho hc hd hLv fun E' => ?_
  refine PySem.W.list_sort_vals (s := { s with heap := PySem.W.copyHeap s.heap vs }) (PySem.W.copyHeap_at s.heap vs)
    (srt_at (s := { s with heap := PySem.W.sortingHeap (PySem.W.copyHeap s.heap vs) (s.heap.objs.size + 1) vs }) (PySem.W.each_map (R := fun v d => ∃ as, Reads (PySem.W.sortingHeap (PySem.W.copyHeap s.heap vs) (s.heap.objs.size + 1) vs) v d as) enc er') hal hk (PySem.W.bound_map hu)) hLv ⟨rfl, ?_⟩
  exact h _ (by rw [PySem.W.sortVals_length false rfl]; exact e.length) (PySem.W.sortVals_data false e er' hal)
end

/-! ### the rule -/
section
variable {X : Cx} {G : Gd}
def rSrt (K : PySem.W.Frag) : List V → Hp → VK → Prop := fun xs H Q => ∃ (p : Addr) (bs : List (V × PyData)), xs = [V.ref p] ∧ (SqL K H p (bs.map (·.1)) ∨ SqT K H p (bs.map (·.1))) ∧ (∀ b ∈ bs, Dp K H b.1 b.2) ∧
  PySem.W.AllAlike (bs.map (·.2)) ∧ Srt (bs.map (·.2)) ∧ (∀ b ∈ bs, b.2.depth ≤ 64) ∧ ∀ q, H q = none → Q (V.ref q) (upd H q (.lst ((bs.mergeSort (PySem.W.dataLe false (·.2))).map (·.1))))
theorem each_reads {pins : List (Addr × Obj)} {σ : L2.St} {H : Hp} {s : Shared} (I : Inv X pins σ H s) : ∀ {bs : List (V × PyData)} {its : List Value}, (∀ b ∈ bs, Dp X.K H b.1 b.2) → Vals (bs.map (·.1)) its →
    PySem.W.EachIs (fun v (b : V × PyData) => RelV b.1 v) its bs ∧ PySem.W.EachIs (fun v (b : V × PyData) => ∃ as, Reads s.heap v b.2 as) its bs
  | [], its, _, r => by
    cases r; exact ⟨.nil, .nil⟩
  | b :: bs, its, h, r => by
    rw [List.map_cons] at r
    cases r with
    | cons r1 r2 =>
      obtain ⟨a, c⟩ := each_reads I (fun b hb => h b (List.mem_cons_of_mem _ hb)) r2
      exact ⟨.cons r1 a, .cons (Dp.reads I b.2 b.1 _ (h b List.mem_cons_self) r1) c⟩
theorem each_vals : ∀ {bs : List (V × PyData)} {its : List Value}, PySem.W.EachIs (fun v (b : V × PyData) => RelV b.1 v) its bs → Vals (bs.map (·.1)) its
  | _, _, .nil => .nil
  | _, _, .cons h t => .cons h (each_vals t)
theorem cr_srt (hu : X.A.units + 67 < cLine) : CallR X (.builtin "sorted") (rSrt X.K) := by
  intro pins s σ H xs us Q I r h
  obtain ⟨p, bs, rfl, hq, hdp, hal, hk, hdep, q⟩ := h
  obtain ⟨u, rfl, rx⟩ := vals1 r
  cases rx
  have fin : ∀ {T : String} {o : Obj} {its : List Value} {n : Nat}, (T = "list" ∨ T = "tuple") → s.heap.get? p = some o → o.cls = .type T → o.data = .seq its.toArray n → Vals (bs.map (·.1)) its → (bs.map (·.1)).length ≤ sizeLine →
      wpAny (model X.prog X.w) X.A (call (.builtin "sorted") [.ref p]) (EP X pins σ Q) X.xe s := by
    intro T o its n hT ho hc hd rv hz
    obtain ⟨e1, e2⟩ := each_reads I hdp rv
    rw [List.length_map] at hz
    refine sorted_dataQ (β := V × PyData) (enc := (·.2)) hT ho hc hd e1 e2 hal hk hz (fun b hb => by have := hdep b hb; omega) fun out hl ho => ?_
    obtain ⟨ep, he'⟩ := PyProof.Rows.sortedAll_at s.heap its out.toArray
    refine ⟨.ref _, upd H (s.heap.objs.size + 1) (.lst ((bs.mergeSort (PySem.W.dataLe false (·.2))).map (·.1))), I.laid (t' := s.toks) (fun _ _ => PyProof.Rows.sortedAll_old) (Nat.le_succ _) ⟨?_, out, ep, each_vals ho, he'⟩, rfl, q _ (I.hok.fresh (Nat.le_succ _))⟩
    rw [List.length_map, List.length_mergeSort]; exact hz
  rcases hq with hq | hq
  · obtain ⟨its, rv, pl, hz⟩ := I.list hq
    obtain ⟨o, ho, hc, n, hd⟩ := pl.isList
    exact fin (.inl rfl) ho hc hd rv hz
  · obtain ⟨its, rv, pl, hz⟩ := I.tuple hq
    obtain ⟨o, ho, hc, n, hd⟩ := pl
    exact fin (.inr rfl) ho hc hd rv hz
end
end Eng
set_option maxRecDepth 100000
set_option maxHeartbeats 4000000
/-! sorted(..) by a function; dict(..) of pairs. -/
namespace Eng
open PySem PySem.Spec PyProof.Rows L2
section
variable {X : Cx} {G : Gd}
def tagP (hm : Hm) : List D → Option (List (D × PyData)) := optAll fun d => match toP deep hm d with
  | some p => some (d, p)
  | none => none
theorem tag_rv {ρ : Nat → Option Addr} {H : Hp} {hm : Hm} (r : RH G ρ H hm) : ∀ {xs : List D} {ys : List V} {zs : List (D × PyData)}, tagP hm xs = some zs → RVs G.K ρ H xs ys →
    ∃ ts : List (D × V × PyData), zs = ts.map (fun t => (t.1, t.2.2)) ∧ ys = ts.map (·.2.1) ∧ ∀ t ∈ ts, RV G.K ρ H t.1 t.2.1 ∧ Dp G.K H t.2.1 t.2.2
  | [], ys, zs, e, h => by
    cases e
    unfold RVs at h
    subst h
    exact ⟨[], rfl, rfl, fun t h => nomatch h⟩
  | x :: xs, ys, zs, e, h => by
    unfold RVs at h
    obtain ⟨y, rs, rfl, h1, h2⟩ := h
    unfold tagP optAll at e
    split at e
    · rename_i z zs' e1 e2
      cases e
      split at e1
      · rename_i p hp
        cases e1
        obtain ⟨ts, rfl, rfl, ht⟩ := tag_rv r e2 h2
        refine ⟨(x, y, p) :: ts, rfl, rfl, fun t hm => ?_⟩
        rcases List.mem_cons.mp hm with rfl | hm
        · exact ⟨h1, toP_dp r _ _ _ _ hp h1⟩
        · exact ht t hm
      · cases e1
    · cases e
theorem rvs_map {K : PySem.W.Frag} {ρ : Nat → Option Addr} {H : Hp} : ∀ {ts : List (D × V × PyData)}, (∀ t ∈ ts, RV K ρ H t.1 t.2.1) → RVs K ρ H (ts.map (·.1)) (ts.map (·.2.1))
  | [], _ => .nil
  | t :: ts, h => .cons (h t List.mem_cons_self) (rvs_map fun t ht => h t (List.mem_cons_of_mem _ ht))
def isTup1 : PyData → Bool
  | .tuple (_ :: _) => true
  | _ => false
def plainK : PyData → Bool
  | .none => false
  | .tuple _ => false
  | _ => true
def notN : PyData → Bool
  | .none => false
  | _ => true
def srtB (ps : List PyData) : Bool := ps.all isTup1 || ps.all plainK || (decide (ps.length < 2) && ps.all notN)
def alikeB (ps : List PyData) : Bool := ps.all fun p => ps.all fun q => PySem.W.alike p q
theorem srtB_ok {ps : List PyData} (h : srtB ps = true) : Srt ps := by
  unfold srtB at h
  rw [Bool.or_eq_true, Bool.or_eq_true, Bool.and_eq_true] at h
  rcases h with (h | h) | ⟨h1, h⟩
  · refine .inl (.inl fun d hd => ?_)
    have := List.all_eq_true.mp h d hd
    unfold isTup1 at this
    split at this
    · exact ⟨_, _, rfl⟩
    · cases this
  · refine .inl (.inr fun d hd => ?_)
    have := List.all_eq_true.mp h d hd
    unfold plainK at this
    split at this
    · cases this
    · cases this
    · rename_i n1 n2
      exact ⟨fun e => n1 e, fun xs e => n2 xs e⟩
  · refine .inr ⟨of_decide_eq_true h1, fun d hd e => ?_⟩
    have := List.all_eq_true.mp h d hd
    rw [e] at this
    cases this
theorem alikeB_ok {ps : List PyData} (h : alikeB ps = true) : PySem.W.AllAlike ps := fun d hd d' hd' => List.all_eq_true.mp (List.all_eq_true.mp h d hd) d' hd'
def depthB (ps : List PyData) : Bool := ps.all fun p => decide (p.depth ≤ 64)
def dLe (a b : D × PyData) : Bool := PySem.W.dataLe false (fun z : D × PyData => z.2) a b
def gSorted (ds : List D) : M D := fun hm => match ds with
  | [d] => match seqOf hm d with
    | some xs => match tagP hm xs with
      | some zs => if (alikeB (zs.map (·.2)) && srtB (zs.map (·.2)) && depthB (zs.map (·.2))) = true then some (.ref hm.nx, hm.new (.lst ((isort dLe zs).map (·.1)))) else none
      | none => none
    | none => none
  | _ => none
theorem dataLe_total {β : Type} {k : β → PyData} : PySem.W.TotalLe (PySem.W.dataLe false k) := by
  unfold PySem.W.dataLe
  exact PySem.W.sortLe_total _ _ _
theorem dLe_total : PySem.W.TotalLe dLe := dataLe_total (k := fun z : D × PyData => z.2)
theorem s_sorted : CallS G (rSrt G.K) gSorted := by
  intro ρ hm H xs vs d hm' Q r hvs e q
  unfold gSorted at e
  split at e
  · split at e
    · rename_i xs hs
      split at e
      · rename_i zs hz
        split at e
        · rename_i hb
          cases e
          rw [Bool.and_eq_true, Bool.and_eq_true] at hb
          obtain ⟨v, rfl, hv⟩ := hvs.one
          obtain ⟨p, ys, rfl, h1, h2⟩ := seq_ok r hv hs
          obtain ⟨ts, rfl, rfl, ht⟩ := tag_rv r hz h2
          have e1 : (ts.map (·.2)).map (·.1) = ts.map (·.2.1) := by rw [List.map_map]; rfl
          have e2 : (ts.map (·.2)).map (·.2) = (ts.map fun t => (t.1, t.2.2)).map (·.2) := by rw [List.map_map, List.map_map]; rfl
          refine ⟨p, ts.map (·.2), rfl, by rw [e1]; exact h1, fun b hb => ?_, by rw [e2]; exact alikeB_ok hb.1.1, by rw [e2]; exact srtB_ok hb.1.2, fun b hm => ?_, ?_⟩
          · obtain ⟨t, hm, rfl⟩ := List.mem_map.mp hb
            exact (ht t hm).2
          · have := List.all_eq_true.mp hb.2 b.2 (by rw [← e2]; exact List.mem_map.mpr ⟨b, hm, rfl⟩)
            exact of_decide_eq_true this
          · have s1 : (ts.mergeSort fun a b => PySem.W.dataLe false (fun z : V × PyData => z.2) a.2 b.2).map (·.2) = (ts.map (·.2)).mergeSort (PySem.W.dataLe false (·.2)) := PySem.W.sort_maps (fun t : D × V × PyData => t.2) fun a _ b _ => rfl
            have s2 : (ts.mergeSort fun a b => PySem.W.dataLe false (fun z : V × PyData => z.2) a.2 b.2).map (fun t => (t.1, t.2.2)) = (ts.map fun t => (t.1, t.2.2)).mergeSort dLe := PySem.W.sort_maps (fun t : D × V × PyData => (t.1, t.2.2)) fun a _ b _ => rfl
            have s3 : ((isort dLe (ts.map fun t => (t.1, t.2.2))).map (·.1)) = (ts.mergeSort fun a b => PySem.W.dataLe false (fun z : V × PyData => z.2) a.2 b.2).map (·.1) := by
              rw [isort_is dLe_total, ← s2, List.map_map]; rfl
            have s4 : (((ts.map (·.2)).mergeSort (PySem.W.dataLe false (·.2))).map (·.1)) = (ts.mergeSort fun a b => PySem.W.dataLe false (fun z : V × PyData => z.2) a.2 b.2).map (·.2.1) := by
              rw [← s1, List.map_map]; rfl
            rw [s4]
            refine rh_lst1 r (rvs_map (ts := ts.mergeSort fun a b => PySem.W.dataLe false (fun z : V × PyData => z.2) a.2 b.2) fun t hm => (ht t (List.mem_mergeSort.mp hm)).1) rfl (by rw [← s3]) q
        · cases e
      · cases e
    · cases e
  · cases e
end
end Eng
set_option maxRecDepth 100000
set_option maxHeartbeats 4000000
/-! dict(..) of pairs: of a list, keys that are tuples; of a tuple, keys that are ints or texts. -/
namespace Eng
open PySem PySem.Spec PyProof.Rows L2
section
variable {X : Cx} {G : Gd}
def mrgK {κ : Type} [DecidableEq κ] (kvs : List (κ × V)) (acc : List (κ × V)) : List (κ × V) := kvs.foldl (fun acc kv => putK acc kv.1 kv.2) acc
/-- a pair that is laid: its key a tuple -/
def PairT (H : Hp) (p : Addr) (kv : List Key × V) : Prop := ∃ b, H p = some (.tup [.ref b, kv.2]) ∧ H b = some (.tup (kv.1.map kV))
def rDctT (K : PySem.W.Frag) : List V → Hp → VK → Prop := fun xs H Q => ∃ (a : Addr) (ps : List Addr) (kvs : List (List Key × V)), xs = [V.ref a] ∧ SqL K H a (ps.map V.ref) ∧ Paired (PairT H) ps kvs ∧ ∀ q, H q = none → Q (V.ref q) (upd H q (.dT (mrgK kvs [])))
theorem kt_fold {H : Hp} : ∀ {kvs acc : List (List Key × V)} {prs xs : List (List Key × Addr × Value)}, KT H acc xs → KT H kvs prs → KT H (mrgK kvs acc) (storedAllH xs prs)
  | _, _, _, _, r, .nil => r
  | kv :: kvs, acc, q :: prs, xs, r, .cons h t => by
    obtain ⟨h1, h2, h3⟩ := h
    show KT H (mrgK kvs (putK acc kv.1 kv.2)) (storedAllH (storedH xs q.1 q.2.1 q.2.2) prs)
    refine kt_fold ?_ t
    rw [← h1]
    exact r.put kv.1 h2 h3
theorem mrgK_len {κ : Type} [DecidableEq κ] : ∀ (kvs acc : List (κ × V)), (mrgK kvs acc).length ≤ acc.length + kvs.length
  | [], acc => Nat.le_refl _
  | kv :: kvs, acc => by
    have h1 := mrgK_len kvs (putK acc kv.1 kv.2)
    have h2 := length_putK acc kv.1 kv.2
    show (mrgK kvs (putK acc kv.1 kv.2)).length ≤ _
    simp only [List.length_cons]
    omega
theorem pairsT_of {pins : List (Addr × Obj)} {σ : L2.St} {H : Hp} {s : Shared} (I : Inv X pins σ H s) : ∀ {ps : List Addr} {kvs : List (List Key × V)}, Paired (PairT H) ps kvs →
    ∃ prs : List (List Key × Addr × Value), KT H kvs prs ∧ prs.length = ps.length ∧ ∀ (j : Nat) (q : List Key × Addr × Value), prs[j]? = some q → ∃ b, ps[j]? = some b ∧ IsTup s.heap b #[.ref q.2.1, q.2.2] ∧ (tupleKind (mixKind X.prog X.w)).is s.heap q.1 q.2.1
  | _, _, .nil => ⟨[], .nil, rfl, fun j q e => by simp at e⟩
  | p :: ps, kv :: kvs, .cons h t => by
    obtain ⟨prs, r, hl, hp⟩ := pairsT_of I t
    obtain ⟨b, h1, h2⟩ := h
    obtain ⟨_, its, rv, ht⟩ := (show ObjOk X.prog X.w H s.heap p (.tup [.ref b, kv.2]) from I.hok p _ h1)
    obtain ⟨u, y, ei, ru, ry⟩ := vals2 rv
    subst ei
    cases ru
    refine ⟨(kv.1, b, y) :: prs, .cons ⟨rfl, h2, ry⟩ r, by rw [List.length_cons, List.length_cons, hl], fun j q e => ?_⟩
    cases j with
    | zero =>
      have e' : (kv.1, b, y) = q := Option.some.inj e
      subst e'
      exact ⟨p, rfl, ht, key_of I.hok h2⟩
    | succ j =>
      obtain ⟨b', e1, e2⟩ := hp j q (by simpa using e)
      exact ⟨b', by simpa using e1, e2⟩
theorem cr_dctT (hc : X.calm = true) (hu : X.A.units + 2 < cLine) : CallR X (.type "dict") (rDctT X.K) := by
  intro pins s σ H xs us Q I r h
  obtain ⟨a, ps, kvs, rfl, hq, hp, q⟩ := h
  obtain ⟨u, rfl, rx⟩ := vals1 r
  cases rx
  obtain ⟨its, rv, pl, hz⟩ := I.list hq
  have ei := refs_at rv
  subst ei
  rw [List.length_map] at hz
  obtain ⟨prs, rel, hl, hpr⟩ := pairsT_of I hp
  obtain ⟨o, n, ho, hcl, hd, hdat⟩ := pl
  let pv : List (Value × Value) := prs.map fun q => (Value.ref q.2.1, q.2.2)
  have hpv : pv.length = ps.length := by rw [List.length_map]; exact hl
  have P := PairArg.list (prog := X.prog) (w := X.w) a (ps.map Value.ref).toArray (fun j => ps.getD j 0) pv
  have hkl : kvs.length = prs.length := Paired.length rel
  refine call_dict_pairsH (knd := tupleKind (mixKind X.prog X.w)) (ps := prs) P (I.ok.hd hc) (tupleKind_room_in1 (A := X.A.in1) (show X.A.in1.units + 1 < cLine from by
    have : X.A.in1.units = X.A.units + 1 := rfl
    omega)) ⟨⟨o, n, ho, hcl, hd, hdat⟩, by simp [pv, hl], fun j k v hj => ?_⟩ ⟨by rw [hpv, hl], fun i key v hi => ?_⟩ (fun h' hk x hx => ?_) (by rw [hpv]; exact hz) fun h' tk hd' hk => ?_
  · obtain ⟨qq, hq1, hq2⟩ := Option.map_eq_some_iff.mp (show (prs[j]?).map (fun q : List Key × Addr × Value => (Value.ref q.2.1, q.2.2)) = some (k, v) from by rw [← List.getElem?_map]; exact hj)
    cases hq2
    obtain ⟨b, e1, e2, _⟩ := hpr j qq hq1
    have e3 : ps.getD j 0 = b := by rw [List.getD_eq_getElem?_getD, e1]; rfl
    refine ⟨?_, .inl ?_⟩
    · show (ps.map Value.ref).toArray[j]? = some (.ref (ps.getD j 0))
      rw [List.getElem?_toArray, List.getElem?_map, e1, e3]; rfl
    · show IsTup s.heap (ps.getD j 0) #[.ref qq.2.1, qq.2.2]
      rw [e3]; exact e2
  · obtain ⟨qq, hq1, hq2⟩ := Option.map_eq_some_iff.mp (show (prs[i]?).map (fun q : List Key × Addr × Value => (Value.ref q.2.1, q.2.2)) = some (key, v) from by rw [← List.getElem?_map]; exact hi)
    cases hq2
    exact ⟨qq.1, qq.2.1, hq1, rfl⟩
  · obtain ⟨j, hj, e⟩ := List.mem_iff_getElem.mp hx
    obtain ⟨b, _, _, o', its', n', h1, h2, h3, h4⟩ := hpr j x (by rw [List.getElem?_eq_getElem hj, e])
    exact ⟨o', its', n', hk _ _ (Nat.ne_of_lt (Heap.lt_size h1)) (fun z => nomatch z) h1, h2, h3, h4⟩
  · have hm : (s.heap.objs.size == sysModules) = false := beq_eq_false_iff_ne.mpr (Nat.ne_of_gt I.big)
    have hlen : (mrgK kvs []).length ≤ sizeLine := by
      have := mrgK_len kvs []
      rw [List.length_nil, Nat.zero_add, hkl, hl] at this
      exact Nat.le_trans this hz
    have hfr : H s.heap.objs.size = none := I.hok.fresh (Nat.le_refl _)
    obtain ⟨o', es, ep, k1, k2, k3, k4, _, k6⟩ := hd'
    refine ⟨.ref s.heap.objs.size, upd H s.heap.objs.size (.dT (mrgK kvs [])), I.laid (t' := tk) (fun b o e => hk b o (fun z => nomatch z) e) (Nat.le_refl _) (show ObjOk X.prog X.w _ _ _ (.dT (mrgK kvs [])) from ⟨hlen, hm, storedAllH [] prs, (kt_fold (acc := []) (xs := []) .nil rel).keeps fun b ys e => ?_, o', es, ep, k1, k2, k3, k4, k6⟩), rfl, q _ hfr⟩
    rw [upd_ne (ne_of_none e hfr)]
    exact e
end
end Eng
set_option maxRecDepth 100000
set_option maxHeartbeats 4000000
/-! dict(..) of a tuple of pairs; by functions. -/
namespace Eng
open PySem PySem.Spec PyProof.Rows L2
section
variable {X : Cx} {G : Gd}
def rDctF (K : PySem.W.Frag) : List V → Hp → VK → Prop := fun xs H Q => ∃ (a : Addr) (o : Obj) (ps : List Addr) (kvs : List (Key × V)), xs = [V.ref a] ∧ H a = some (.frz o (.tup (ps.map V.ref))) ∧ o.dict = none ∧ Paired (fun p kv => SqT K H p [kV kv.1, kv.2]) ps kvs ∧
  ∀ q, H q = none → Q (V.ref q) (upd H q (.dK (mergeK [] kvs)))
theorem pairsK_of {pins : List (Addr × Obj)} {σ : L2.St} {H : Hp} {s : Shared} (I : Inv X pins σ H s) : ∀ {ps : List Addr} {kvs : List (Key × V)}, Paired (fun p kv => SqT X.K H p [kV kv.1, kv.2]) ps kvs →
    ∃ prs : List (Key × Value × Value), KV kvs (prs.map fun q => (q.1, q.2.2)) ∧ prs.length = ps.length ∧ ∀ (j : Nat) (q : Key × Value × Value), prs[j]? = some q → ∃ b, ps[j]? = some b ∧ IsTup s.heap b #[q.2.1, q.2.2] ∧ (mixKind X.prog X.w).is q.1 q.2.1 = true
  | _, _, .nil => ⟨[], .nil, rfl, fun j q e => by simp at e⟩
  | p :: ps, kv :: kvs, .cons h t => by
    obtain ⟨prs, r, hl, hp⟩ := pairsK_of I t
    obtain ⟨its, rv, ht, _⟩ := I.tuple h
    obtain ⟨u, y, ei, ru, ry⟩ := vals2 rv
    subst ei
    refine ⟨(kv.1, u, y) :: prs, .cons ⟨rfl, ry⟩ r, by rw [List.length_cons, List.length_cons, hl], fun j q e => ?_⟩
    cases j with
    | zero =>
      have e' : (kv.1, u, y) = q := Option.some.inj e
      subst e'
      exact ⟨p, rfl, ht, kV_is ru⟩
    | succ j =>
      obtain ⟨b', e1, e2⟩ := hp j q (by simpa using e)
      exact ⟨b', by simpa using e1, e2⟩
theorem cr_dctF (hc : X.calm = true) : CallR X (.type "dict") (rDctF X.K) := by
  intro pins s σ H xs us Q I r h
  obtain ⟨a, o, ps, kvs, rfl, hq, hdn, hp, q⟩ := h
  obtain ⟨u, rfl, rx⟩ := vals1 r
  cases rx
  obtain ⟨ho, hz, its, rv, o', ho', hcl, n, hdat⟩ := (show ObjOk X.prog X.w H s.heap a (.frz o (.tup (ps.map V.ref))) from I.hok a _ hq)
  rw [ho] at ho'; cases ho'
  have ei := refs_at rv
  subst ei
  rw [List.length_map] at hz
  obtain ⟨prs, rel, hl, hpr⟩ := pairsK_of I hp
  let pv : List (Value × Value) := prs.map fun q => (q.2.1, q.2.2)
  have hpv : pv.length = ps.length := by rw [List.length_map]; exact hl
  have P := PairArg.tuple (prog := X.prog) (w := X.w) a (ps.map Value.ref).toArray (fun j => ps.getD j 0) pv
  refine PySem.call_dict_pairs (knd := mixKind X.prog X.w) (kvs := prs.map fun q => (q.1, q.2.2)) P (I.ok.hd hc) ⟨⟨o, n, ho, hcl, hdn, hdat⟩, by simp [pv, hl], fun j k v hj => ?_⟩ ⟨by rw [hpv, List.length_map, hl], fun i key v hi => ?_⟩ (by rw [hpv]; exact hz) fun h' tk hd' hk => ?_
  · obtain ⟨qq, hq1, hq2⟩ := Option.map_eq_some_iff.mp (show (prs[j]?).map (fun q : Key × Value × Value => (q.2.1, q.2.2)) = some (k, v) from by rw [← List.getElem?_map]; exact hj)
    cases hq2
    obtain ⟨b, e1, e2, _⟩ := hpr j qq hq1
    have e3 : ps.getD j 0 = b := by rw [List.getD_eq_getElem?_getD, e1]; rfl
    refine ⟨?_, .inl ?_⟩
    · show (ps.map Value.ref).toArray[j]? = some (.ref (ps.getD j 0))
      rw [List.getElem?_toArray, List.getElem?_map, e1, e3]; rfl
    · show IsTup s.heap (ps.getD j 0) #[qq.2.1, qq.2.2]
      rw [e3]; exact e2
  · obtain ⟨qq, hq1, hq2⟩ := Option.map_eq_some_iff.mp (show (prs[i]?).map (fun q : Key × Value × Value => (q.2.1, q.2.2)) = some (key, v) from by rw [← List.getElem?_map]; exact hi)
    cases hq2
    obtain ⟨b, e1, e2, e3⟩ := hpr i qq hq1
    exact ⟨qq.1, by rw [List.getElem?_map, hq1]; rfl, e3⟩
  · have hm : (s.heap.objs.size == sysModules) = false := beq_eq_false_iff_ne.mpr (Nat.ne_of_gt I.big)
    have hlen : (mergeK [] kvs).length ≤ sizeLine := by
      refine Nat.le_trans (length_mergeK kvs []) ?_
      have e := rel.length
      rw [List.length_map] at e
      rw [List.length_nil, Nat.zero_add, e, hl]
      exact hz
    exact ⟨.ref s.heap.objs.size, upd H s.heap.objs.size (.dK (mergeK [] kvs)), I.laid (t' := tk) (fun b o e => hk b o (fun z => nomatch z) e) (Nat.le_refl _) (show ObjOk X.prog X.w _ _ _ (.dK (mergeK [] kvs)) from ⟨hlen, hm, _, KV.merge rel .nil, hd'⟩), rfl, q _ (I.hok.fresh (Nat.le_refl _))⟩

/-! ### a tuple known to the object -/
def rTupF (K : PySem.W.Frag) : List V → Hp → VK → Prop := fun xs H Q => ∃ p ys, xs = [V.ref p] ∧ SqL K H p ys ∧ ∀ l o, H l = none → o.dict = none → Q (V.ref l) (upd H l (.frz o (.tup ys)))
theorem cr_tupF : CallR X (.type "tuple") (rTupF X.K) := by
  intro pins s σ H xs us Q I r h
  obtain ⟨p, ys, rfl, hq, q⟩ := h
  obtain ⟨u, rfl, rx⟩ := vals1 r
  cases rx
  obtain ⟨its, r', pl, hz⟩ := I.list hq
  have hlen := r'.length
  refine call_tuple_list pl.isList (fun h' kp => ?_) (by simp only [List.size_toArray] <;> omega)
  have I1 : Inv X pins σ H { s with heap := h' } := I.kept (t' := s.toks) kp
  have I2 : Inv X pins σ (upd H h'.objs.size (.frz { cls := .type "tuple", data := .seq its.toArray } (.tup ys))) { s with heap := h'.push { cls := .type "tuple", data := .seq its.toArray } } :=
    I1.laid (t' := s.toks) (fun b o e => Heap.get?_push_of_some _ e) (Nat.le_refl _) (show ObjOk X.prog X.w _ _ _ (.frz _ (.tup ys)) from ⟨Heap.get?_push_size _ rfl, hz, its, r', IsTup.new _ _⟩)
  exact ⟨.ref h'.objs.size, _, I2, rfl, q _ _ (I1.hok.fresh (Nat.le_refl _)) rfl⟩
def gTupF (ds : List D) : M D := fun hm => match ds with
  | [d] => match lstOf hm d with
    | some xs => some (.ref hm.nx, hm.new (.ftp xs))
    | none => none
  | _ => none
theorem s_tupF : CallS G (rTupF G.K) gTupF := by
  intro ρ hm H xs vs d hm' Q r hvs e q
  unfold gTupF at e
  split at e
  · split at e
    · rename_i xs hs
      cases e
      obtain ⟨v, rfl, hv⟩ := hvs.one
      obtain ⟨p, ys, rfl, h1, h2⟩ := lst_ok r hv hs
      refine ⟨p, ys, rfl, h1, fun l o hl hd => ?_⟩
      obtain ⟨a, b⟩ := r.new (o := .ftp xs) (u := .frz o (.tup ys)) hl ⟨o, ys, ⟨upd_same, hd⟩, RVs.mono (fun _ _ z => z) (TX.new hl) _ _ h2⟩
      exact q _ _ _ b a rv_new
    · cases e
  · cases e

/-! ### dict by functions -/
def pairsT : List D → Option (List (List Key × D))
  | [] => some []
  | .tup [k, v] :: r => match keysOf k, pairsT r with
    | some ks, some l => some ((ks, v) :: l)
    | _, _ => none
  | _ => none
def pairsK : List D → Option (List (Key × D))
  | [] => some []
  | .tup [k, v] :: r => match keyOf k, pairsK r with
    | some ks, some l => some ((ks, v) :: l)
    | _, _ => none
  | _ => none
def mrgD {κ : Type} [DecidableEq κ] (kvs : List (κ × D)) (acc : List (κ × D)) : List (κ × D) := kvs.foldl (fun acc kv => putKV acc kv.1 kv.2) acc
theorem mrg_rk {κ : Type} [DecidableEq κ] {ρ : Nat → Option Addr} {H : Hp} : ∀ {x acc : List (κ × D)} {y acc' : List (κ × V)}, RK G ρ H x y → RK G ρ H acc acc' → RK G ρ H (mrgD x acc) (mrgK y acc')
  | _, _, _, _, .nil, h => h
  | p :: r, acc, q :: t, acc', .cons z w, h => by
    show RK G ρ H (mrgD r (putKV acc p.1 p.2)) (mrgK t (putK acc' q.1 q.2))
    rw [z.1]
    exact mrg_rk w (h.put q.1 z.2)
theorem pairsT_rv {ρ : Nat → Option Addr} {H : Hp} : ∀ {xs : List D} {l : List (List Key × D)} {vs : List V}, pairsT xs = some l → RVs G.K ρ H xs vs → ∃ ps kvs, vs = ps.map V.ref ∧ Paired (PairT H) ps kvs ∧ RK G ρ H l kvs
  | [], l, vs, e, h => by
    cases e
    unfold RVs at h
    subst h
    exact ⟨[], [], rfl, .nil, .nil⟩
  | x :: xs, l, vs, e, h => by
    unfold RVs at h
    obtain ⟨y, r, rfl, h1, h2⟩ := h
    unfold pairsT at e
    split at e <;> rename_i q <;> first | (cases q; done) | skip
    · injection q with q1 q2
      subst q1 q2
      split at e
      · rename_i ks l' e1 e2
        cases e
        obtain ⟨ps, kvs, rfl, p1, p2⟩ := pairsT_rv e2 h2
        unfold RV at h1
        obtain ⟨a, ys, rfl, k1, k2⟩ := h1
        obtain ⟨v, u, rfl, k3, k4⟩ := k2.two
        obtain ⟨b, rfl, k5⟩ := keysOf_rv e1 k3
        exact ⟨a :: ps, (ks, u) :: kvs, rfl, .cons ⟨b, k1, k5⟩ p1, .cons ⟨rfl, k4⟩ p2⟩
      · cases e
    · cases e
theorem pairsK_rv {ρ : Nat → Option Addr} {H : Hp} : ∀ {xs : List D} {l : List (Key × D)} {vs : List V}, pairsK xs = some l → RVs G.K ρ H xs vs → ∃ ps kvs, vs = ps.map V.ref ∧ Paired (fun p kv => SqT G.K H p [kV kv.1, kv.2]) ps kvs ∧ RK G ρ H l kvs
  | [], l, vs, e, h => by
    cases e
    unfold RVs at h
    subst h
    exact ⟨[], [], rfl, .nil, .nil⟩
  | x :: xs, l, vs, e, h => by
    unfold RVs at h
    obtain ⟨y, r, rfl, h1, h2⟩ := h
    unfold pairsK at e
    split at e <;> rename_i q <;> first | (cases q; done) | skip
    · injection q with q1 q2
      subst q1 q2
      split at e
      · rename_i ks l' e1 e2
        cases e
        obtain ⟨ps, kvs, rfl, p1, p2⟩ := pairsK_rv e2 h2
        unfold RV at h1
        obtain ⟨a, ys, rfl, k1, k2⟩ := h1
        obtain ⟨v, u, rfl, k3, k4⟩ := k2.two
        rw [keyOf_rv e1 k3] at k1
        exact ⟨a :: ps, (ks, u) :: kvs, rfl, .cons k1.sq p1, .cons ⟨rfl, k4⟩ p2⟩
      · cases e
    · cases e
def gDctT (ds : List D) : M D := fun hm => match ds with
  | [d] => match lstOf hm d with
    | some xs => match pairsT xs with
      | some l => some (.ref hm.nx, hm.new (.dt (mrgD l [])))
      | none => none
    | none => none
  | _ => none
theorem s_dctT : CallS G (rDctT G.K) gDctT := by
  intro ρ hm H xs vs d hm' Q r hvs e q
  unfold gDctT at e
  split at e
  · split at e
    · rename_i xs hs
      split at e
      · rename_i l hl
        cases e
        obtain ⟨v, rfl, hv⟩ := hvs.one
        obtain ⟨p, ys, rfl, h1, h2⟩ := lst_ok r hv hs
        obtain ⟨ps, kvs, rfl, p1, p2⟩ := pairsT_rv hl h2
        refine ⟨p, ps, kvs, rfl, h1, p1, fun l hl => ?_⟩
        obtain ⟨a, b⟩ := rh_dt r hl (mrg_rk p2 (acc := []) (acc' := []) .nil)
        exact q _ _ _ b a rv_new
      · cases e
    · cases e
  · cases e
def gDctF (ds : List D) : M D := fun hm => match ds with
  | [.ref n] => match hm.get n with
    | some (.ftp xs) => match pairsK xs with
      | some l => some (.ref hm.nx, hm.new (.dk (mrgD l [])))
      | none => none
    | _ => none
  | _ => none
theorem mergeK_mrg (kvs : List (Key × V)) : mergeK [] kvs = mrgK kvs [] := rfl
theorem s_dctF : CallS G (rDctF G.K) gDctF := by
  intro ρ hm H xs vs d hm' Q r hvs e q
  unfold gDctF at e
  split at e
  · split at e
    · rename_i n xs hx
      split at e
      · rename_i l hl
        cases e
        obtain ⟨v, rfl, hv⟩ := hvs.one
        unfold RV at hv
        obtain ⟨a, ha, rfl⟩ := hv
        obtain ⟨a', ha', ob, ys, ⟨h1, h0⟩, h2⟩ := r.obj _ _ hx
        rw [ha] at ha'; cases ha'
        obtain ⟨ps, kvs, rfl, p1, p2⟩ := pairsK_rv hl h2
        refine ⟨a, ob, ps, kvs, rfl, h1, h0, p1, fun l hl => ?_⟩
        rw [mergeK_mrg]
        obtain ⟨a, b⟩ := rh_dk r hl (mrg_rk p2 (acc := []) (acc' := []) .nil)
        exact q _ _ _ b a rv_new
      · cases e
    · cases e
  · cases e
def gDict : List D → M D := orC gDctT gDctF
end
end Eng
set_option maxRecDepth 100000
set_option maxHeartbeats 4000000
/-! Sets of tuples of ints with dropped members: the table, the search. -/
namespace Eng
open PySem PySem.Spec PyProof.Rows L2

/-! ### slots -/
theorem has_in {xs : Array Nat} (r : Ris xs.toList) {j : Nat} (h : j ∈ xs.toList) : SetTable.has xs j = true := by
  obtain ⟨i, hi, e⟩ := List.getElem_of_mem h
  have e2 : xs.toList[i]? = some j := by rw [List.getElem?_eq_getElem hi, e]
  obtain ⟨c1, c2, c3⟩ := below_cut r j
  have hb : SetTable.below xs j = i := by
    rcases Nat.lt_trichotomy i (SetTable.below xs j) with k | k | k
    · exact absurd (c2 i j e2 k) (Nat.lt_irrefl _)
    · exact k.symm
    · have hl : i < xs.toList.length := hi
      have hp : SetTable.below xs j < xs.toList.length := Nat.lt_trans k hl
      have e := List.getElem?_eq_getElem hp
      exact absurd (Nat.lt_of_lt_of_le (ris_lt r e e2 k) (c3 _ _ e (Nat.le_refl _))) (Nat.lt_irrefl _)
  unfold SetTable.has
  rw [hb, ← Array.getElem?_toList, e2]
  simp
theorem has_out {xs : Array Nat} {j : Nat} (h : j ∉ xs.toList) : SetTable.has xs j = false := by
  unfold SetTable.has
  refine beq_eq_false_iff_ne.mpr fun c => h (List.mem_of_getElem? (by rw [Array.getElem?_toList]; exact c))
theorem slot_out {t : SetTable} {j : Nat} (h : j ∉ t.place.toList) : t.slot j = if SetTable.has t.dummies j = true then .dummy else .empty := by
  unfold SetTable.slot
  have e : (t.place[SetTable.below t.place j]? == some j) = false := beq_eq_false_iff_ne.mpr fun c => h (List.mem_of_getElem? (by rw [Array.getElem?_toList]; exact c))
  simp only [e]
  rfl

/-! ### the way, whatever the dummy -/
def up (d : Option Nat) (p : SetTable.Probe) : SetTable.Probe := { p with dummy := d }
abbrev NP (m : Nat) (h : Int) (c : Nat) : SetTable.Probe := nth m (runAt m (SetTable.bits h % (m + 1)) (SetTable.bits h)) c
theorem adv_up (t : SetTable) (d : Option Nat) (p : SetTable.Probe) : t.advance (up d p) = up d (adv t.mask p) := by
  rw [adv_eq]
  unfold adv up
  by_cases c : p.more > 0
  · simp only [c, if_true]
  · simp only [c, if_false]
theorem adv_NP (t : SetTable) (h : Int) (c : Nat) (d : Option Nat) : t.advance (up d (NP t.mask h c)) = up d (NP t.mask h (c + 1)) := by
  rw [adv_up]
  exact congrArg (up d) (nth_succ _ _ _).symm
theorem go_d (t : SetTable) (r : Ris t.place.toList) (rd : Ris t.dummies.toList) (hashAt : Nat → Int) (h : Int) {K : Nat} (hKp : way t.mask h K ∉ t.place.toList) (hKd : way t.mask h K ∉ t.dummies.toList) :
    ∀ (f c : Nat) (d : Option Nat), c ≤ K → K - c < f → (∀ q, c ≤ q → q < K → way t.mask h q ∈ t.place.toList ∨ way t.mask h q ∈ t.dummies.toList) →
    (∃ q i d', c ≤ q ∧ q < K ∧ t.place.toList[i]? = some (way t.mask h q) ∧ hashAt i = h ∧ (∀ q' i', c ≤ q' → q' < q → t.place.toList[i']? = some (way t.mask h q') → hashAt i' ≠ h) ∧
      SetTable.probe.go t hashAt h f (up d (NP t.mask h c)) = some (.candidate (way t.mask h q) i (up d' (NP t.mask h (q + 1))))) ∨
    ((∀ q' i', c ≤ q' → q' < K → t.place.toList[i']? = some (way t.mask h q') → hashAt i' ≠ h) ∧ ∃ d', SetTable.probe.go t hashAt h f (up d (NP t.mask h c)) = some (.empty (way t.mask h K) d'))
  | 0, c, d, _, hf, _ => absurd hf (Nat.not_lt_zero _)
  | f + 1, c, d, hc, hf, hin => by
    have hj : (up d (NP t.mask h c)).j = way t.mask h c := rfl
    by_cases e : c = K
    · subst e
      refine .inr ⟨fun q' i' a b => absurd (Nat.lt_of_le_of_lt a b) (Nat.lt_irrefl _), d, ?_⟩
      unfold SetTable.probe.go
      rw [hj, slot_out hKp, has_out hKd]
      rfl
    · have hlt : c < K := Nat.lt_of_le_of_ne hc e
      rcases Classical.em (way t.mask h c ∈ t.place.toList) with hp | hp
      · obtain ⟨i, hi, ei⟩ := List.getElem_of_mem hp
        have hi2 : t.place.toList[i]? = some (way t.mask h c) := by rw [List.getElem?_eq_getElem hi, ei]
        have hs := slot_live r hi2
        by_cases hh : hashAt i = h
        · refine .inl ⟨c, i, d, Nat.le_refl _, hlt, hi2, hh, fun q' i' a b => absurd (Nat.lt_of_le_of_lt a b) (Nat.lt_irrefl _), ?_⟩
          unfold SetTable.probe.go
          rw [hj, hs]
          dsimp only
          rw [if_pos (by rw [hh]; exact beq_self_eq_true _), adv_NP]
        · have hgo : SetTable.probe.go t hashAt h (f + 1) (up d (NP t.mask h c)) = SetTable.probe.go t hashAt h f (up d (NP t.mask h (c + 1))) := by
            rw [← adv_NP]
            conv => lhs; unfold SetTable.probe.go
            rw [hj, hs]
            dsimp only
            rw [if_neg (by simpa using hh)]
          have one : ∀ i', t.place.toList[i']? = some (way t.mask h c) → hashAt i' ≠ h := fun i' hi' => by
            have s2 := slot_live r hi'
            rw [hs] at s2
            injection s2 with s2
            rw [← s2]; exact hh
          rw [hgo]
          rcases go_d t r rd hashAt h hKp hKd f (c + 1) d hlt (by omega) (fun q a b => hin q (by omega) b) with ⟨q, i2, d', a1, a2, a3, a4, a5, a6⟩ | ⟨a1, a2⟩
          · refine .inl ⟨q, i2, d', by omega, a2, a3, a4, fun q' i' b1 b2 b3 => ?_, a6⟩
            by_cases z : q' = c
            · subst z; exact one i' b3
            · exact a5 q' i' (by omega) b2 b3
          · refine .inr ⟨fun q' i' b1 b2 b3 => ?_, a2⟩
            by_cases z : q' = c
            · subst z; exact one i' b3
            · exact a1 q' i' (by omega) b2 b3
      · have hd := (hin c (Nat.le_refl _) hlt).resolve_left hp
        have hgo : SetTable.probe.go t hashAt h (f + 1) (up d (NP t.mask h c)) = SetTable.probe.go t hashAt h f (up (some (way t.mask h c)) (NP t.mask h (c + 1))) := by
          rw [← adv_NP]
          conv => lhs; unfold SetTable.probe.go
          rw [hj, slot_out hp, has_in rd hd]
          rfl
        have one : ∀ i', t.place.toList[i']? = some (way t.mask h c) → hashAt i' ≠ h := fun i' hi' => absurd (List.mem_of_getElem? hi') hp
        rw [hgo]
        rcases go_d t r rd hashAt h hKp hKd f (c + 1) (some (way t.mask h c)) hlt (by omega) (fun q a b => hin q (by omega) b) with ⟨q, i2, d', a1, a2, a3, a4, a5, a6⟩ | ⟨a1, a2⟩
        · refine .inl ⟨q, i2, d', by omega, a2, a3, a4, fun q' i' b1 b2 b3 => ?_, a6⟩
          by_cases z : q' = c
          · subst z; exact one i' b3
          · exact a5 q' i' (by omega) b2 b3
        · refine .inr ⟨fun q' i' b1 b2 b3 => ?_, a2⟩
          by_cases z : q' = c
          · subst z; exact one i' b3
          · exact a1 q' i' (by omega) b2 b3
/-- a table whose slots all are found again, dropped ones between -/
structure TabD (t : SetTable) (hs : List Int) : Prop where
  ris : Ris t.place.toList
  risD : Ris t.dummies.toList
  sz : t.place.size = hs.length
  mok : MaskOk t.mask
  fill : t.place.size + t.dummies.size ≤ t.mask
  dis : ∀ j ∈ t.place.toList, j ∉ t.dummies.toList
  reach : ∀ (i : Nat) (h : Int) (j : Nat), hs[i]? = some h → t.place.toList[i]? = some j → ∃ k, way t.mask h k = j ∧ ∀ k', k' < k → way t.mask h k' ∈ t.place.toList ∨ way t.mask h k' ∈ t.dummies.toList
theorem TabD.first {t : SetTable} {hs : List Int} (T : TabD t hs) (h : Int) : ∃ K, K < 10 * SetTable.turns t.mask ∧ way t.mask h K ∉ t.place.toList ∧ way t.mask h K ∉ t.dummies.toList ∧ ∀ k, k < K → way t.mask h k ∈ t.place.toList ∨ way t.mask h k ∈ t.dummies.toList := by
  have hlen : (t.place.toList ++ t.dummies.toList).length < t.mask + 1 := by
    have := T.fill
    rw [List.length_append, Array.length_toList, Array.length_toList]
    omega
  obtain ⟨j, hj, hn⟩ := st_missing _ (t.mask + 1) hlen
  obtain ⟨k, hk, e⟩ := nth_meets T.mok h (Nat.le_of_lt_succ hj)
  obtain ⟨K, h1, h2, h3⟩ := st_least (p := fun k => way t.mask h k ∉ t.place.toList ++ t.dummies.toList) k (by show way t.mask h k ∉ _; rw [show way t.mask h k = j from e]; exact hn)
  have h2' : ¬ (way t.mask h K ∈ t.place.toList ∨ way t.mask h K ∈ t.dummies.toList) := fun z => h2 (List.mem_append.mpr z)
  refine ⟨K, Nat.lt_of_le_of_lt h1 hk, fun z => h2' (.inl z), fun z => h2' (.inr z), fun k' hk' => ?_⟩
  rcases Classical.em (way t.mask h k' ∈ t.place.toList ++ t.dummies.toList) with c | c
  · exact List.mem_append.mp c
  · exact absurd c (h3 k' hk')
theorem TabD.before {t : SetTable} {hs : List Int} (T : TabD t hs) {h : Int} {K i j : Nat} (hK : way t.mask h K ∉ t.place.toList) (hK2 : way t.mask h K ∉ t.dummies.toList) (hi : hs[i]? = some h) (hj : t.place.toList[i]? = some j) : ∃ k, k < K ∧ way t.mask h k = j := by
  obtain ⟨k, e, hb⟩ := T.reach i h j hi hj
  rcases Nat.lt_or_ge k K with c | c
  · exact ⟨k, c, e⟩
  · exfalso
    rcases Nat.lt_or_ge K k with c' | c'
    · rcases hb K c' with z | z
      · exact hK z
      · exact hK2 z
    · have : k = K := Nat.le_antisymm c' c
      subst this
      exact hK (by rw [e]; exact List.mem_of_getElem? hj)
/-! ### a member is dropped -/
theorem erase_list {α : Type} (xs : Array α) (i : Nat) : (SetTable.eraseAt xs i).toList = xs.toList.eraseIdx i := by
  unfold SetTable.eraseAt
  rw [List.eraseIdx_eq_take_drop_succ]
  simp [List.drop_take]
  exact List.take_of_length_le (by rw [List.length_drop, Array.length_toList]; exact Nat.le_refl _)
theorem ris_nodup {l : List Nat} (r : Ris l) : l.Nodup := List.Pairwise.imp (fun h e => absurd (e ▸ h) (Nat.lt_irrefl _)) r
theorem TabD.drop {t : SetTable} {hs : List Int} (T : TabD t hs) {i : Nat} (hi : i < hs.length) : TabD (t.drop i) (hs.eraseIdx i) := by
  have hil : i < t.place.toList.length := by rw [Array.length_toList, T.sz]; exact hi
  have hj : t.place.toList[i]? = some (t.place.toList[i]) := List.getElem?_eq_getElem hil
  generalize t.place.toList[i] = j at hj
  have hja : t.place[i]? = some j := by rw [← Array.getElem?_toList]; exact hj
  have hd : t.drop i = { t with place := SetTable.eraseAt t.place i, dummies := SetTable.insertAt t.dummies (SetTable.below t.dummies j) j } := by
    unfold SetTable.drop
    rw [hja]
  have hjm : j ∈ t.place.toList := List.mem_of_getElem? hj
  have hjd := T.dis j hjm
  have hnot : t.dummies[SetTable.below t.dummies j]? ≠ some j := fun c => hjd (List.mem_of_getElem? (by rw [Array.getElem?_toList]; exact c))
  have e1 : (t.drop i).place.toList = t.place.toList.eraseIdx i := by rw [hd]; exact erase_list _ _
  have e2 : (t.drop i).dummies.toList = t.dummies.toList.take (SetTable.below t.dummies j) ++ j :: t.dummies.toList.drop (SetTable.below t.dummies j) := by rw [hd]; exact SetTable.toList_insertAt _ _ _
  have em : (t.drop i).mask = t.mask := by rw [hd]
  have md : ∀ x, x ∈ (t.drop i).dummies.toList ↔ x = j ∨ x ∈ t.dummies.toList := fun x => by rw [e2]; exact L2.mem_ins
  have s1 : (t.drop i).place.size = t.place.size - 1 := by
    rw [← Array.length_toList, e1, List.length_eraseIdx, if_pos hil, Array.length_toList]
  have s2 : (t.drop i).dummies.size = t.dummies.size + 1 := by
    have c := (below_cut T.risD j).1
    rw [← Array.length_toList, e2, len_ins _ (by rw [Array.length_toList]; exact c), Array.length_toList]
  have back : ∀ x, x ∈ t.place.toList ∨ x ∈ t.dummies.toList → x ∈ (t.drop i).place.toList ∨ x ∈ (t.drop i).dummies.toList := fun x h => by
    rcases h with h | h
    · by_cases z : x = j
      · exact .inr ((md x).mpr (.inl z))
      · refine .inl ?_
        rw [e1]
        obtain ⟨k, hk, ek⟩ := List.getElem_of_mem h
        have hki : k ≠ i := fun e => by
          subst e
          rw [List.getElem?_eq_getElem hk, ek] at hj
          exact z (Option.some.inj hj)
        rw [List.mem_eraseIdx_iff_getElem]
        exact ⟨k, hk, hki, ek⟩
    · exact .inr ((md x).mpr (.inr h))
  refine ⟨?_, ?_, ?_, ?_, ?_, ?_, ?_⟩
  · rw [e1]; exact List.Pairwise.sublist (List.eraseIdx_sublist _ _) T.ris
  · rw [hd]; exact ris_insert T.risD hnot
  · rw [s1, T.sz, List.length_eraseIdx, if_pos hi]
  · rw [em]; exact T.mok
  · have := T.fill
    rw [Array.length_toList] at hil
    rw [em, s1, s2]; omega
  · intro x hx hx2
    rw [e1] at hx
    rcases (md x).mp hx2 with z | z
    · subst z
      rw [List.mem_eraseIdx_iff_getElem?] at hx
      obtain ⟨k, hki, ek⟩ := hx
      exact hki ((List.getElem?_inj (List.getElem?_eq_some_iff.mp ek).1 (ris_nodup T.ris)).mp (ek.trans hj.symm))
    · exact T.dis x (List.mem_of_mem_eraseIdx hx) z
  · intro k h jj hk hjj
    rw [e1] at hjj
    rw [List.getElem?_eraseIdx] at hk hjj
    have fin : ∀ k2, hs[k2]? = some h → t.place.toList[k2]? = some jj → ∃ c, way (t.drop i).mask h c = jj ∧ ∀ c', c' < c → way (t.drop i).mask h c' ∈ (t.drop i).place.toList ∨ way (t.drop i).mask h c' ∈ (t.drop i).dummies.toList := fun k2 a b => by
      obtain ⟨c, h1, h2⟩ := T.reach k2 h jj a b
      rw [em]
      exact ⟨c, h1, fun c' hc' => back _ (h2 c' hc')⟩
    by_cases c : k < i
    · rw [if_pos c] at hk hjj
      exact fin k hk hjj
    · rw [if_neg c] at hk hjj
      exact fin (k + 1) hk hjj
end Eng
set_option maxRecDepth 100000
set_option maxHeartbeats 4000000
/-! Sets of tuples of ints: found or not, dropped. -/
namespace Eng
open PySem PySem.Spec PyProof.Rows L2
section
variable {P : Program} {w : World} {A : Around} {E : Value → Shared → Prop} {s : Shared}
structure SetDR (P : Program) (w : World) (h : Heap) (a : Addr) (L : List (Addr × List Int)) (es : Array (Int × Value)) (ep : Nat) (t : SetTable) : Prop where
  ob : ∃ o, h.get? a = some o ∧ o.ExactSet ∧ o.data = .set es ep t
  rows : es.toList = rowsOf P w L
  tab : TabD t (L.map fun p => thash P w p.2)
  nd : (L.map (·.2)).Nodup
  tup : ∀ p ∈ L, IsT P w h p.2 p.1
  few : L.length < 64
variable {a : Addr} {L : List (Addr × List Int)} {es : Array (Int × Value)} {ep : Nat} {t : SetTable}
theorem SetDR.size (R : SetDR P w s.heap a L es ep t) : es.size = L.length := by
  have h := congrArg List.length R.rows
  unfold rowsOf at h
  rw [Array.length_toList, List.length_map] at h
  exact h
theorem SetDR.fits (R : SetDR P w s.heap a L es ep t) : t.fits es.size = true := by
  have h1 := R.tab.sz
  rw [List.length_map] at h1
  have h2 := R.size
  have h3 := R.tab.fill
  unfold SetTable.fits SetTable.fill
  rw [Bool.and_eq_true, beq_iff_eq, decide_eq_true_eq]
  exact ⟨by omega, h3⟩
theorem SetDR.entry (R : SetDR P w s.heap a L es ep t) {i : Nat} {p : Addr × List Int} (h : L[i]? = some p) : es[i]? = some (thash P w p.2, Value.ref p.1) := by
  rw [← Array.getElem?_toList, R.rows]
  unfold rowsOf
  rw [List.getElem?_map, h] <;> rfl
theorem SetDR.gw (R : SetDR P w s.heap a L es ep t) : ¬ t.gaveWay = true := by
  unfold SetTable.gaveWay
  rw [mask_odd R.tab.mok]
  decide
/-- the search that does not add, from the c-th step of the way on -/
theorem search_d (R : SetDR P w s.heap a L es ep t) {x : Addr} {k : List Int} (xt : IsT P w s.heap k x) (rm : A.units < cLine) {K : Nat} (hKf : K < 10 * SetTable.turns t.mask)
    (hK : way t.mask (thash P w k) K ∉ t.place.toList) (hKd : way t.mask (thash P w k) K ∉ t.dummies.toList) (hKb : ∀ c, c < K → way t.mask (thash P w k) c ∈ t.place.toList ∨ way t.mask (thash P w k) c ∈ t.dummies.toList) {Q : SetFound → Shared → Prop}
    (hin : ∀ (i : Nat) p, L[i]? = some p → p.2 = k → Q (.there (some i)) s) (hout : k ∉ L.map (·.2) → ∀ j b, Q (.free j b) s) :
    ∀ (f c : Nat) (d : Option Nat) (stand : Option SetTable.Probe), stand.getD (t.probeStart (thash P w k)) = up d (NP t.mask (thash P w k) c) → c ≤ K → K - c < f →
      (∀ (i : Nat) p, L[i]? = some p → p.2 = k → ∃ c', c ≤ c' ∧ c' < K ∧ t.place.toList[i]? = some (way t.mask (thash P w k) c')) →
      wpAny (model P w) A (setSearchFrom a (.ref x) (thash P w k) false f stand) Q E s
  | 0, c, d, stand, _, _, hf, _ => absurd hf (Nat.not_lt_zero _)
  | f + 1, c, d, stand, sta, hc, hf, lat => by
    obtain ⟨o, obj, exa, dat⟩ := R.ob
    rw [setSearchFrom_succ]
    refine wpAny_bind (wpAny_setState_of obj dat R.fits ?_)
    dsimp only
    refine wp_if_neg R.gw ?_
    try refine wpAny_bind (wpAny_pure ?_)
    have hsOf : ∀ (i : Nat) p, L[i]? = some p → (fun i => (es[i]?.map (·.1)).getD 0) i = thash P w p.2 := fun i p at_ => by
      show (es[i]?.map (·.1)).getD 0 = _
      rw [R.entry at_] <;> rfl
    rcases go_d t R.tab.ris R.tab.risD (fun i => (es[i]?.map (·.1)).getD 0) (thash P w k) hK hKd (10 * SetTable.turns t.mask) c d hc (by omega) (fun q _ b => hKb q b) with ⟨q, i, d', hcq, qlt, hsat, hsh, nob, prb⟩ | ⟨nob, d', prb⟩
    · have prb' : t.probe (fun i => (es[i]?.map (·.1)).getD 0) (thash P w k) (stand.getD (t.probeStart (thash P w k))) = some (.candidate (way t.mask (thash P w k) q) i (up d' (NP t.mask (thash P w k) (q + 1)))) := by
        rw [sta]; exact prb
      rw [prb']
      dsimp only
      have ilt : i < L.length := by
        have h1 : i < t.place.toList.length := (List.getElem?_eq_some_iff.mp hsat).1
        have h2 := R.tab.sz
        rw [List.length_map] at h2
        rw [Array.length_toList] at h1
        omega
      have at_ : L[i]? = some L[i] := List.getElem?_eq_getElem ilt
      generalize hpe : L[i] = p at at_
      have pin : p ∈ L := List.mem_of_getElem? at_
      have pit := R.tup p pin
      have liv : t.slot (way t.mask (thash P w k) q) = .live i := slot_live R.tab.ris hsat
      have rest : wpAny (model P w) A (searchRest a (.ref x) (thash P w k) false f es t (way t.mask (thash P w k) q) i (up d' (NP t.mask (thash P w k) (q + 1)))) Q E s := by
        unfold searchRest
        rw [R.entry at_]
        dsimp only
        refine wpAny_bind (wpAny_holding (wpAny_eqBool_tuple rm pit xt ?_))
        refine wpAny_bind (wpAny_setState_of obj dat R.fits ?_)
        dsimp only
        refine wp_if_neg (by simp) ?_
        try refine wpAny_bind (wpAny_pure ?_)
        rw [sameMem]
        dsimp only
        simp only [if_true, liv, R.entry at_]
        refine wpAny_bind (wpAny_isSame_ref_self (wpAny_bind (wpAny_pure ?_)))
        simp only [if_true]
        by_cases eqk : p.2 = k
        · refine wp_if_pos (by simp [eqk]) ?_
          exact wpAny_pure (hin i p at_ eqk)
        · refine wp_if_neg (by simp [eqk]) ?_
          refine search_d R xt rm hKf hK hKd hKb hin hout f (q + 1) d' _ rfl qlt (by omega) fun i₀ p₀ pmem keq => ?_
          obtain ⟨c', u1, u2, u3⟩ := lat i₀ p₀ pmem keq
          refine ⟨c', ?_, u2, u3⟩
          rcases Nat.lt_or_ge c' q with z | z
          · exfalso
            exact nob c' i₀ u1 z u3 ((hsOf i₀ p₀ pmem).trans (congrArg (thash P w) keq))
          · rcases Nat.lt_or_ge q c' with y | y
            · omega
            · exfalso
              have ec : c' = q := Nat.le_antisymm y z
              rw [ec] at u3
              have s0 := slot_live R.tab.ris u3
              rw [liv] at s0
              injection s0 with s0
              rw [← s0, at_] at pmem
              exact eqk ((congrArg Prod.snd (Option.some.inj pmem)).trans keq)
      by_cases ldd : t.led = true
      · refine wp_if_neg (by simp [ldd]) ?_
        try refine wpAny_bind (wpAny_pure ?_)
        exact rest
      · refine wp_if_pos (by simp [ldd]) ?_
        refine wpAny_bind (seen_tup xt (fun y hy => ?_) ?_)
        · obtain ⟨e, he, ee⟩ := List.mem_map.mp hy
          have memE : e ∈ es ∧ e.1 = thash P w k := by simpa using he
          have memL : e ∈ es.toList := by simpa using memE.1
          rw [R.rows] at memL
          obtain ⟨p2, pmem2, e2⟩ := List.mem_map.mp memL
          refine ⟨p2.2, p2.1, ?_, R.tup p2 pmem2⟩
          rw [← ee, ← e2]
        · refine wp_if_neg (by decide) ?_
          try refine wpAny_bind (wpAny_pure ?_)
          exact rest
    · have prb' : t.probe (fun i => (es[i]?.map (·.1)).getD 0) (thash P w k) (stand.getD (t.probeStart (thash P w k))) = some (.empty (way t.mask (thash P w k) K) d') := by
        rw [sta]; exact prb
      rw [prb']
      have hnot : k ∉ L.map (·.2) := fun mem => by
        obtain ⟨p₀, pmem, keq⟩ := List.mem_map.mp mem
        obtain ⟨i₀, ibd, e0⟩ := List.getElem_of_mem pmem
        have iat : L[i₀]? = some p₀ := by rw [List.getElem?_eq_getElem ibd, e0]
        obtain ⟨c', u1, u2, u3⟩ := lat i₀ p₀ iat keq
        exact nob c' i₀ u1 u2 u3 ((hsOf i₀ p₀ iat).trans (congrArg (thash P w) keq))
      cases d' with
      | none =>
        dsimp only
        exact wpAny_pure (hout hnot _ _)
      | some dd =>
        dsimp only
        refine wp_if_neg (by simp) ?_
        try refine wpAny_bind (wpAny_pure ?_)
        exact wpAny_pure (hout hnot _ _)
/-- whether it is there, and where -/
theorem find_d (R : SetDR P w s.heap a L es ep t) {x : Addr} {k : List Int} (xt : IsT P w s.heap k x) (rm : A.units < cLine) {Q : Option Nat → Shared → Prop}
    (hin : ∀ (i : Nat) p, L[i]? = some p → p.2 = k → Q (some i) s) (hout : k ∉ L.map (·.2) → Q none s) :
    wpAny (model P w) A (setFind a (.ref x) (thash P w k)) Q E s := by
  obtain ⟨o, obj, exa, dat⟩ := R.ob
  obtain ⟨K, hKf, hK, hKd, hKb⟩ := R.tab.first (thash P w k)
  have hbig : K < 100000 := by
    have : 10 * SetTable.turns t.mask ≤ 1420 := by
      unfold SetTable.turns
      rcases R.tab.mok with e | e | e <;> omega
    omega
  have key : ∀ f, wpAny (model P w) A (setFindIn a (.ref x) (thash P w k) (f + 1)) Q E s := fun f => by
    unfold setFindIn
    refine wpAny_bind (wpAny_setState_of obj dat R.fits ?_)
    dsimp only
    have nosc : byScan (.ref x) es = false := rfl
    refine wp_if_neg (by rw [nosc]; decide) ?_
    try refine wpAny_bind (wpAny_pure ?_)
    unfold setSearch
    refine wpAny_bind (search_d R xt rm hKf hK hKd hKb (fun i p h1 h2 => wpAny_pure (hin i p h1 h2)) (fun hn j b => wpAny_pure (hout hn)) 100000 0 none none rfl (Nat.zero_le _) (by omega) fun i p at_ hk => ?_)
    have hsat : (L.map fun p => thash P w p.2)[i]? = some (thash P w k) := by rw [List.getElem?_map, at_, ← hk] <;> rfl
    have ilt : i < t.place.toList.length := by
      have h1 : i < L.length := (List.getElem?_eq_some_iff.mp at_).1
      have h2 := R.tab.sz
      rw [List.length_map] at h2
      rw [Array.length_toList]
      omega
    have plat := List.getElem?_eq_getElem ilt
    obtain ⟨c, hc, e⟩ := R.tab.before hK hKd hsat plat
    exact ⟨c, Nat.zero_le _, hc, by rw [plat, e]⟩
  exact key 99999
end
end Eng
set_option maxRecDepth 100000
set_option maxHeartbeats 4000000
/-! Sets of tuples of ints: in, not in, discard, len, over the heap. -/
namespace Eng
open PySem PySem.Spec PySem.Calls PyProof.Rows L2
section
variable {P : Program} {w : World} {A : Around} {E : Value → Shared → Prop} {s : Shared}
variable {a : Addr} {L : List (Addr × List Int)} {es : Array (Int × Value)} {ep : Nat} {t : SetTable}
theorem SetDR.typeIs (R : SetDR P w s.heap a L es ep t) : s.TypeIs (.ref a) "set" := let ⟨o, ho, hc, _⟩ := R.ob; ⟨o, ho, hc.1⟩
theorem SetDR.tok {n : Nat} (R : SetDR P w s.heap a L es ep t) : SetDR P w ({ s with toks := n } : Shared).heap a L es ep t := R
/-- x in s, for what becomes of the answer -/
theorem contains_d (R : SetDR P w s.heap a L es ep t) {x : Addr} {k : List Int} (hx : IsT P w s.heap k x) (hu : A.units + 2 < cLine) {Q : Bool → Shared → Prop}
    (h : ∀ tk, Q (decide (k ∈ L.map (·.2))) { s with toks := tk }) : wpAny (model P w) A (contains (.ref a) (.ref x)) Q E s := by
  unfold contains
  try with_reducible refine wpAny_holding ?_
  refine wpAny_bind (wpAny_specialOf R.typeIs F.slot_set_contains.lookup ?_)
  show wpAny _ _ (if (some (Value.builtin "set.__contains__") == some Value.none) = true then _ else _) _ E s
  rw [if_neg (by rw [beq_builtin_none]; exact Bool.false_ne_true)]
  refine wpAny_bind (wpAny_callSpecialUnlessNone?_slot (name := Str.ofString "__contains__") R.typeIs F.slot_set_contains
    (wpAny_call_entry F.slot_set_contains R.typeIs entry_set_contains ?_ (F.args_set_contains_2 _ _)))
  unfold Builtin.«frozenset.__contains__» Builtin.Frozenset.oneOther
  simp only [List.isEmpty_nil, bind_assoc]
  unfold Builtin.Frozenset.addrOf Builtin.Frozenset.withSetAsKey setContains
  refine wpAny_bind (wpAny_pure ?_)
  try dsimp only
  refine wpAny_bind (wpAny_pure ?_)
  try dsimp only
  refine wpAny_bind (wpAny_tryCatch ?_)
  refine wpAny_holding ?_
  have hu1 : A.in1.units < cLine := by
    have : A.in1.units = A.units + 1 := rfl
    omega
  refine wpAny_bind ((TK P w).pyHash (A := A.in1) hu1 hx ?_)
  refine wpAny_bind (find_d (s := { s with toks := s.toks + (TK P w).draws k }) R hx hu1 (fun i p h1 h2 => ?_) fun hn => ?_)
  · refine wpAny_pure ?_
    show wpAny _ _ (PySem.ret (Value.bool true)) _ _ _
    refine wpAny_pure ⟨_, rfl, wpAny_truthy_bool ?_⟩
    have e : decide (k ∈ L.map (·.2)) = true := decide_eq_true (List.mem_map.mpr ⟨p, List.mem_of_getElem? h1, h2⟩)
    have := h (s.toks + (TK P w).draws k)
    rw [e] at this
    exact this
  · refine wpAny_pure ?_
    show wpAny _ _ (PySem.ret (Value.bool false)) _ _ _
    refine wpAny_pure ⟨_, rfl, wpAny_truthy_bool ?_⟩
    have e : decide (k ∈ L.map (·.2)) = false := decide_eq_false hn
    have := h (s.toks + (TK P w).draws k)
    rw [e] at this
    exact this
theorem in_d (R : SetDR P w s.heap a L es ep t) {x : Addr} {k : List Int} (hx : IsT P w s.heap k x) (hu : A.units + 2 < cLine) {Q : Value → Shared → Prop}
    (h : ∀ tk, Q (.bool (decide (k ∈ L.map (·.2)))) { s with toks := tk }) : wpAny (model P w) A (compareOp .In (.ref x) (.ref a)) Q E s := by
  show wpAny _ _ (do return .bool (← contains (.ref a) (.ref x))) Q E s
  exact wpAny_bind (contains_d R hx hu fun tk => wpAny_pure (h tk))
theorem notIn_d (R : SetDR P w s.heap a L es ep t) {x : Addr} {k : List Int} (hx : IsT P w s.heap k x) (hu : A.units + 2 < cLine) {Q : Value → Shared → Prop}
    (h : ∀ tk, Q (.bool (!decide (k ∈ L.map (·.2)))) { s with toks := tk }) : wpAny (model P w) A (compareOp .NotIn (.ref x) (.ref a)) Q E s := by
  show wpAny _ _ (do return .bool (!(← contains (.ref a) (.ref x)))) Q E s
  exact wpAny_bind (contains_d R hx hu fun tk => wpAny_pure (h tk))
theorem len_d (R : SetDR P w s.heap a L es ep t) {Q : Value → Shared → Prop} (h : ∀ tk t', Q (.int L.length t') { s with toks := tk }) : wpAny (model P w) A (call (.builtin "len") [.ref a]) Q E s := by
  obtain ⟨o, ho, hex, hd⟩ := R.ob
  have hs := R.size
  have hf := R.few
  refine call_len_set ho hex hd R.fits (by omega) ?_
  rw [hs]
  exact h _ _
theorem map_erase {α β : Type} (f : α → β) : ∀ (l : List α) (i : Nat), (l.eraseIdx i).map f = (l.map f).eraseIdx i
  | [], _ => rfl
  | _ :: _, 0 => rfl
  | x :: l, i + 1 => by
    show f x :: (l.eraseIdx i).map f = f x :: (l.map f).eraseIdx i
    rw [map_erase f l i]
theorem rows_erase (i : Nat) : rowsOf P w (L.eraseIdx i) = (rowsOf P w L).eraseIdx i := by
  unfold rowsOf
  rw [map_erase]
theorem SetDR.drop (R : SetDR P w s.heap a L es ep t) {i : Nat} (hi : i < L.length) : SetDR P w (s.heap.update a (Obj.putSet (SetTable.eraseAt es i) (t.drop i))) a (L.eraseIdx i) (SetTable.eraseAt es i) (ep + 1) (t.drop i) := by
  obtain ⟨o, ho, hex, hd⟩ := R.ob
  have sb : Heap.SameBut a s.heap (s.heap.update a (Obj.putSet (SetTable.eraseAt es i) (t.drop i))) := Heap.SameBut.update ..
  have hg : (s.heap.update a (Obj.putSet (SetTable.eraseAt es i) (t.drop i))).get? a = some { o with data := .set (SetTable.eraseAt es i) (ep + 1) (t.drop i) } := by
    have := Heap.get?_update_self (Obj.putSet (SetTable.eraseAt es i) (t.drop i)) ho (by rw [putSet_of _ _ hd]; rfl)
    rw [putSet_of _ _ hd] at this; exact this
  refine ⟨⟨_, hg, hex, rfl⟩, ?_, ?_, ?_, fun p hp => isT_same (R.tup p (List.mem_of_mem_eraseIdx hp)) ho hd sb, ?_⟩
  · rw [erase_list, R.rows, rows_erase]
  · have := R.tab.drop (i := i) (by rw [List.length_map]; exact hi)
    rw [map_erase]
    exact this
  · rw [map_erase]
    exact List.Pairwise.sublist (List.eraseIdx_sublist _ _) R.nd
  · rw [List.length_eraseIdx, if_pos hi]
    have := R.few
    omega
/-- s.discard(x) -/
theorem discard_d (R : SetDR P w s.heap a L es ep t) {x : Addr} {k : List Int} (hx : IsT P w s.heap k x) (hu : A.units + 2 < cLine) {Q : Value → Shared → Prop}
    (hin : ∀ (i : Nat) p h' tk es' ep' t', L[i]? = some p → p.2 = k → SetDR P w h' a (L.eraseIdx i) es' ep' t' → Heap.SameBut a s.heap h' → Q .none { s with heap := h', toks := tk })
    (hout : k ∉ L.map (·.2) → ∀ tk, Q .none { s with toks := tk }) : wpAny (model P w) A (call (.builtin "set.discard") [.ref a, .ref x]) Q E s := by
  refine wpAny_call_entry F.slot_set_discard R.typeIs F.entry_set_discard ?_ (F.args_set_discard_2 _ _)
  unfold Builtin.«set.discard» Builtin.Frozenset.oneOther
  simp only [List.isEmpty_nil, bind_assoc]
  unfold Builtin.Frozenset.addrOf Builtin.Frozenset.withSetAsKey setDiscard
  refine wpAny_bind (wpAny_pure ?_)
  try dsimp only
  refine wpAny_bind (wpAny_pure ?_)
  try dsimp only
  refine wpAny_bind (wpAny_tryCatch ?_)
  refine wpAny_holding ?_
  have hu1 : A.in1.units < cLine := by
    have : A.in1.units = A.units + 1 := rfl
    omega
  refine wpAny_bind ((TK P w).pyHash (A := A.in1) hu1 hx ?_)
  unfold setDiscardHashed
  obtain ⟨o, ho, hex, hd⟩ := R.ob
  refine wpAny_bind (find_d (s := { s with toks := s.toks + (TK P w).draws k }) R hx hu1 (fun i p h1 h2 => ?_) fun hn => ?_)
  · have hil : i < L.length := (List.getElem?_eq_some_iff.mp h1).1
    refine wpAny_bind (wpAny_setState_of (s := { s with toks := s.toks + (TK P w).draws k }) ho hd R.fits ?_)
    dsimp only
    refine wpAny_bind (wpAny_storeSet_of (s := { s with toks := s.toks + (TK P w).draws k }) ho hd ?_ ?_)
    · refine wpAny_bind (wpAny_point (wpAny_pure ?_))
      show wpAny _ _ (PySem.ret Value.none) _ _ _
      exact wpAny_pure ⟨_, rfl, hin i p _ _ _ _ _ h1 h2 (R.drop hil) (Heap.SameBut.update ..)⟩
    · have e1 : (SetTable.eraseAt es i).toList.length = (SetTable.eraseAt es i).size := Array.length_toList ..
      have e2 := R.size
      have e3 := R.few
      have e4 : (SetTable.eraseAt es i).size ≤ es.size := by
        rw [← e1, erase_list, List.length_eraseIdx, Array.length_toList]
        split <;> omega
      rw [sizeLine_eq]; omega
  · refine wpAny_pure ?_
    show wpAny _ _ (PySem.ret Value.none) _ _ _
    exact wpAny_pure ⟨_, rfl, hout hn _⟩
end
end Eng
set_option maxRecDepth 100000
set_option maxHeartbeats 6400000
/-! set(..) over a list or a tuple, whatever the loop over its items leaves. -/
namespace Eng
open PySem PySem.Spec PyProof.Rows L2
section
variable {P : Program} {w : World} {A : Around} {E : Value → Shared → Prop} {s : Shared}
/-- the new set's object, the walk's object -/
abbrev setNew (w : World) : Obj := { cls := .type "set", dict := none, data := .set #[] 0 (.fresh 0 0 (!w.params.followText "set-order")) }
abbrev itNew (T : String) (l : Addr) : Obj := { cls := .type (T ++ "_iterator"), data := .fields #[.ref l, .int 0 0] }
/-- the heap in which the loop begins -/
abbrev loopHeap (w : World) (T : String) (h : Heap) (l : Addr) : Heap := (h.push (setNew w)).push (itNew T l)
/-- what walks over l: a list or a tuple -/
def SeqAt (T : String) (h : Heap) (l : Addr) (items : Array Value) : Prop := (T = "list" ∧ h.IsList l items) ∨ (T = "tuple" ∧ h.IsTuple l items)
theorem SeqAt.obj {T : String} {h : Heap} {l : Addr} {items : Array Value} (q : SeqAt T h l items) : ∃ o n, h.get? l = some o ∧ o.cls = .type T ∧ o.data = .seq items n := by
  rcases q with ⟨rfl, o, a, b, n, c⟩ | ⟨rfl, o, a, b, n, c⟩
  · exact ⟨o, n, a, b, c⟩
  · exact ⟨o, n, a, b, c⟩
theorem SeqAt.push {T : String} {h : Heap} {l : Addr} {items : Array Value} (q : SeqAt T h l items) (o : Obj) : SeqAt T (h.push o) l items := by
  rcases q with ⟨e, u, a, r⟩ | ⟨e, u, a, r⟩
  · exact .inl ⟨e, u, Heap.get?_push_of_some _ a, r⟩
  · exact .inr ⟨e, u, Heap.get?_push_of_some _ a, r⟩
theorem SeqAt.iter {T : String} {l : Addr} {items : Array Value} {Q : Value → Shared → Prop} (q : SeqAt T s.heap l items) (h : Q (.ref s.heap.objs.size) { s with heap := s.heap.push (itNew T l) }) : wpAny (model P w) A (pyIter (.ref l)) Q E s := by
  rcases q with ⟨rfl, q⟩ | ⟨rfl, q⟩
  · exact wpAny_pyIter_list q h
  · exact wpAny_pyIter_tuple q h
theorem seq_sub {T : String} (hT : T = "list" ∨ T = "tuple") : isSubtype (.type T) (.type "set") = pure false ∧ isSubtype (.type T) (.type "frozenset") = pure false ∧ (Value.type T == Value.type "dict") = false := by
  rcases hT with e | e <;> subst e
  · exact ⟨F.sub_list_set, F.sub_list_frozenset, by decide⟩
  · exact ⟨F.sub_tuple_set, F.sub_tuple_frozenset, by decide⟩
/-- what the loop is to leave: the same world but for the heap, where Good holds -/
def Left (s : Shared) (Good : Heap → Prop) (s' : Shared) : Prop := ∃ h' tk, s' = { s with heap := h', toks := tk } ∧ Good h'
theorem set_over {l : Addr} {T : String} {items : Array Value} {Good : Heap → Prop} {Q : Value → Shared → Prop} (q : SeqAt T s.heap l items)
    (loop : ∀ (B : Around) (R : Result → Shared → Prop), B.handled = A.handled → B.units ≤ A.units + 2 → (∀ s', Left s Good s' → R (.ok (.ret .none)) s') →
      codeAny (model P w) B (.builtin "set.update.loop" ⟨[.ref s.heap.objs.size, .ref (s.heap.objs.size + 1)], []⟩) R { s with heap := loopHeap w T s.heap l })
    (h : ∀ h' tk, Good h' → Q (.ref s.heap.objs.size) { s with heap := h', toks := tk }) : wpAny (model P w) A (call (.type "set") [.ref l]) Q E s := by
  obtain ⟨ol, nl, hol, hcl, hdl⟩ := q.obj
  obtain ⟨ocls, odict, odata, oslots⟩ := ol
  simp only at hcl hdl
  subst hcl hdl
  have hT : T = "list" ∨ T = "tuple" := q.elim (fun z => .inl z.1) fun z => .inr z.1
  obtain ⟨m1, tl, k1⟩ := F.called_set.mro
  have k2 := F.called_set.made
  have k3 := F.called_set.sub
  have k4 := F.called_set.notType
  have k5 := F.called_set.canCreate
  have k6 := F.typeCall_set_1 (.ref l)
  refine wpAny_call (codeAny_of_tree (show wpAny _ _ (callAny (.type "set") _) _ _ _ from ?_))
  refine wpAny_pure ⟨Code.quiet_builtin _ (by decide +kernel), codeAny_builtin F.entry_type_call ?_⟩
  rw [Around.under_plain (weight_type_call_type "set" [.ref l] []) rfl]
  repeat (any_goals (first | assumption | wp_step))
  have made := code_set_led1 (P := P) (w := w) (A := A.in1) (s := s) (.ref l) (E := E) (Q₁ := fun o s₁ => o = .ref s.heap.objs.size ∧ s₁ = { s with heap := s.heap.push (setNew w) }) ⟨rfl, rfl⟩
  refine codeAny_mono made fun r s₁ hr => ?_
  rcases r with e | fl
  · exact hr
  cases fl with
  | ret obj =>
    obtain ⟨rfl, rfl⟩ := hr
    have hS : (s.heap.push (setNew w)).get? s.heap.objs.size = some (setNew w) := Heap.get?_push_size _ rfl
    have hTs : Shared.TypeIs { s with heap := s.heap.push (setNew w) } (.ref s.heap.objs.size) "set" := ⟨_, hS, rfl⟩
    have k7 := F.called_set.init.lookup
    have k8 := F.called_set.init.bind (.ref s.heap.objs.size)
    repeat (any_goals (first | assumption | wp_step))
    refine codeAny_mono (codeAny_call_builtin (R := wants (fun r s₂ => r = .none ∧ Left s Good s₂) E) F.called_set.init.plain F.entry_set_init (check_set_init_1 hTs ?_)) fun r₂ s₂ hr₂ => ?_
    · obtain ⟨f1, f2, f3⟩ := seq_sub hT
      have hol2 : (s.heap.push (setNew w)).get? l = some ⟨.type T, odict, .seq items nl, oslots⟩ := Heap.get?_push_of_some _ hol
      unfold Builtin.«set.__init__» noKeywords Builtin.Frozenset.updateFrom
      generalize hPI : pyIter = PI
      wp_walk
      subst hPI
      refine SeqAt.iter (q.push _) (wpAny_bind (wpAny_runValue ?_))
      have hz : (s.heap.push (setNew w)).objs.size = s.heap.objs.size + 1 := Heap.size_push ..
      show codeAny (model P w) A.in1.in1 (.builtin "set.update.loop" ⟨[.ref s.heap.objs.size, .ref (s.heap.push (setNew w)).objs.size], []⟩) _ { s with heap := loopHeap w T s.heap l }
      rw [hz]
      refine loop A.in1.in1 _ (by simp) (Nat.le_refl _) fun s' ⟨h', tk, e, g⟩ => ?_
      subst e
      exact wpAny_pure (wpAny_pure ⟨rfl, h', tk, rfl, g⟩)
    · cases r₂ with
      | error e => exact hr₂
      | ok f2 =>
        cases f2 with
        | ret r =>
          obtain ⟨rfl, h', tk, rfl, hg⟩ := hr₂
          repeat (any_goals (first | assumption | wp_step))
          exact h h' tk hg
        | _ => exact hr₂.elim
  | _ => exact hr.elim
/-- nothing stands from the heap's end on -/
theorem past {h : Heap} {b : Addr} (e : h.objs.size ≤ b) : h.get? b = none := Heap.get?_none_of_le e
theorem loop_old {h : Heap} {T : String} {l b : Addr} {o : Obj} (e : h.get? b = some o) : (loopHeap w T h l).get? b = some o := Heap.get?_push_of_some _ (Heap.get?_push_of_some _ e)
theorem loop_size {h : Heap} {T : String} {l : Addr} : (h.push (setNew w)).objs.size = h.objs.size + 1 := Heap.size_push ..
theorem loop_set {h : Heap} {T : String} {l : Addr} : (loopHeap w T h l).get? h.objs.size = some (setNew w) := Heap.get?_push_of_some _ (Heap.get?_push_size _ rfl)
/-- a walk over l is at its begin -/
theorem walk_of {B : Around} {T : String} {l : Addr} {items : Array Value} (hh : B.handled = none) (q : SeqAt T s.heap l items) : ∃ (St : Nat → Heap → Prop), Walks P w B (s.heap.objs.size + 1) [s.heap.objs.size + 1, l] [s.heap.objs.size + 1] items.size (fun i v => items[i]? = some v) St ∧ St 0 (loopHeap w T s.heap l) := by
  have hl : l < s.heap.objs.size := by
    obtain ⟨o, n, a, _⟩ := q.obj
    exact Heap.lt_size a
  have hne : l ≠ s.heap.objs.size + 1 := Nat.ne_of_lt (Nat.lt_succ_of_lt hl)
  have hg : (loopHeap w T s.heap l).get? (s.heap.objs.size + 1) = some (itNew T l) := by
    rw [← loop_size (w := w) (h := s.heap) (T := T) (l := l)]
    exact Heap.get?_push_size _ rfl
  have q2 := (q.push (setNew w)).push (itNew T l)
  rcases q with ⟨rfl, q⟩ | ⟨rfl, q⟩
  · exact ⟨_, Walks.list hh _ l hne items, ⟨_, hg, rfl, rfl⟩, q2.elim (fun z => z.2) fun z => absurd z.1 (by decide)⟩
  · exact ⟨_, Walks.tuple hh _ l hne items, ⟨_, hg, rfl, rfl⟩, q2.elim (fun z => absurd z.1 (by decide)) fun z => z.2⟩
/-- set(xs), xs a list or a tuple of tuples of ints -/
theorem set_tups {T : String} {l : Addr} {items : Array Value} (ks : List (Addr × List Int)) {Q : Value → Shared → Prop} (hh : A.handled = none) (q : SeqAt T s.heap l items) (hit : items.toList = ks.map fun p => Value.ref p.1)
    (hk : ∀ p ∈ ks, IsT P w s.heap p.2 p.1) (hf : ks.length < 64) (hu : A.units + 3 < cLine)
    (h : ∀ (h' : Heap) (tk : Nat) L es ep t, SetTR P w h' s.heap.objs.size L es ep t → Got ks ks.length L → (∀ b o, s.heap.get? b = some o → h'.get? b = some o) → Q (.ref s.heap.objs.size) { s with heap := h', toks := tk }) :
    wpAny (model P w) A (call (.type "set") [.ref l]) Q E s := by
  have hn : items.size = ks.length := by
    rw [← Array.length_toList, hit, List.length_map]
  have hl : l < s.heap.objs.size := by
    obtain ⟨o, n, a, _⟩ := q.obj
    exact Heap.lt_size a
  refine set_over (Good := fun h' => (∃ L es ep t, SetTR P w h' s.heap.objs.size L es ep t ∧ Got ks ks.length L) ∧ ∀ b o, s.heap.get? b = some o → h'.get? b = some o) q (fun B R hB hBu hR => ?_)
    fun h' tk ⟨⟨L, es, ep, t, g1, g2⟩, g3⟩ => h h' tk L es ep t g1 g2 g3
  have hb1 : B.in1.handled = none := by
    show B.handled = none
    rw [hB, hh]
  obtain ⟨St, W, st0⟩ := walk_of (P := P) (w := w) (s := s) hb1 q
  refine set_update_tups W.toS s.heap.objs.size ?_ ks hn hf (fun i v hv => ?_) s.heap hk (past (Nat.le_refl _)) (fun b hb => past ?_) ?_ items.size 0 _ (Nat.sub_zero _) (Nat.zero_le _) st0 (fun b o e => loop_old e) ⟨[], #[], 0, _, setTR_fresh (loop_set (T := T) (l := l)), Got.zero ks⟩ fun s' L es ep t mv hS g kp => ?_
  · intro z
    rcases List.mem_cons.mp z with e | z
    · exact absurd e (Nat.ne_of_lt (Nat.lt_succ_self _))
    · exact absurd (List.mem_singleton.mp z) (Nat.ne_of_gt hl)
  · have e1 : items.toList[i]? = some v := by rw [Array.getElem?_toList]; exact hv
    rw [hit, List.getElem?_map] at e1
    obtain ⟨p, e2, e3⟩ := Option.map_eq_some_iff.mp e1
    exact ⟨p, e2, e3.symm⟩
  · rw [List.mem_singleton.mp hb]
    exact Nat.le_succ _
  · have : B.in1.units = B.units + 1 := rfl
    omega
  · refine hR s' ⟨s'.heap, s'.toks, ?_, ⟨L, es, ep, t, hS, by rw [hn] at g; exact g⟩, kp⟩
    have e1 := mv.gens
    have e2 := mv.drawn
    have e3 := mv.os
    cases s'
    cases e1
    cases e2
    cases e3
    rfl
end
end Eng
set_option maxRecDepth 100000
set_option maxHeartbeats 4000000
/-! Sets of tuples of ints: the rules. -/
namespace Eng
open PySem PySem.Spec PySem.Calls PyProof.Rows L2
structure SetD0 (P : Program) (w : World) (h : Heap) (a : Addr) (L : List (Addr × List Int)) : Prop where
  ex : ∃ (es : Array (Int × Value)) (ep : Nat) (t : SetTable), (∃ o, h.get? a = some o ∧ o.ExactSet ∧ o.data = .set es ep t) ∧ es.toList = rowsOf P w L ∧ TabD t (L.map fun p => thash P w p.2) ∧ (L.map (·.2)).Nodup ∧ L.length < 64
def SetDO (P : Program) (w : World) (a : Addr) (L : List (Addr × List Int)) : HO := .ext fun h => SetD0 P w h a L
section
variable {P : Program} {w : World}
theorem SetDR.d0 {h : Heap} {a : Addr} {L : List (Addr × List Int)} {es : Array (Int × Value)} {ep : Nat} {t : SetTable} (R : SetDR P w h a L es ep t) : SetD0 P w h a L := ⟨es, ep, t, R.ob, R.rows, R.tab, R.nd, R.few⟩
theorem SetD0.full {h : Heap} {a : Addr} {L : List (Addr × List Int)} (R : SetD0 P w h a L) (ht : ∀ p ∈ L, IsT P w h p.2 p.1) : ∃ es ep t, SetDR P w h a L es ep t := by
  obtain ⟨es, ep, t, h1, h2, h3, h4, h5⟩ := R.ex
  exact ⟨es, ep, t, h1, h2, h3, h4, ht, h5⟩
theorem setDO_new {H : Hp} {h : Heap} {a : Addr} {L : List (Addr × List Int)} (R : SetD0 P w h a L) : ObjOk P w H h a (SetDO P w a L) := by
  have ⟨es, ep, t, ⟨o, ho, r⟩, q⟩ := R.ex
  refine ⟨R, ⟨o, ho⟩, fun h1 h2 p k => ?_⟩
  have ⟨es', ep', t', ⟨o', ho', r'⟩, q'⟩ := SetD0.ex p
  exact ⟨es', ep', t', ⟨o', k o' ho', r'⟩, q'⟩
theorem tabD_of {t : SetTable} {hs : List Int} (T : TabOk t hs) (h : hs.length ≤ t.mask) : TabD t hs where
  ris := T.ris
  risD := by rw [T.dm]; exact .nil
  sz := T.sz
  mok := T.mok
  fill := by rw [T.dm, T.sz]; exact h
  dis := fun j _ => by rw [T.dm]; exact fun z => nomatch z
  reach := fun i h' j a b => by
    obtain ⟨k, e1, e2⟩ := T.reach i h' j a b
    exact ⟨k, e1, fun k' hk => .inl (e2 k' hk)⟩
theorem dr_of {h : Heap} {a : Addr} {L : List (Addr × List Int)} {es : Array (Int × Value)} {ep : Nat} {t : SetTable} (R : SetTR P w h a L es ep t) : SetDR P w h a L es ep t :=
  ⟨R.ob, R.rows, tabD_of R.tab (by have := R.room; rw [List.length_map]; omega), R.nd, R.tup, R.few⟩
end
section
variable {X : Cx} {G : Gd}
/-- set(xs) -/
def rSetQ (K : PySem.W.Frag) (P : Program) (w : World) : List V → Hp → VK → Prop := fun xs H Q => ∃ (l : Addr) (ks : List (Addr × List Int)), xs = [V.ref l] ∧ (SqL K H l (ks.map fun p => V.ref p.1) ∨ SqT K H l (ks.map fun p => V.ref p.1)) ∧ (∀ p ∈ ks, SqT K H p.1 (p.2.map V.int)) ∧ ks.length < 64 ∧
  ∀ a L, H a = none → (∀ p ∈ L, p ∈ ks) → (∀ p ∈ ks, p.2 ∈ L.map (·.2)) → (L.map (·.2)).Nodup → Q (.ref a) (upd H a (SetDO P w a L))
theorem cr_setQ (hc : X.calm = true) (hu : X.A.units + 64 < cLine) : CallR X (.type "set") (rSetQ X.K X.prog X.w) := by
  intro pins s σ H xs us Q I r h
  obtain ⟨l, ks, rfl, hl, hk, hf, q⟩ := h
  rw [Vals.ref1 r]
  have hn : H s.heap.objs.size = none := I.hok.fresh (Nat.le_refl _)
  have fin : ∀ (h' : Heap) (tk : Nat) (L : List (Addr × List Int)) (es : Array (Int × Value)) (ep : Nat) (t : SetTable), SetTR X.prog X.w h' s.heap.objs.size L es ep t → Got ks ks.length L → (∀ b o, s.heap.get? b = some o → h'.get? b = some o) → EP X pins σ Q (.ref s.heap.objs.size) { s with heap := h', toks := tk } := by
    intro h' tk L es ep t R g k
    refine ⟨.ref s.heap.objs.size, upd H s.heap.objs.size (SetDO X.prog X.w s.heap.objs.size L), I.laid (t' := tk) k (Nat.le_refl _) (setDO_new (dr_of R).d0), rfl, q _ L hn (fun p hp => ?_) (fun p hp => ?_) R.nd⟩
    · exact List.mem_of_mem_take (g.sub p hp)
    · exact g.all p (by rw [List.take_length]; exact hp)
  rcases hl with hl | hl
  · obtain ⟨its, rv, pl, hz⟩ := I.list hl
    exact set_tups ks (I.ok.hd hc) (.inl ⟨rfl, pl.isList⟩) (by simpa using refs_of_vals rv) (fun p hp => I.isT (hk p hp)) hf (by omega) fin
  · obtain ⟨its, rv, pl, hz⟩ := I.tuple hl
    exact set_tups ks (I.ok.hd hc) (.inr ⟨rfl, pl⟩) (by simpa using refs_of_vals rv) (fun p hp => I.isT (hk p hp)) hf (by omega) fin
/-- the set at a is told -/
theorem Inv.setD {pins : List (Addr × Obj)} {σ : L2.St} {H : Hp} {s : Shared} {a : Addr} {L : List (Addr × List Int)} (I : Inv X pins σ H s) (ha : H a = some (SetDO X.prog X.w a L)) (hk : ∀ p ∈ L, SqT X.K H p.1 (p.2.map V.int)) : ∃ es ep t, SetDR X.prog X.w s.heap a L es ep t := by
  have R0 : SetD0 X.prog X.w s.heap a L := (I.hok a _ ha).1
  exact R0.full fun p hp => I.isT (hk p hp)
def rSetIn (neg : Bool) (K : PySem.W.Frag) (P : Program) (w : World) : R2 := fun x y H Q => ∃ (a b : Addr) (L : List (Addr × List Int)) (k : List Int), x = .ref b ∧ y = .ref a ∧ SqT K H b (k.map V.int) ∧ H a = some (SetDO P w a L) ∧ (∀ p ∈ L, SqT K H p.1 (p.2.map V.int)) ∧
  Q (.bl (if neg = true then !decide (k ∈ L.map (·.2)) else decide (k ∈ L.map (·.2)))) H
theorem op_setIn (hu : X.A.units + 2 < cLine) : OpR X (compareOp .In) (rSetIn false X.K X.prog X.w) := by
  intro pins s σ H x y v u Q I rx ry h
  obtain ⟨a, b, L, k, rfl, rfl, hb, ha, hk, q⟩ := h
  cases rx
  cases ry
  obtain ⟨es, ep, t, R⟩ := Inv.setD I ha hk
  exact in_d R (I.isT hb) hu fun tk => ⟨.bl _, H, I.tok tk, rfl, q⟩
theorem op_setNotIn (hu : X.A.units + 2 < cLine) : OpR X (compareOp .NotIn) (rSetIn true X.K X.prog X.w) := by
  intro pins s σ H x y v u Q I rx ry h
  obtain ⟨a, b, L, k, rfl, rfl, hb, ha, hk, q⟩ := h
  cases rx
  cases ry
  obtain ⟨es, ep, t, R⟩ := Inv.setD I ha hk
  exact notIn_d R (I.isT hb) hu fun tk => ⟨.bl _, H, I.tok tk, rfl, q⟩
def rSetLen (K : PySem.W.Frag) (P : Program) (w : World) : List V → Hp → VK → Prop := fun xs H Q => ∃ (a : Addr) (L : List (Addr × List Int)), xs = [V.ref a] ∧ H a = some (SetDO P w a L) ∧ (∀ p ∈ L, SqT K H p.1 (p.2.map V.int)) ∧ Q (.int L.length) H
theorem cr_setLen : CallR X (.builtin "len") (rSetLen X.K X.prog X.w) := by
  intro pins s σ H xs us Q I r h
  obtain ⟨a, L, rfl, ha, hk, q⟩ := h
  rw [Vals.ref1 r]
  obtain ⟨es, ep, t, R⟩ := Inv.setD I ha hk
  exact len_d R fun tk t' => ⟨.int _, H, I.tok tk, ⟨_, rfl⟩, q⟩
/-- s.discard(x), as a statement's call -/
def rDisc (K : PySem.W.Frag) (P : Program) (w : World) : V → List V → Hp → VK → Prop := fun x xs H Q => ∃ (a b : Addr) (L : List (Addr × List Int)) (k : List Int), x = .ref a ∧ xs = [.ref b] ∧ SqT K H b (k.map V.int) ∧ H a = some (SetDO P w a L) ∧ (∀ p ∈ L, SqT K H p.1 (p.2.map V.int)) ∧
  (∀ (i : Nat) p, L[i]? = some p → p.2 = k → Q .non (upd H a (SetDO P w a (L.eraseIdx i)))) ∧ (k ∉ L.map (·.2) → Q .non H)
theorem mt_disc (hu : X.A.units + 2 < cLine) : MtR X "set.discard" (rDisc X.K X.prog X.w) := by
  intro pins s σ H x xs v us Q I rx rxs h
  obtain ⟨a, b, L, k, rfl, rfl, hb, ha, hk, q1, q2⟩ := h
  cases rx
  rw [Vals.ref1 rxs]
  obtain ⟨es, ep, t, R⟩ := Inv.setD I ha hk
  refine discard_d R (I.isT hb) hu (fun i p h' tk es' ep' t' h1 h2 R' hs => ?_) fun hn tk => ⟨.non, H, I.tok tk, rfl, q2 hn⟩
  refine ⟨.non, _, d_write (t' := tk) I (by rw [ha]; exact True.intro) hs ?_ (setDO_new R'.d0), rfl, q1 i p h1 h2⟩
  obtain ⟨o, ho, _⟩ := R'.ob
  exact ⟨o, ho⟩
end
end Eng
set_option maxRecDepth 100000
set_option maxHeartbeats 4000000
/-! Sets of tuples of ints by functions. -/
namespace Eng
open PySem PySem.Spec PyProof.Rows L2
/-- tuples of ints -/
def tupsOf : List D → Option (List (List Int))
  | [] => some []
  | .tup xs :: r => match D.ints xs, tupsOf r with
    | some k, some l => some (k :: l)
    | _, _ => none
  | _ => none
theorem tups_rv {K : PySem.W.Frag} {ρ : Nat → Option Addr} {H : Hp} : ∀ {xs : List D} {ls : List (List Int)} {vs : List V}, tupsOf xs = some ls → RVs K ρ H xs vs → ∃ ks : List (Addr × List Int), vs = ks.map (fun p => V.ref p.1) ∧ ks.map (·.2) = ls ∧ ∀ p ∈ ks, LT K H p.1 (p.2.map V.int)
  | [], ls, vs, e, h => by
    cases e
    unfold RVs at h
    subst h
    exact ⟨[], rfl, rfl, fun p h => nomatch h⟩
  | x :: xs, ls, vs, e, h => by
    unfold RVs at h
    obtain ⟨y, r, rfl, h1, h2⟩ := h
    unfold tupsOf at e
    split at e <;> rename_i q <;> first | (cases q; done) | skip
    · injection q with q1 q2
      subst q1 q2
      split at e
      · rename_i k l e1 e2
        cases e
        obtain ⟨ks, rfl, rfl, p1⟩ := tups_rv e2 h2
        rw [ints_some e1] at h1
        unfold RV at h1
        obtain ⟨a, ys, rfl, k1, k2⟩ := h1
        rw [k2.ints] at k1
        refine ⟨(a, k) :: ks, rfl, rfl, fun p hp => ?_⟩
        rcases List.mem_cons.mp hp with rfl | hp
        · exact k1
        · exact p1 p hp
      · cases e
    · cases e
def dedup : List (List Int) → List (List Int)
  | [] => []
  | x :: xs => if xs.contains x = true then dedup xs else x :: dedup xs
theorem mem_dedup {z : List Int} : ∀ {l : List (List Int)}, z ∈ dedup l ↔ z ∈ l
  | [] => Iff.rfl
  | x :: xs => by
    unfold dedup
    split
    · rename_i c
      rw [mem_dedup, List.mem_cons]
      refine ⟨.inr, fun h => h.elim (fun e => by rw [e]; simpa using c) id⟩
    · rw [List.mem_cons, mem_dedup, List.mem_cons]
theorem nodup_dedup : ∀ l : List (List Int), (dedup l).Nodup
  | [] => .nil
  | x :: xs => by
    unfold dedup
    split
    · exact nodup_dedup xs
    · rename_i c
      refine List.nodup_cons.mpr ⟨fun h => c ?_, nodup_dedup xs⟩
      rw [mem_dedup] at h
      simpa using h
section
variable {X : Cx} {G : Gd}
def gSetQ (ds : List D) : M D := fun hm => match ds with
  | [d] => match seqOf hm d with
    | some xs => match tupsOf xs with
      | some ls => if ls.length < 64 then some (.ref hm.nx, hm.new (.st (dedup ls))) else none
      | none => none
    | none => none
  | _ => none
theorem s_setQ {P : Program} {w : World} (hS : G.SO = SetDO P w) : CallS G (rSetQ G.K P w) gSetQ := by
  intro ρ hm H xs vs d hm' Q r hvs e q
  unfold gSetQ at e
  split at e
  · split at e
    · rename_i xs hs
      split at e
      · rename_i ls hl
        split at e
        · rename_i hf
          cases e
          obtain ⟨v, rfl, hv⟩ := hvs.one
          obtain ⟨p, ys, rfl, h1, h2⟩ := seq_ok r hv hs
          obtain ⟨ks, rfl, rfl, p1⟩ := tups_rv hl h2
          refine ⟨p, ks, rfl, h1, fun p hp => (p1 p hp).sq, by rw [List.length_map] at hf; exact hf, fun a L ha m1 m2 nd => ?_⟩
          have tx : TX G.K H (upd H a (SetDO P w a L)) := TX.new ha
          have pm : (dedup (ks.map (·.2))).Perm (L.map (·.2)) := by
            refine (List.perm_ext_iff_of_nodup (nodup_dedup _) nd).mpr fun z => ?_
            rw [mem_dedup]
            constructor
            · intro h
              obtain ⟨p, hp, rfl⟩ := List.mem_map.mp h
              exact m2 p hp
            · intro h
              obtain ⟨p, hp, rfl⟩ := List.mem_map.mp h
              exact List.mem_map.mpr ⟨p, m1 p hp, rfl⟩
          obtain ⟨z1, z2⟩ := r.new (o := .st (dedup (ks.map (·.2)))) (u := SetDO P w a L) ha ⟨L, by rw [hS]; exact upd_same, fun p hp => tx _ _ (p1 p (m1 p hp)), pm, nodup_dedup _⟩
          exact q _ _ _ z2 z1 rv_new
        · cases e
      · cases e
    · cases e
  · cases e
/-- x in s, x not in s -/
def gSIn (neg : Bool) (x y : D) : M D := fun hm => match x, y with
  | .tup xs, .ref n => match D.ints xs, hm.get n with
    | some k, some (.st ls) => some (.bl (if neg = true then !ls.contains k else ls.contains k), hm)
    | _, _ => none
  | _, _ => none
theorem s_setIn {P : Program} {w : World} {neg : Bool} (hS : G.SO = SetDO P w) : OpS G (rSetIn neg G.K P w) (gSIn neg) := by
  intro ρ hm H x y v u d hm' Q r hv hu e q
  unfold gSIn at e
  split at e
  · rename_i xs n
    split at e
    · rename_i k ls hk hx
      cases e
      rw [ints_some hk] at hv
      unfold RV at hv hu
      obtain ⟨b, ys, rfl, k1, k2⟩ := hv
      rw [k2.ints] at k1
      obtain ⟨a, ha, rfl⟩ := hu
      obtain ⟨a', ha', L, h1, h2, h3, h4⟩ := r.obj _ _ hx
      rw [ha] at ha'; cases ha'
      rw [hS] at h1
      refine ⟨a, b, L, k, rfl, rfl, k1.sq, h1, fun p hp => (h2 p hp).sq, ?_⟩
      have e : decide (k ∈ L.map (·.2)) = ls.contains k := by
        rw [Bool.eq_iff_iff, decide_eq_true_iff, ← h3.mem_iff]
        simp
      rw [e]
      exact q ρ _ H Le.refl r (by unfold RV; rfl)
    · cases e
  · cases e
def gSLen (ds : List D) : M D := fun hm => match ds with
  | [.ref n] => match hm.get n with
    | some (.st ls) => some (.int ls.length, hm)
    | _ => none
  | _ => none
theorem s_setLen {P : Program} {w : World} (hS : G.SO = SetDO P w) : CallS G (rSetLen G.K P w) gSLen := by
  intro ρ hm H xs vs d hm' Q r hvs e q
  unfold gSLen at e
  split at e
  · split at e
    · rename_i n ls hx
      cases e
      obtain ⟨v, rfl, hv⟩ := hvs.one
      unfold RV at hv
      obtain ⟨a, ha, rfl⟩ := hv
      obtain ⟨a', ha', L, h1, h2, h3, h4⟩ := r.obj _ _ hx
      rw [ha] at ha'; cases ha'
      rw [hS] at h1
      refine ⟨a, L, rfl, h1, fun p hp => (h2 p hp).sq, q ρ _ H Le.refl r ?_⟩
      have := h3.length_eq
      rw [List.length_map] at this
      rw [this]; unfold RV; rfl
    · cases e
  · cases e
/-- s.discard(x) -/
def mtDisc (x : D) (as : List D) : M D := fun hm => match x, as with
  | .ref n, [.tup xs] => match D.ints xs, hm.get n with
    | some k, some (.st ls) => some (.non, hm.put n (.st (ls.erase k)) true)
    | _, _ => none
  | _, _ => none
def isS (d : D) (hm : Hm) : Bool := match d with
  | .ref n => match hm.get n with
    | some (.st _) => true
    | _ => false
  | _ => false
theorem disc_ok {P : Program} {w : World} (hS : G.SO = SetDO P w) {ρ : Nat → Option Addr} {hm : Hm} {H : Hp} {x : D} {as : List D} {v : V} {us : List V} {d : D} {hm' : Hm} {Q : VK} (r : RH G ρ H hm) (hv : RV G.K ρ H x v) (hu : RVs G.K ρ H as us) (e : mtDisc x as hm = some (d, hm')) (q : Aft G ρ H hm d hm' Q) : rDisc G.K P w v us H Q := by
  unfold mtDisc at e
  split at e
  · rename_i n xs
    split at e
    · rename_i k ls hk hx
      cases e
      obtain ⟨u, rfl, hu1⟩ := hu.one
      rw [ints_some hk] at hu1
      unfold RV at hv hu1
      obtain ⟨b, ys, rfl, k1, k2⟩ := hu1
      rw [k2.ints] at k1
      obtain ⟨a, ha, rfl⟩ := hv
      obtain ⟨a', ha', L, h1, h2, h3, h4⟩ := r.obj _ _ hx
      rw [ha] at ha'; cases ha'
      have h1' := h1
      rw [hS] at h1
      refine ⟨a, b, L, k, rfl, rfl, k1.sq, h1, fun p hp => (h2 p hp).sq, fun i p hi hp => ?_, fun hn => ?_⟩
      · have tx : TX G.K H (upd H a (SetDO P w a (L.eraseIdx i))) := TX.mut h1 (by trivial)
        have pm : (ls.erase k).Perm ((L.eraseIdx i).map (·.2)) := by
          have e1 : (L.map (·.2))[i]? = some k := by rw [List.getElem?_map, hi, ← hp]; rfl
          have nd : (L.map (·.2)).Nodup := h3.nodup_iff.mp h4
          have e2 : (L.map (·.2)).erase k = (L.map (·.2)).eraseIdx i := by
            have hi' : i < (L.map (·.2)).length := (List.getElem?_eq_some_iff.mp e1).1
            rw [List.erase_eq_eraseIdx_of_idxOf]
            · rw [← (List.getElem?_eq_some_iff.mp e1).2]
              exact nd.idxOf_getElem i hi'
          rw [map_erase, ← e2]
          exact h3.erase k
        obtain ⟨z1, z2⟩ := r.put (bb := true) (o' := .st (ls.erase k)) (u' := SetDO P w a (L.eraseIdx i)) hx ha h1 (by trivial) ⟨_, by rw [hS]; exact upd_same, fun p hp => tx _ _ (h2 p (List.mem_of_mem_eraseIdx hp)), pm, h4.erase k⟩ (fun _ _ => rfl)
        exact q ρ _ _ z2 z1 (by unfold RV; rfl)
      · have hk' : k ∉ ls := fun z => hn (h3.mem_iff.mp z)
        have e0 : ls.erase k = ls := List.erase_of_not_mem hk'
        rw [e0] at q
        -- the heap stays
        have z1 : RH G ρ H (hm.put n (.st ls) true) := by
          refine ⟨fun m o hg => ?_, fun m m' b g1 g2 => ?_, r.dom, fun m o hg hl => ?_, r.base⟩
          · rw [get_put] at hg
            by_cases c : m = n
            · subst c
              rw [if_pos rfl, hx] at hg
              cases hg
              exact ⟨a, ha, L, h1', h2, h3, h4⟩
            · rw [if_neg c] at hg; exact r.obj m o hg
          · have cv : ∀ m, ((hm.put n (.st ls) true).get m).isSome = true → (hm.get m).isSome = true := fun m g => by
              rw [get_put] at g
              by_cases c : m = n
              · subst c; rw [hx]; rfl
              · rw [if_neg c] at g; exact g
            exact r.inj m m' b (cv m g1) (cv m' g2)
          · rw [get_put] at hg
            by_cases c : m = n
            · subst c
              rw [if_pos rfl, hx] at hg
              cases hg
              rfl
            · rw [if_neg c] at hg; exact r.dn m o hg hl
        exact q ρ _ H ⟨Nat.le_refl _, fun _ _ => rfl, TX.refl⟩ z1 (by unfold RV; rfl)
    · cases e
  · cases e
def tyS (P : Program) (w : World) (x : V) (H : Hp) : Prop := ∃ a L, x = .ref a ∧ H a = some (SetDO P w a L)
theorem tyS_ok : TyOk X "set" (tyS X.prog X.w) := by
  intro pins σ H s x v I r ⟨a, L, e, ha⟩
  subst e
  cases r
  have R0 : SetD0 X.prog X.w s.heap a L := (I.hok a _ ha).1
  obtain ⟨es, ep, t, ⟨o, ho, hex, hd⟩, _⟩ := R0.ex
  refine ⟨⟨o, ho, hex.1⟩, fun b e => ?_⟩
  cases e
  exact ⟨o, ho, hex.2.1⟩
theorem isS_ty {P : Program} {w : World} (hS : G.SO = SetDO P w) {ρ : Nat → Option Addr} {hm : Hm} {H : Hp} {d : D} {v : V} (r : RH G ρ H hm) (hv : RV G.K ρ H d v) (c : isS d hm = true) : tyS P w v H := by
  unfold isS at c
  split at c
  · rename_i n
    split at c
    · rename_i xs hx
      unfold RV at hv
      obtain ⟨a, ha, rfl⟩ := hv
      obtain ⟨a', ha', L, h1, _⟩ := r.obj _ _ hx
      rw [ha] at ha'; cases ha'
      rw [hS] at h1
      exact ⟨a, L, rfl, h1⟩
    · cases c
  · cases c
theorem e_disc {o e : Expr} {fo fe : Env → M D} {apos cpos : Pos} (hK : G.K = X.K) (hS : G.SO = SetDO X.prog X.w) (hu : X.A.units + 2 < cLine) (ho : PE X o (tE G fo)) (he : PE X e (tE G fe))
    (hbase : attributeBase o "discard" X.env (eval o X.env) = eval o X.env := by rfl)
    (hfew : ((backTo cpos (starEach [e] X.env)).all (fun x => !x.1) && (backToKw cpos (keywordEach [] X.env)).all (fun x => x.1.isSome) && decide (([e] : List Expr).length + ([] : List Keyword).length + (if ([] : List Keyword).isEmpty then 0 else 1) < 30)) = true := by rfl)
    (hline : (apos.endLine == cpos.line) = true := by rfl) (hs : starEach [e] X.env = (false, eval e X.env) :: starEach [] X.env := by rfl) :
    PE X (.Call (.Attribute o "discard" apos) [e] [] cpos) (tE G (fMt "set" mtDisc isS fo (fCons fe fNil))) :=
  PE.imp (pe_mG tyS_ok PySem.F.plainAttrs_set PySem.F.slot_set_discard PySem.F.type_set_discard (mt_disc hu) ho (a_cons he a_nil hs) hbase hfew hline hs) fun σ H Q h => by
    obtain ⟨ρ, env, hm, d, hm', rs, e, q⟩ := h
    obtain ⟨x, h1, e1, e⟩ := bnd_some e
    split at e
    · rename_i cc
      obtain ⟨as, h2, e2, e⟩ := bnd_some e
      refine ⟨ρ, env, hm, x, h1, rs, e1, fun ρ1 v1 H1 l1 r1 v => ⟨isS_ty hS r1 v cc, ?_⟩⟩
      refine ⟨ρ1, env, h1, as, h2, l1.rs rs r1, e2, fun ρ2 us H2 l2 r2 u => ?_⟩
      have z := disc_ok (P := X.prog) (w := X.w) hS r2 (l2.rv r1 v) u e fun ρ3 w H3 l3 r3 z => q ρ3 w H3 (l1.trans (l2.trans l3)) r3 z
      rw [hK] at z
      exact z
    · cases e
end
end Eng
set_option maxRecDepth 100000
set_option maxHeartbeats 4000000
/-! t[::-1] of a tuple. -/
namespace Eng
open PySem PySem.Spec PyProof.Rows L2
section
variable {prog : Program} {w : World} {A : Around} {E : Value → Shared → Prop} {s : Shared}
theorem rev_applied {sl : Addr} {t : Tok} {n : Nat} {Q : Int × Int × Nat → Shared → Prop} (hs : s.heap.IsSliceOf sl .none .none (.int (-1) t))
    (h : Q ((n : Int) - 1, -1, n) s) : wpAny (model prog w) A (Builtin.Slice.sliceApplied (.ref sl) (pure (n : Int))) Q E s := by
  obtain ⟨os, hos, hcs, hds⟩ := id hs
  unfold Builtin.Slice.sliceApplied Builtin.Slice.sliceFields
  refine wpAny_bind (wpAny_bind (wpAny_field hos hds (x := .none) rfl (wpAny_bind (wpAny_field hos hds (x := .none) rfl (wpAny_bind (wpAny_field hos hds (x := .int (-1) t) rfl (wpAny_pure ?_)))))))
  refine wpAny_bind (slicePart_int ?_)
  show wpAny _ _ (if ((-1 : Int) == 0) = true then _ else _) _ _ s
  rw [if_neg (by decide)]
  refine wpAny_bind (slicePart_none (wpAny_bind (slicePart_none (wpAny_bind (wpAny_pure ?_)))))
  have e : Builtin.Slice.sliceAdjust none none (-1) (n : Int) = ((n : Int) - 1, -1) := rfl
  have e2 : Builtin.Slice.slicePlaces ((n : Int) - 1) (-1) (-1) = n := by
    unfold Builtin.Slice.slicePlaces
    rw [if_neg (by decide)]
    by_cases c : (n : Int) - 1 > -1
    · rw [if_pos c]
      have : ((n : Int) - 1 - -1 - 1) / (- -1) + 1 = (n : Int) := by
        have : (- -1 : Int) = 1 := by decide
        rw [this, Int.ediv_one]; omega
      rw [this, Int.toNat_natCast]
    · rw [if_neg c]
      have : n = 0 := by omega
      rw [this]; rfl
  show wpAny _ _ (match Builtin.Slice.sliceAdjust none none (-1) (n : Int) with | (lo, hi) => pure (lo, (-1 : Int), Builtin.Slice.slicePlaces lo hi (-1))) _ _ s
  rw [e]
  show wpAny _ _ (pure ((n : Int) - 1, (-1 : Int), Builtin.Slice.slicePlaces ((n : Int) - 1) (-1) (-1))) _ _ s
  rw [e2]
  exact wpAny_pure h
theorem pick_rev (xs : Array Value) : ((List.range xs.size).filterMap fun (m : Nat) => xs[(((xs.size : Int) - 1) + (m : Int) * (-1)).toNat]?).toArray = xs.toList.reverse.toArray := by
  congr 1
  have e : ∀ m ∈ List.range xs.size, xs[(((xs.size : Int) - 1) + (m : Int) * (-1)).toNat]? = some (xs.toList.reverse[m]?.getD .none) := fun m hm => by
    have hm' : m < xs.size := List.mem_range.mp hm
    have hi : (((xs.size : Int) - 1) + (m : Int) * (-1)).toNat = xs.size - 1 - m := by omega
    rw [hi, List.getElem?_reverse (by rw [Array.length_toList]; exact hm'), Array.length_toList, Array.getElem?_toList]
    have hlt : xs.size - 1 - m < xs.size := by omega
    rw [Array.getElem?_eq_getElem hlt]; rfl
  have key : ∀ l : List Nat, (∀ m ∈ l, m ∈ List.range xs.size) → l.filterMap (fun (m : Nat) => xs[(((xs.size : Int) - 1) + (m : Int) * (-1)).toNat]?) = l.map fun m => xs.toList.reverse[m]?.getD .none := fun l => by
    induction l with
    | nil => intro _; rfl
    | cons m l ih =>
      intro h
      rw [List.filterMap_cons, e m (h m List.mem_cons_self), List.map_cons, ih fun k hk => h k (List.mem_cons_of_mem _ hk)]
  rw [key _ fun _ h => h]
  apply List.ext_getElem?
  intro i
  rw [List.getElem?_map]
  by_cases c : i < xs.size
  · rw [List.getElem?_range c]
    have : i < xs.toList.reverse.length := by rw [List.length_reverse, Array.length_toList]; exact c
    rw [List.getElem?_eq_getElem this]; simp [List.getElem?_eq_getElem this]
  · rw [List.getElem?_eq_none (by rw [List.length_range]; omega), List.getElem?_eq_none (by rw [List.length_reverse, Array.length_toList]; omega)]; rfl
theorem getItem_tuple_rev {l sl : Addr} {items : Array Value} {t : Tok} {Q : Value → Shared → Prop} (ht : IsTup s.heap l items) (hs : s.heap.IsSliceOf sl .none .none (.int (-1) t))
    (h : Q (.ref s.heap.objs.size) { s with heap := s.heap.push { cls := .type "tuple", data := .seq items.toList.reverse.toArray } }) (hsz : items.size ≤ sizeLine) : wpAny (model prog w) A (getItem (.ref l) (.ref sl)) Q E s := by
  obtain ⟨os, hos, hcs, hds⟩ := id hs
  have hTs : s.TypeIs (.ref sl) "slice" := ⟨os, hos, hcs⟩
  have hok : sizeOk (.seq items.toList.reverse.toArray) := by
    show items.toList.reverse.toArray.size ≤ sizeLine
    rw [List.size_toArray, List.length_reverse, Array.length_toList]; exact hsz
  unfold getItem
  try with_reducible refine wpAny_holding ?_
  first | refine wpAny_bind (wpAny_pure ?_) | skip
  refine wpAny_bind (wpAny_sequenceKey ht.typeIs (by decide) ?_)
  refine wpAny_bind (wpAny_callSpecial?_slot (name := Str.ofString "__getitem__") ht.typeIs PyProof.Rows.slot_tuple_getitem
    (wpAny_call_entry PyProof.Rows.slot_tuple_getitem ht.typeIs entry_tuple_getitem ?_ (args_tuple_getitem _ _)))
  show wpAny _ _ (Builtin.Tuple.tupleItemsOf (.ref l) >>= _) _ _ s
  refine wpAny_bind (tupleItemsOf_ ht ?_)
  refine wpAny_bind (wpAny_typeOf hTs ?_)
  rw [if_pos (by decide)]
  refine wpAny_bind (rev_applied hs ?_)
  show wpAny _ _ (if (((items.size : Int) - 1) == 0 && (-1 : Int) == 1 && items.size == items.size) = true then _ else _) _ _ s
  rw [if_neg (by simp), pick_rev]
  first
    | exact wpAny_bind (m := Builtin.Tuple.tupleExact _) (wpAny_newObj_type (wpAny_pure ⟨_, rfl, wpAny_pure h⟩) hok)
    | exact wpAny_bind (m := Builtin.Tuple.tupleExact _) (wpAny_newObj_type (wpAny_bind (wpAny_pure (wpAny_pure ⟨_, rfl, wpAny_pure h⟩))) hok)
    | exact wpAny_bind (wpAny_bind (m := Builtin.Tuple.tupleExact _) (wpAny_newObj_type (wpAny_pure (wpAny_pure ⟨_, rfl, wpAny_pure h⟩)) hok))
    | exact wpAny_bind (wpAny_bind (m := Builtin.Tuple.tupleExact _) (wpAny_newObj_type (wpAny_pure ⟨_, rfl, wpAny_pure h⟩) hok))
end
section
variable {X : Cx} {G : Gd}
def tRevT (K : PySem.W.Frag) (te : TE) : TE := fun σ H Q => te σ H fun x H1 => ∃ a xs, x = .ref a ∧ SqT K H1 a xs ∧ ∀ p, H1 p = none → Q (.ref p) (upd H1 p (.tup xs.reverse))
theorem pe_revT {e : Expr} {te : TE} {k : Nat} {p1 p2 p3 pos : Pos} (he : PE X e te) : PE X (.Subscript e (.Slice none none (some (.UnaryOp .USub (.Constant (.int 1) k p1) p2)) p3) pos) (tRevT X.K te) := by
  refine ⟨fun pins s σ H Q I h => ?_⟩
  refine Subscript_ (thn (he.run pins s σ H _ I h) fun v s1 ⟨x, H1, I1, r1, a, xs, ex, hx, q⟩ => ?_)
  subst ex
  cases r1
  have hst : PO X (some (.UnaryOp .USub (.Constant (.int 1) k p1) p2)) (tPart (tUn (rU fun i => .int (-i)) (tC (.int 1)))) := po_some (pe_un un_neg pe_int)
  refine wpAny_Slice ?_
  rw [evalPart_none]
  refine wpAny_pure ?_
  refine wpAny_pure ?_
  refine thn (hst.run pins s1 σ H1 (fun o H4 => o = some (-1) ∧ H4 = H1) I1 ⟨1, rfl, -1, rfl, rfl, rfl⟩) fun vs s4 ⟨o, H4, I4, ps, eo, e4⟩ => ?_
  subst eo e4
  cases ps with
  | int i t =>
    have I5 : Inv X pins σ H4 { s4 with heap := s4.heap.push { cls := .type "slice", data := .fields #[.none, .none, .int (-1) t] } } := I4.kept (t' := s4.toks) fun b ob q => Heap.get?_push_of_some _ q
    obtain ⟨its, r, ht, hz⟩ := I5.tuple hx
    show wpAny (model X.prog X.w) X.A (subscriptTail e (.Slice none none (some (.UnaryOp .USub (.Constant (.int 1) k p1) p2)) p3) (.ref a) (.ref s4.heap.objs.size)) (EP X pins σ Q) X.xe { s4 with heap := s4.heap.push { cls := .type "slice", data := .fields #[.none, .none, .int (-1) t] } }
    refine tail_any (ops := [.ref a, .ref s4.heap.objs.size]) ht.typeIs (PyProof.Rows.slot_tuple_getitem.lookup) ?_ (by with_unfolding_all rfl)
    refine getItem_tuple_rev ht (Heap.IsSliceOf.new ..) ?_ (by rw [List.size_toArray, ← r.length]; exact hz)
    refine ⟨.ref _, _, I5.laid (t' := s4.toks) (o := .tup xs.reverse) (fun b ob q => Heap.get?_push_of_some _ q) (Nat.le_refl _) ⟨by rw [List.length_reverse]; exact hz, _, r.reverse, IsTup.new _ _⟩, rfl, q _ (I5.hok.fresh (Nat.le_refl _))⟩
/-- the items of a tuple -/
def tupOf (hm : Hm) (d : D) : Option (List D) := match d with
  | .tup xs => some xs
  | .ref n => match hm.get n with
    | some (.ftp xs) => some xs
    | _ => none
  | _ => none
theorem tupOf_ok {ρ : Nat → Option Addr} {H : Hp} {hm : Hm} {d : D} {xs : List D} {v : V} (r : RH G ρ H hm) (hv : RV G.K ρ H d v) (e : tupOf hm d = some xs) : ∃ a ys, v = .ref a ∧ SqT G.K H a ys ∧ RVs G.K ρ H xs ys := by
  unfold tupOf at e
  split at e
  · cases e
    unfold RV at hv
    obtain ⟨a, ys, rfl, h1, h2⟩ := hv
    exact ⟨a, ys, rfl, h1.sq, h2⟩
  · split at e
    · rename_i n xs' hx
      cases e
      unfold RV at hv
      obtain ⟨a, ha, rfl⟩ := hv
      obtain ⟨a', ha', ob, ys, ⟨h1, h0⟩, h2⟩ := r.obj _ _ hx
      rw [ha] at ha'; cases ha'
      exact ⟨a, ys, rfl, .inl (.inr ⟨ob, h1⟩), h2⟩
    · cases e
  · cases e
def gRevT (x : D) : M D := fun hm => match tupOf hm x with
  | some xs => some (.tup xs.reverse, hm)
  | none => none
theorem e_revT {e : Expr} {f : Env → M D} {k : Nat} {p1 p2 p3 pos : Pos} (hK : G.K = X.K) (he : PE X e (tE G f)) : PE X (.Subscript e (.Slice none none (some (.UnaryOp .USub (.Constant (.int 1) k p1) p2)) p3) pos) (tE G (fUn gRevT f)) :=
  PE.imp (pe_revT he) fun σ H Q ⟨ρ, env, hm, d, hm', rs, e, q⟩ => by
    obtain ⟨x, h1, e1, e⟩ := bnd_some e
    unfold gRevT at e
    split at e
    · rename_i xs hx
      cases e
      refine ⟨ρ, env, hm, x, _, rs, e1, fun ρ1 v1 H1 l1 r1 v => ?_⟩
      obtain ⟨a, ys, rfl, h1, h2⟩ := tupOf_ok r1 v hx
      rw [hK] at h1
      exact ⟨a, ys, rfl, h1, fun p hp => q ρ1 _ _ (l1.trans (Le.tup hp)) (r1.tup hp) (rv_tup hp h2.reverse)⟩
    · cases e
end
end Eng
set_option maxRecDepth 100000
set_option maxHeartbeats 4000000
/-! set(..) over a list or a tuple of ints. -/
namespace Eng
open PySem PySem.Spec PyProof.Rows L2
section
variable {P : Program} {w : World} {A : Around} {E : Value → Shared → Prop} {s : Shared}
theorem set_ints {T : String} {l : Addr} {items : Array Value} (ns : List Int) {Q : Value → Shared → Prop} (hh : A.handled = none) (q : SeqAt T s.heap l items) (hit : IntsAre items.toList ns) (hf : ns.length + 1 < scanBound)
    (h : ∀ (h' : Heap) (tk c : Nat), SetR w h' s.heap.objs.size (fun j => decide (j ∈ ns)) c → c ≤ ns.length → (∀ b o, s.heap.get? b = some o → h'.get? b = some o) → Q (.ref s.heap.objs.size) { s with heap := h', toks := tk }) :
    wpAny (model P w) A (call (.type "set") [.ref l]) Q E s := by
  have hn : items.size = ns.length := by
    rw [← Array.length_toList]
    exact hit.length
  have hl : l < s.heap.objs.size := by
    obtain ⟨o, n, a, _⟩ := q.obj
    exact Heap.lt_size a
  refine set_over (Good := fun h' => (∃ c, SetR w h' s.heap.objs.size (fun j => decide (j ∈ ns)) c ∧ c ≤ ns.length) ∧ ∀ b o, s.heap.get? b = some o → h'.get? b = some o) q (fun B R hB hBu hR => ?_)
    fun h' tk ⟨⟨c, g1, g2⟩, g3⟩ => h h' tk c g1 g2 g3
  have hb1 : B.in1.handled = none := by
    show B.handled = none
    rw [hB, hh]
  obtain ⟨St, W, st0⟩ := walk_of (P := P) (w := w) (s := s) hb1 q
  refine set_update_ints W.toS s.heap.objs.size ?_ ns hn hf (fun i v hv => ?_) items.size 0 _ (Nat.sub_zero _) (Nat.zero_le _) st0 ⟨0, Nat.le_refl _, setR_new_at (loop_set (T := T) (l := l))⟩ fun s' c mv hc hS => ?_
  · intro z
    rcases List.mem_cons.mp z with e | z
    · exact absurd e (Nat.ne_of_lt (Nat.lt_succ_self _))
    · exact absurd (List.mem_singleton.mp z) (Nat.ne_of_gt hl)
  · have hi : i < ns.length := by
      rw [← hn]
      exact (Array.getElem?_eq_some_iff.mp hv).1
    obtain ⟨t, e⟩ := PyProof.Rows.IntsAre.int_at hit i v (by rw [Array.getElem?_toList]; exact hv)
    exact ⟨ns[i], t, List.getElem?_eq_getElem hi, by rw [e, List.getD_eq_getElem?_getD, List.getElem?_eq_getElem hi]; rfl⟩
  · refine hR s' ⟨s'.heap, s'.toks, ?_, ⟨c, hS, by rw [← hn]; exact hc⟩, fun b o e => ?_⟩
    · have e1 := mv.gens
      have e2 := mv.drawn
      have e3 := mv.os
      cases s'
      cases e1
      cases e2
      cases e3
      rfl
    · have hb := Heap.lt_size e
      refine mv.heap b o (fun z => ?_) (loop_old e)
      rcases List.mem_cons.mp z with e | z
      · exact absurd e (Nat.ne_of_lt hb)
      · exact absurd (List.mem_singleton.mp z) (Nat.ne_of_lt (Nat.lt_succ_of_lt hb))
end
end Eng
set_option maxRecDepth 100000
set_option maxHeartbeats 4000000
/-! sorted(set(ints)), sorted(a dict of ints); len, zip of tuples that are known to the object. -/
namespace Eng
open PySem PySem.Spec PyProof.Rows L2
theorem le_total : PySem.W.TotalLe (fun x y : Int => decide (x ≤ y)) where
  trans := fun a b c h1 h2 => decide_eq_true (Int.le_trans (of_decide_eq_true h1) (of_decide_eq_true h2))
  total := fun a b => by
    rcases Int.le_total a b with h | h
    · exact .inl (decide_eq_true h)
    · exact .inr (decide_eq_true h)
def sortI (ns : List Int) : List Int := isort (fun x y => decide (x ≤ y)) ns
theorem sortI_perm (ns : List Int) : (sortI ns).Perm ns := by
  unfold sortI
  rw [isort_is le_total]
  exact List.mergeSort_perm _ _
theorem sortI_is {ys ns : List Int} (hp : ys.Perm ns) (hs : ys.Pairwise (· ≤ ·)) : ys = sortI ns := by
  unfold sortI
  have h1 : (isort (fun x y : Int => decide (x ≤ y)) ns).Pairwise (· ≤ ·) := (isort_sorted le_total ns).imp fun h => of_decide_eq_true h
  have h2 : ys.Perm (isort (fun x y : Int => decide (x ≤ y)) ns) := hp.trans (sortI_perm ns).symm
  exact h2.eq_of_pairwise (fun a b _ _ h h' => Int.le_antisymm h h') hs h1
def dedupI : List Int → List Int
  | [] => []
  | x :: xs => if xs.contains x = true then dedupI xs else x :: dedupI xs
theorem mem_dedupI {z : Int} : ∀ {l : List Int}, z ∈ dedupI l ↔ z ∈ l
  | [] => Iff.rfl
  | x :: xs => by
    unfold dedupI
    split
    · rename_i c
      rw [mem_dedupI, List.mem_cons]
      refine ⟨.inr, fun h => h.elim (fun e => by rw [e]; simpa using c) id⟩
    · rw [List.mem_cons, mem_dedupI, List.mem_cons]
theorem nodup_dedupI : ∀ l : List Int, (dedupI l).Nodup
  | [] => .nil
  | x :: xs => by
    unfold dedupI
    split
    · exact nodup_dedupI xs
    · rename_i c
      refine List.nodup_cons.mpr ⟨fun h => c ?_, nodup_dedupI xs⟩
      rw [mem_dedupI] at h
      simpa using h
section
variable {X : Cx} {G : Gd}
/-- set(ns) of a list of ints -/
def rSetLI (K : PySem.W.Frag) (w : World) : List V → Hp → VK → Prop := fun xs H Q => ∃ (l : Addr) (ns : List Int), xs = [V.ref l] ∧ SqL K H l (ns.map V.int) ∧ ns.length < 1000 ∧ ∀ a c, H a = none → c ≤ ns.length → Q (.ref a) (upd H a (SetO w a (fun j => decide (j ∈ ns)) c))
theorem cr_setLI (hc : X.calm = true) : CallR X (.type "set") (rSetLI X.K X.w) := by
  intro pins s σ H xs us Q I r h
  obtain ⟨l, ns, rfl, hl, hf, q⟩ := h
  rw [Vals.ref1 r]
  obtain ⟨its, rv, pl, hz⟩ := I.list hl
  have hn : H s.heap.objs.size = none := I.hok.fresh (Nat.le_refl _)
  refine set_ints ns (I.ok.hd hc) (.inl ⟨rfl, pl.isList⟩) (by simpa using rv.ints) (by unfold scanBound; omega) fun h' tk c R hcl k => ?_
  exact ⟨.ref s.heap.objs.size, upd H s.heap.objs.size (SetO X.w s.heap.objs.size (fun j => decide (j ∈ ns)) c), I.laid (t' := tk) k (Nat.le_refl _) (setO_new R), rfl, q _ c hn hcl⟩
def sortedSetOf (ds : List D) : M D := fun hm => match ds with
  | [d] => match lstOf hm d with
    | some xs => match D.ints xs with
      | some ns => if ns.length < 64 then some (.ref hm.nx, hm.new (.lst ((sortI (dedupI ns)).map D.int))) else none
      | none => none
    | none => none
  | _ => none
theorem e_sortedSet {x1 x2 : Str} {p1 p2 q pos : Pos} {e : Expr} {f : Env → M D} (hc : X.calm = true) (hK : G.K = X.K) (hg : Gl X x1) (hm : X.mg x1 = none) (hb : bootBuiltins x1 = some (.builtin "sorted")) (hg2 : Gl X x2) (hm2 : X.mg x2 = none) (hb2 : bootBuiltins x2 = some (.type "set"))
    (he : PE X e (tE G f)) (hn1 : x1 ≠ "__name__" := by decide) (hd1 : (x1 == ("__debug__" : Str)) = false := by decide) (hn2 : x2 ≠ "__name__" := by decide) (hd2 : (x2 == ("__debug__" : Str)) = false := by decide)
    (hs : starEach [e] X.env = (false, eval e X.env) :: starEach [] X.env := by rfl) (hp : (backTo q (starEach [] X.env)).any (·.1) = false := by rfl)
    (hs2 : starEach [.Call (.Name x2 p2) [e] [] q] X.env = (false, eval (.Call (.Name x2 p2) [e] [] q) X.env) :: starEach [] X.env := by rfl) (hp2 : (backTo pos (starEach [] X.env)).any (·.1) = false := by rfl) :
    PE X (.Call (.Name x1 p1) [.Call (.Name x2 p2) [e] [] q] [] pos) (tE G (fCall sortedSetOf (fCons f fNil))) :=
  PE.imp (pe_callB (cr_sortedSet hc) hg hm hb (pa_cons (pe_callTy (cr_setLI hc) hg2 hm2 hb2 (pa_cons he pa_nil hs) hn2 hd2 hs hp) pa_nil hs2) hn1 hd1 hs2 hp2) fun σ H Q ⟨ρ, env, hm, d, hm', rs, e, q⟩ => by
    obtain ⟨ds, h1, e1, e⟩ := bnd_some e
    obtain ⟨x, h2, e2, e1⟩ := bnd_some e1
    cases e1
    have e : (match lstOf h1 x with
      | some xs => match D.ints xs with
        | some ns => if ns.length < 64 then some (D.ref h1.nx, h1.new (.lst ((sortI (dedupI ns)).map D.int))) else none
        | none => none
      | none => none) = some (d, hm') := e
    split at e
    · rename_i xs hs
      split at e
      · rename_i ns hn
        split at e
        · rename_i hl
          cases e
          refine ⟨ρ, env, hm, x, _, rs, e2, fun ρ1 v1 H1 l1 r1 v => ?_⟩
          obtain ⟨p, ys, rfl, k1, k2⟩ := lst_ok r1 v hs
          rw [ints_some hn] at k2
          rw [k2.ints, hK] at k1
          refine ⟨p, ns, rfl, k1, by omega, fun a c ha hcl => ?_⟩
          refine ⟨a, fun j => decide (j ∈ ns), c, rfl, upd_same, by omega, fun ms pp m1 m2 m3 hpp => ?_⟩
          have nd : ms.Nodup := m1.imp fun h e => by omega
          have pm : ms.Perm (dedupI ns) := (List.perm_ext_iff_of_nodup nd (nodup_dedupI ns)).mpr fun z => by
            rw [m2 z, mem_dedupI, decide_eq_true_iff]
          have em : ms = sortI (dedupI ns) := sortI_is pm (m1.imp fun h => Int.le_of_lt h)
          have ra := r1.tup (u := SetO X.w a (fun j => decide (j ∈ ns)) c) ha
          obtain ⟨z1, z2⟩ := rh_lst (ds := (sortI (dedupI ns)).map D.int) (vs := ms.map V.int) ra hpp (by rw [em]; exact RVs.of_ints _)
          exact q _ _ _ (l1.trans ((Le.tup ha).trans z2)) z1 rv_new
        · cases e
      · cases e
    · cases e
/-- sorted(d), the keys of d ints -/
def gSortedK (ds : List D) : M D := fun hm => match ds with
  | [.ref n] => match hm.get n with
    | some (.dk kvs) => match intKeys kvs with
      | some ns => if ns.length < 64 then some (.ref hm.nx, hm.new (.lst ((sortI ns).map D.int))) else none
      | none => none
    | _ => none
  | _ => none
theorem s_sortedK : CallS G (fun xs H Q => ∃ (a : Addr) (kvs : List (Key × V)) (ks : List Int), xs = [.ref a] ∧ Rd H a (.dK kvs) ∧ kvs.map (·.1) = ks.map Sum.inl ∧ ks.length < 64 ∧
    ∀ (ys : List Int) (p : Addr), ys.Perm ks → ys.Pairwise (· ≤ ·) → H p = none → Q (.ref p) (upd H p (.lst (ys.map V.int)))) gSortedK := by
  intro ρ hm H xs vs d hm' Q r hvs e q
  unfold gSortedK at e
  split at e
  · split at e
    · rename_i n kvs hx
      split at e
      · rename_i ns hn
        split at e
        · rename_i hl
          cases e
          obtain ⟨v, rfl, hv⟩ := hvs.one
          unfold RV at hv
          obtain ⟨a, ha, rfl⟩ := hv
          obtain ⟨a', ha', ks, h1, h2⟩ := r.obj _ _ hx
          rw [ha] at ha'; cases ha'
          refine ⟨a, ks, ns, rfl, .inl h1, by rw [← h2.keys]; exact intKeys_some hn, hl, fun ys p hp hs hpp => ?_⟩
          have em := sortI_is hp hs
          exact rh_lst1 (d := (sortI ns).map D.int) r (by rw [em]; exact RVs.of_ints _) rfl rfl q p hpp
        · cases e
      · cases e
    · cases e
  · cases e
/-- len of a tuple known to the object -/
def gLenF (ds : List D) : M D := fun hm => match ds with
  | [d] => match tupOf hm d with
    | some xs => some (.int xs.length, hm)
    | none => none
  | _ => none
theorem s_lenF : CallS G (rLen G.K) gLenF := by
  intro ρ hm H xs vs d hm' Q r hvs e q
  unfold gLenF at e
  split at e
  · split at e
    · rename_i x xs hs
      cases e
      obtain ⟨v, rfl, hv⟩ := hvs.one
      obtain ⟨p, ys, rfl, h1, h2⟩ := tupOf_ok r hv hs
      refine ⟨p, ys, rfl, .inr h1, q ρ _ H Le.refl r ?_⟩
      rw [h2.length]; unfold RV; rfl
    · cases e
  · cases e
end
end Eng
set_option maxRecDepth 100000
set_option maxHeartbeats 4000000
/-! zip of two tuples, one of them known to the object; the unions of the rules. -/
namespace Eng
open PySem PySem.Spec PyProof.Rows L2
section
variable {X : Cx} {G : Gd}
/-- the object n is still that tuple -/
def chkF (n : Nat) (xs : List D) : Hm → Bool := fun hm => match hm.get n with
  | some (.ftp ys) => D.sames xs ys
  | _ => false
theorem chkF_at {n : Nat} {xs : List D} {hm : Hm} (h : chkF n xs hm = true) : hm.get n = some (.ftp xs) := by
  unfold chkF at h
  split at h
  · rename_i ys hx
    rw [hx, sames_eq _ _ h]
  · cases h
def srcZq (ds : List D) : M (List D × (Hm → Bool)) := fun hm => match ds with
  | [.tup xs, .ref m] => match hm.get m with
    | some (.ftp ys) => some ((zipD xs ys, chkF m ys), hm)
    | _ => none
  | _ => none
theorem feeds_zipF {K : PySem.W.Frag} (hK : G.K = K) {a b : Addr} {m : Nat} {xs xs2 : List D} {ys : List V} {ρ0 : Nat → Option Addr} {H0 : Hp} {hm0 : Hm} (r0 : RH G ρ0 H0 hm0) (hq : LT G.K H0 a ys) (hr : RVs G.K ρ0 H0 xs ys) (hb : ρ0 m = some b) :
    Feeds G (RZ.ItzT K a b) ρ0 H0 hm0 (zipD xs xs2) (chkF m xs2) := by
  subst hK
  have l1 := hr.length
  have at_ : ∀ {ρ : Nat → Option Addr} {H : Hp} {hm : Hm}, Le G.K ρ0 H0 hm0 ρ H hm → RH G ρ H hm → chkF m xs2 hm = true → ∃ ys2, SqT G.K H b ys2 ∧ RVs G.K ρ H xs2 ys2 := fun {ρ H hm} l r c => by
    obtain ⟨b', hb', ob, ys2, ⟨k1, _⟩, k2⟩ := r.obj _ _ (chkF_at c)
    rw [l.same m (r0.dom m b hb), hb] at hb'; cases hb'
    exact ⟨ys2, .inl (.inr ⟨ob, k1⟩), k2⟩
  refine ⟨fun i ρ H hm hi l r c => ?_, fun i ρ H hm x H' d hd l r c y => ?_, fun ρ H hm l r c => ?_⟩
  · obtain ⟨ys2, h3, h4⟩ := at_ l r c
    have l2 := h4.length
    rw [zipD_len] at hi
    exact ⟨ys, ys2, ys[i]'(by omega), ys2[i]'(by omega), (l.tx _ _ hq).sq, h3, List.getElem?_eq_getElem _, List.getElem?_eq_getElem _⟩
  · obtain ⟨ys2, h3, h4⟩ := at_ l r c
    obtain ⟨T, x', y', rfl, hT, rfl, f1, f2⟩ := y
    have k1 := f1 ys (l.tx _ _ hq).sq
    have k2 := f2 ys2 h3
    obtain ⟨u, v, e1, e2, rfl⟩ := zipD_get _ _ _ _ hd
    obtain ⟨w1, a1, a2⟩ := hr.get e1
    obtain ⟨w2, b1, b2⟩ := h4.get e2
    rw [k1] at a1; cases a1
    rw [k2] at b1; cases b1
    exact ⟨Le.tup hT, r.tup hT, rv_pair hT (l.rv r0 a2) b2⟩
  · obtain ⟨ys2, h3, h4⟩ := at_ l r c
    have l2 := h4.length
    refine ⟨ys, ys2, (l.tx _ _ hq).sq, h3, ?_⟩
    rw [zipD_len]; omega
def orZ (g g' : List D → M (List D × (Hm → Bool))) : List D → M (List D × (Hm → Bool)) := fun xs hm => match g xs hm with
  | some r => some r
  | none => g' xs hm
def srcZipA (fa : Env → M (List D)) : Src := fun env => bnd (fa env) (orZ srcZq srcZp)
theorem i_zipA {e e2 : Expr} {p pos tpos : Pos} {elts : List Expr} {kk : Nat} {fa : Env → M (List D)} (hK : G.K = X.K) (hg : Gl X "zip") (hm : X.mg "zip" = none) (ha : PA X [e, e2] (tA G fa))
    (hs : starEach [e, e2] X.env = (false, eval e X.env) :: starEach [e2] X.env := by rfl) (hpl : (backTo pos (starEach [e2] X.env)).any (·.1) = false := by rfl) :
    PI X (.Tuple elts kk tpos) (.Call (.Name "zip" p) [e, e2] [] pos) (tI G (srcZipA fa)) := PI.imp (RZ.pi_zipA hg hm ha hs hpl) fun σ H R ⟨ρ, env, hm, items, chk, hm', rs, e, q⟩ => by
  obtain ⟨ds, h2, e1, e⟩ := bnd_some e
  unfold orZ at e
  split at e
  · rename_i w hw
    cases e
    unfold srcZq at hw
    split at hw
    · rename_i xs m
      split at hw
      · rename_i ys hy
        cases hw
        refine ⟨ρ, env, hm, _, _, rs, e1, fun ρ1 vs H1 l1 r1 z => ?_⟩
        obtain ⟨v, u, rfl, z1, z2⟩ := z.two
        unfold RV at z1 z2
        obtain ⟨a, ys1, rfl, q1, v1⟩ := z1
        obtain ⟨b, hb, rfl⟩ := z2
        obtain ⟨b', hb', ob, ys2, ⟨k1, _⟩, k2⟩ := r1.obj _ _ hy
        rw [hb] at hb'; cases hb'
        have sq2 : SqT G.K H1 b ys2 := .inl (.inr ⟨ob, k1⟩)
        exact ⟨a, b, ys1, ys2, rfl, .inr ⟨by rw [← hK]; exact q1.sq, by rw [← hK]; exact sq2, q ρ1 H1 _ l1 r1 (feeds_zipF hK r1 q1 v1 hb)⟩⟩
      · cases hw
    · cases hw
  · unfold srcZp at e
    split at e
    · cases e
      refine ⟨ρ, env, hm, _, _, rs, e1, fun ρ1 vs H1 l1 r1 z => ?_⟩
      obtain ⟨v, u, rfl, z1, z2⟩ := z.two
      unfold RV at z1 z2
      obtain ⟨a, ys, rfl, q1, v1⟩ := z1
      obtain ⟨b, ys2, rfl, q2, v2⟩ := z2
      exact ⟨a, b, ys, ys2, rfl, .inr ⟨by rw [← hK]; exact q1.sq, by rw [← hK]; exact q2.sq, q ρ1 H1 _ l1 r1 (feeds_zipT hK r1 q1 v1 q2 v2)⟩⟩
    · split at e
      · rename_i hi hi2
        cases e
        refine ⟨ρ, env, hm, _, _, rs, e1, fun ρ1 vs H1 l1 r1 z => ?_⟩
        obtain ⟨v, u, rfl, z1, z2⟩ := z.two
        unfold RV at z1 z2
        obtain ⟨a, ha, rfl⟩ := z1
        obtain ⟨b, hb, rfl⟩ := z2
        obtain ⟨a', ys, ha', h1, h2⟩ := r1.items hi
        obtain ⟨b', ys2, hb', h3, h4⟩ := r1.items hi2
        rw [ha] at ha'; cases ha'
        rw [hb] at hb'; cases hb'
        exact ⟨a, b, ys, ys2, rfl, .inl ⟨by rw [← hK]; exact h1, by rw [← hK]; exact h3, q ρ1 H1 _ l1 r1 (feeds_zipL hK r1 ha hb)⟩⟩
      · cases e
    · cases e
end
end Eng
set_option maxRecDepth 100000
set_option maxHeartbeats 4000000
/-! Calls of what is built in, each by one function. -/
namespace Eng
open PySem PySem.Spec PyProof.Rows L2
section
variable {X : Cx} {G : Gd}
/-- what a text's context must give -/
structure Ok (X : Cx) (G : Gd) : Prop where
  K : G.K = X.K
  calm : X.calm = true
  so : G.SO = SetDO X.prog X.w
  hu : X.A.units + 100 < cLine
def gLenU : List D → M D := orC gLenQ (orC gLenD (orC gLenT (orC gSLen gLenF)))
theorem cr_lenU : CallR X (.builtin "len") (fun xs H Q => rLen X.K xs H Q ∨ (rLenK xs H Q ∨ (rLenT xs H Q ∨ (rSetLen X.K X.prog X.w xs H Q ∨ rLen X.K xs H Q)))) :=
  CallR.or' call_len_seq (CallR.or' call_lenD (CallR.or' call_len_dT (CallR.or' cr_setLen call_len_seq)))
theorem s_lenU (o : Ok X G) : CallS G (fun xs H Q => rLen X.K xs H Q ∨ (rLenK xs H Q ∨ (rLenT xs H Q ∨ (rSetLen X.K X.prog X.w xs H Q ∨ rLen X.K xs H Q)))) gLenU := by
  have z := CallS.or (s_lenQ (G := G)) (CallS.or s_lenD (CallS.or s_lenT (CallS.or (s_setLen (P := X.prog) (w := X.w) o.so) s_lenF)))
  rw [o.K] at z
  exact z
variable {p pos : Pos} {e : Expr} {es : List Expr} {fa : Env → M (List D)}
theorem e_len (o : Ok X G) (hg : Gl X "len") (hm : X.mg "len" = none) (ha : PA X (e :: es) (tA G fa)) (he : starEach (e :: es) X.env = (false, eval e X.env) :: starEach es X.env := by rfl) (hpl : (backTo pos (starEach es X.env)).any (·.1) = false := by rfl) :
    PE X (.Call (.Name "len" p) (e :: es) [] pos) (tE G (fCall gLenU fa)) := e_callB cr_lenU (s_lenU o) hg hm (by decide +kernel) ha (by decide) (by decide) he hpl
theorem e_int1 (o : Ok X G) (hg : Gl X "int") (hm : X.mg "int" = none) (ha : PA X (e :: es) (tA G fa)) (he : starEach (e :: es) X.env = (false, eval e X.env) :: starEach es X.env := by rfl) (hpl : (backTo pos (starEach es X.env)).any (·.1) = false := by rfl) :
    PE X (.Call (.Name "int" p) (e :: es) [] pos) (tE G (fCall gInt fa)) := e_callTy call_int1 s_int hg hm (by decide +kernel) ha (by decide) (by decide) he hpl
theorem e_abs (o : Ok X G) (hg : Gl X "abs") (hm : X.mg "abs" = none) (ha : PA X (e :: es) (tA G fa)) (he : starEach (e :: es) X.env = (false, eval e X.env) :: starEach es X.env := by rfl) (hpl : (backTo pos (starEach es X.env)).any (·.1) = false := by rfl) :
    PE X (.Call (.Name "abs" p) (e :: es) [] pos) (tE G (fCall gAbs fa)) := e_callB call_abs s_abs hg hm (by decide +kernel) ha (by decide) (by decide) he hpl
def rListA (K : PySem.W.Frag) : RC := fun xs H Q => (∃ p ys, xs = [V.ref p] ∧ (SqL K H p ys ∨ SqT K H p ys) ∧ ∀ l, H l = none → Q (V.ref l) (upd H l (.lst ys))) ∨ (rListD xs H Q ∨ ∃ d kvs, xs = [V.ref d] ∧ Rd H d (.dT kvs) ∧ ∀ p bs, H p = none → IsKeys H kvs bs → Q (V.ref p) (upd H p (.lst (bs.map V.ref))))
theorem e_list (o : Ok X G) (hg : Gl X "list") (hm : X.mg "list" = none) (ha : PA X (e :: es) (tA G fa)) (he : starEach (e :: es) X.env = (false, eval e X.env) :: starEach es X.env := by rfl) (hpl : (backTo pos (starEach es X.env)).any (·.1) = false := by rfl) :
    PE X (.Call (.Name "list" p) (e :: es) [] pos) (tE G (fCall gList fa)) := by
  have c : CallR X (.type "list") (rListA X.K) := CallR.or' call_list_of (CallR.or' (call_list_dK o.calm) (call_list_dT o.calm))
  have z : CallS G (rListA G.K) gList := CallS.or s_listQ (CallS.or s_listK s_listT)
  rw [o.K] at z
  exact e_callTy c z hg hm (by decide +kernel) ha (by decide) (by decide) he hpl
theorem e_tuple (o : Ok X G) (hg : Gl X "tuple") (hm : X.mg "tuple" = none) (ha : PA X (e :: es) (tA G fa)) (he : starEach (e :: es) X.env = (false, eval e X.env) :: starEach es X.env := by rfl) (hpl : (backTo pos (starEach es X.env)).any (·.1) = false := by rfl) :
    PE X (.Call (.Name "tuple" p) (e :: es) [] pos) (tE G (fCall gTupL fa)) := by
  have z := s_tupL (G := G)
  rw [o.K] at z
  exact e_callTy call_tuple_of z hg hm (by decide +kernel) ha (by decide) (by decide) he hpl
theorem e_tupleF (o : Ok X G) (hg : Gl X "tuple") (hm : X.mg "tuple" = none) (ha : PA X (e :: es) (tA G fa)) (he : starEach (e :: es) X.env = (false, eval e X.env) :: starEach es X.env := by rfl) (hpl : (backTo pos (starEach es X.env)).any (·.1) = false := by rfl) :
    PE X (.Call (.Name "tuple" p) (e :: es) [] pos) (tE G (fCall gTupF fa)) := by
  have z := s_tupF (G := G)
  rw [o.K] at z
  exact e_callTy cr_tupF z hg hm (by decide +kernel) ha (by decide) (by decide) he hpl
theorem e_sum (o : Ok X G) (hg : Gl X "sum") (hm : X.mg "sum" = none) (ha : PA X (e :: es) (tA G fa)) (he : starEach (e :: es) X.env = (false, eval e X.env) :: starEach es X.env := by rfl) (hpl : (backTo pos (starEach es X.env)).any (·.1) = false := by rfl) :
    PE X (.Call (.Name "sum" p) (e :: es) [] pos) (tE G (fCall gSum fa)) := by
  have z := s_sum (G := G)
  rw [o.K] at z
  exact e_callB (cr_sum o.calm) z hg hm (by decide +kernel) ha (by decide) (by decide) he hpl
theorem e_all (o : Ok X G) (hg : Gl X "all") (hm : X.mg "all" = none) (ha : PA X (e :: es) (tA G fa)) (he : starEach (e :: es) X.env = (false, eval e X.env) :: starEach es X.env := by rfl) (hpl : (backTo pos (starEach es X.env)).any (·.1) = false := by rfl) :
    PE X (.Call (.Name "all" p) (e :: es) [] pos) (tE G (fCall gAll fa)) := by
  have z := s_all (G := G)
  rw [o.K] at z
  exact e_callB (cr_all o.calm) z hg hm (by decide +kernel) ha (by decide) (by decide) he hpl
theorem e_min (o : Ok X G) (hg : Gl X "min") (hm : X.mg "min" = none) (ha : PA X (e :: es) (tA G fa)) (he : starEach (e :: es) X.env = (false, eval e X.env) :: starEach es X.env := by rfl) (hpl : (backTo pos (starEach es X.env)).any (·.1) = false := by rfl) :
    PE X (.Call (.Name "min" p) (e :: es) [] pos) (tE G (fCall gMin fa)) := by
  have z := CallS.or (s_minL (G := G)) s_minK
  rw [o.K] at z
  exact e_callB (CallR.or' (cr_min o.calm) (cr_minK o.calm)) z hg hm (by decide +kernel) ha (by decide) (by decide) he hpl
theorem e_max (o : Ok X G) (hg : Gl X "max") (hm : X.mg "max" = none) (ha : PA X (e :: es) (tA G fa)) (he : starEach (e :: es) X.env = (false, eval e X.env) :: starEach es X.env := by rfl) (hpl : (backTo pos (starEach es X.env)).any (·.1) = false := by rfl) :
    PE X (.Call (.Name "max" p) (e :: es) [] pos) (tE G (fCall gMax fa)) := by
  have z := CallS.or (s_max2 (G := G)) (CallS.or (s_maxL (G := G)) s_maxK)
  rw [o.K] at z
  exact e_callB (CallR.or' (call_max2 o.calm) (CallR.or' (cr_max o.calm) (cr_maxK o.calm))) z hg hm (by decide +kernel) ha (by decide) (by decide) he hpl
theorem e_type (o : Ok X G) (hg : Gl X "type") (hm : X.mg "type" = none) (ha : PA X (e :: es) (tA G fa)) (he : starEach (e :: es) X.env = (false, eval e X.env) :: starEach es X.env := by rfl) (hpl : (backTo pos (starEach es X.env)).any (·.1) = false := by rfl) :
    PE X (.Call (.Name "type" p) (e :: es) [] pos) (tE G (fCall gType fa)) := by
  have z := s_type (G := G)
  rw [o.K] at z
  exact e_callTy call_type1 z hg hm (by decide +kernel) ha (by decide) (by decide) he hpl
theorem e_isi (o : Ok X G) (hg : Gl X "isinstance") (hm : X.mg "isinstance" = none) (ha : PA X (e :: es) (tA G fa)) (he : starEach (e :: es) X.env = (false, eval e X.env) :: starEach es X.env := by rfl) (hpl : (backTo pos (starEach es X.env)).any (·.1) = false := by rfl) :
    PE X (.Call (.Name "isinstance" p) (e :: es) [] pos) (tE G (fCall gIsi fa)) := by
  have z := CallS.or (s_isi1 (G := G)) s_isiT
  rw [o.K] at z
  exact e_callB (CallR.or' call_isi call_isiT) z hg hm (by decide +kernel) ha (by decide) (by decide) he hpl
theorem e_dict (o : Ok X G) (hg : Gl X "dict") (hm : X.mg "dict" = none) (ha : PA X (e :: es) (tA G fa)) (he : starEach (e :: es) X.env = (false, eval e X.env) :: starEach es X.env := by rfl) (hpl : (backTo pos (starEach es X.env)).any (·.1) = false := by rfl) :
    PE X (.Call (.Name "dict" p) (e :: es) [] pos) (tE G (fCall gDict fa)) := by
  have z := CallS.or (s_dctT (G := G)) s_dctF
  rw [o.K] at z
  exact e_callTy (CallR.or' (cr_dctT o.calm (by have := o.hu; omega)) (cr_dctF o.calm)) z hg hm (by decide +kernel) ha (by decide) (by decide) he hpl
theorem e_set (o : Ok X G) (hg : Gl X "set") (hm : X.mg "set" = none) (ha : PA X (e :: es) (tA G fa)) (he : starEach (e :: es) X.env = (false, eval e X.env) :: starEach es X.env := by rfl) (hpl : (backTo pos (starEach es X.env)).any (·.1) = false := by rfl) :
    PE X (.Call (.Name "set" p) (e :: es) [] pos) (tE G (fCall gSetQ fa)) := by
  have z := s_setQ (G := G) (P := X.prog) (w := X.w) o.so
  rw [o.K] at z
  exact e_callTy (cr_setQ o.calm (by have := o.hu; omega)) z hg hm (by decide +kernel) ha (by decide) (by decide) he hpl
def gSortedU : List D → M D := orC gSortedK gSorted
theorem e_sorted (o : Ok X G) (hg : Gl X "sorted") (hm : X.mg "sorted" = none) (ha : PA X (e :: es) (tA G fa)) (he : starEach (e :: es) X.env = (false, eval e X.env) :: starEach es X.env := by rfl) (hpl : (backTo pos (starEach es X.env)).any (·.1) = false := by rfl) :
    PE X (.Call (.Name "sorted" p) (e :: es) [] pos) (tE G (fCall gSortedU fa)) := by
  have z := CallS.or (s_sortedK (G := G)) s_sorted
  rw [o.K] at z
  exact e_callB (CallR.or' (call_sortedDI o.calm) (cr_srt (by have := o.hu; omega))) z hg hm (by decide +kernel) ha (by decide) (by decide) he hpl

/-! ### operators -/
variable {a b : Expr} {f g : Env → M D}
def gInU : D → D → M D := orM (gSIn false) (orM (gDIn false) (inG false))
def gNotInU : D → D → M D := orM (gSIn true) (orM (gDIn true) (inG true))
theorem s_inU (o : Ok X G) : OpS G (fun x y H Q => rSetIn false X.K X.prog X.w x y H Q ∨ (rDIn false x y H Q ∨ (rInD X.K x y H Q ∨ rInTD false X.K x y H Q))) gInU := by
  have z := OpS.or (s_setIn (G := G) (P := X.prog) (w := X.w) (neg := false) o.so) (OpS.or (s_din (neg := false)) s_in)
  rw [o.K] at z
  exact z
theorem s_notInU (o : Ok X G) : OpS G (fun x y H Q => rSetIn true X.K X.prog X.w x y H Q ∨ (rDIn true x y H Q ∨ (rNotInD X.K x y H Q ∨ rInTD true X.K x y H Q))) gNotInU := by
  have z := OpS.or (s_setIn (G := G) (P := X.prog) (w := X.w) (neg := true) o.so) (OpS.or (s_din (neg := true)) s_notIn)
  rw [o.K] at z
  exact z
theorem r_inU (o : Ok X G) : OpR X (compareOp .In) (fun x y H Q => rSetIn false X.K X.prog X.w x y H Q ∨ (rDIn false x y H Q ∨ (rInD X.K x y H Q ∨ rInTD false X.K x y H Q))) := OpR.or (op_setIn (by have := o.hu; omega)) (OpR.or (op_din (by have := o.hu; omega)) (op_inA (by have := o.hu; omega)))
theorem r_notInU (o : Ok X G) : OpR X (compareOp .NotIn) (fun x y H Q => rSetIn true X.K X.prog X.w x y H Q ∨ (rDIn true x y H Q ∨ (rNotInD X.K x y H Q ∨ rInTD true X.K x y H Q))) := OpR.or (op_setNotIn (by have := o.hu; omega)) (OpR.or (op_dnotin (by have := o.hu; omega)) (op_notInA (by have := o.hu; omega)))
theorem t_inU (o : Ok X G) (ha : PE X a (tE G f)) (hb : PE X b (tE G g)) (hm : behindInMarks .In b = false := by rfl) : PT X (.Compare a [.In] [b] pos) (tT G (fTest (fOp gInU f g))) := t_cmp (r_inU o) (s_inU o) ha hb hm
theorem t_notInU (o : Ok X G) (ha : PE X a (tE G f)) (hb : PE X b (tE G g)) (hm : behindInMarks .NotIn b = false := by rfl) : PT X (.Compare a [.NotIn] [b] pos) (tT G (fTest (fOp gNotInU f g))) := t_cmp (r_notInU o) (s_notInU o) ha hb hm
theorem e_inU (o : Ok X G) (ha : PE X a (tE G f)) (hb : PE X b (tE G g)) (hm : behindInMarks .In b = false := by rfl) : PE X (.Compare a [.In] [b] pos) (tE G (fOp gInU f g)) := e_cmp (r_inU o) (s_inU o) ha hb hm
theorem e_notInU (o : Ok X G) (ha : PE X a (tE G f)) (hb : PE X b (tE G g)) (hm : behindInMarks .NotIn b = false := by rfl) : PE X (.Compare a [.NotIn] [b] pos) (tE G (fOp gNotInU f g)) := e_cmp (r_notInU o) (s_notInU o) ha hb hm
theorem e_add (o : Ok X G) (ha : PE X a (tE G f)) (hb : PE X b (tE G g)) : PE X (.BinOp a .Add b pos) (tE G (fOp gAdd f g)) := by
  have z := s_add (G := G)
  rw [o.K] at z
  exact e_op op_addA z ha hb
theorem e_sub (ha : PE X a (tE G f)) (hb : PE X b (tE G g)) : PE X (.BinOp a .Sub b pos) (tE G (fOp gSub f g)) := e_op op_sub s_sub ha hb
theorem e_mul (ha : PE X a (tE G f)) (hb : PE X b (tE G g)) : PE X (.BinOp a .Mult b pos) (tE G (fOp gMul f g)) := e_op op_mul s_mul ha hb
theorem e_div (ha : PE X a (tE G f)) (hb : PE X b (tE G g)) : PE X (.BinOp a .FloorDiv b pos) (tE G (fOp gDiv f g)) := e_op op_fdiv s_div ha hb
theorem e_mod (ha : PE X a (tE G f)) (hb : PE X b (tE G g)) : PE X (.BinOp a .Mod b pos) (tE G (fOp gMod f g)) := e_op op_mod s_mod ha hb
theorem e_neg (ha : PE X a (tE G f)) : PE X (.UnaryOp .USub a pos) (tE G (fUn gNeg f)) := e_un un_neg s_neg ha
theorem c_eq (o : Ok X G) (ha : PE X a (tE G f)) (hb : PE X b (tE G g)) : PT X (.Compare a [.Eq] [b] pos) (tT G (fTest (fOp (eqG true) f g))) := by
  have z := s_eq (G := G)
  rw [o.K] at z
  exact t_cmp (op_eqD (by have := o.hu; omega)) z ha hb (nobehind _ (by decide) (by decide))
theorem c_ne (o : Ok X G) (ha : PE X a (tE G f)) (hb : PE X b (tE G g)) : PT X (.Compare a [.NotEq] [b] pos) (tT G (fTest (fOp (eqG false) f g))) := by
  have z := s_ne (G := G)
  rw [o.K] at z
  exact t_cmp (op_neD (by have := o.hu; omega)) z ha hb (nobehind _ (by decide) (by decide))
theorem v_eq (o : Ok X G) (ha : PE X a (tE G f)) (hb : PE X b (tE G g)) : PE X (.Compare a [.Eq] [b] pos) (tE G (fOp (eqG true) f g)) := by
  have z := s_eq (G := G)
  rw [o.K] at z
  exact e_cmp (op_eqD (by have := o.hu; omega)) z ha hb (nobehind _ (by decide) (by decide))
theorem v_ne (o : Ok X G) (ha : PE X a (tE G f)) (hb : PE X b (tE G g)) : PE X (.Compare a [.NotEq] [b] pos) (tE G (fOp (eqG false) f g)) := by
  have z := s_ne (G := G)
  rw [o.K] at z
  exact e_cmp (op_neD (by have := o.hu; omega)) z ha hb (nobehind _ (by decide) (by decide))
theorem c_lt (o : Ok X G) (ha : PE X a (tE G f)) (hb : PE X b (tE G g)) : PT X (.Compare a [.Lt] [b] pos) (tT G (fTest (fOp gLt f g))) := by
  have z := s_lt (G := G)
  rw [o.K] at z
  exact t_cmp (op_ltA (by have := o.hu; omega)) z ha hb (nobehind _ (by decide) (by decide))
theorem v_lt (o : Ok X G) (ha : PE X a (tE G f)) (hb : PE X b (tE G g)) : PE X (.Compare a [.Lt] [b] pos) (tE G (fOp gLt f g)) := by
  have z := s_lt (G := G)
  rw [o.K] at z
  exact e_cmp (op_ltA (by have := o.hu; omega)) z ha hb (nobehind _ (by decide) (by decide))
theorem c_le (ha : PE X a (tE G f)) (hb : PE X b (tE G g)) : PT X (.Compare a [.LtE] [b] pos) (tT G (fTest (fOp gLe f g))) := t_cmp op_le s_le ha hb (nobehind _ (by decide) (by decide))
theorem c_gt (ha : PE X a (tE G f)) (hb : PE X b (tE G g)) : PT X (.Compare a [.Gt] [b] pos) (tT G (fTest (fOp gGt f g))) := t_cmp op_gt s_gt ha hb (nobehind _ (by decide) (by decide))
theorem c_ge (ha : PE X a (tE G f)) (hb : PE X b (tE G g)) : PT X (.Compare a [.GtE] [b] pos) (tT G (fTest (fOp gGe f g))) := t_cmp op_ge s_ge ha hb (nobehind _ (by decide) (by decide))
theorem v_le (ha : PE X a (tE G f)) (hb : PE X b (tE G g)) : PE X (.Compare a [.LtE] [b] pos) (tE G (fOp gLe f g)) := e_cmp op_le s_le ha hb (nobehind _ (by decide) (by decide))
theorem v_gt (ha : PE X a (tE G f)) (hb : PE X b (tE G g)) : PE X (.Compare a [.Gt] [b] pos) (tE G (fOp gGt f g)) := e_cmp op_gt s_gt ha hb (nobehind _ (by decide) (by decide))
theorem v_ge (ha : PE X a (tE G f)) (hb : PE X b (tE G g)) : PE X (.Compare a [.GtE] [b] pos) (tE G (fOp gGe f g)) := e_cmp op_ge s_ge ha hb (nobehind _ (by decide) (by decide))
theorem c_isN (ha : PE X a (tE G f)) (hb : PE X b (tE G g)) : PT X (.Compare a [.Is] [b] pos) (tT G (fTest (fOp (gIsN false) f g))) := t_cmp op_isN s_isN ha hb (nobehind _ (by decide) (by decide))
theorem c_notN (ha : PE X a (tE G f)) (hb : PE X b (tE G g)) : PT X (.Compare a [.IsNot] [b] pos) (tT G (fTest (fOp (gIsN true) f g))) := t_cmp op_notN s_notN ha hb (nobehind _ (by decide) (by decide))
theorem v_isN (ha : PE X a (tE G f)) (hb : PE X b (tE G g)) : PE X (.Compare a [.Is] [b] pos) (tE G (fOp (gIsN false) f g)) := e_cmp op_isN s_isN ha hb (nobehind _ (by decide) (by decide))
theorem v_notN (ha : PE X a (tE G f)) (hb : PE X b (tE G g)) : PE X (.Compare a [.IsNot] [b] pos) (tE G (fOp (gIsN true) f g)) := e_cmp op_notN s_notN ha hb (nobehind _ (by decide) (by decide))
theorem c_isT (ha : PE X a (tE G f)) (hb : PE X b (tE G g)) : PT X (.Compare a [.Is] [b] pos) (tT G (fTest (fOp gIsT f g))) := t_cmp op_isTy s_isT ha hb (nobehind _ (by decide) (by decide))
theorem v_isT (ha : PE X a (tE G f)) (hb : PE X b (tE G g)) : PE X (.Compare a [.Is] [b] pos) (tE G (fOp gIsT f g)) := e_cmp op_isTy s_isT ha hb (nobehind _ (by decide) (by decide))
end
end Eng
set_option maxRecDepth 100000
set_option maxHeartbeats 4000000
/-! What the texts that a script prints lean on: contexts, calls of defs. -/
namespace Eng
open PySem PySem.Spec PyProof.Rows L2
/-- the facts of a context that every text uses -/
theorem okOf {P : Program} {w : World} {K : PySem.W.Frag} {mg : Str → Option Value} {base : Heap} {N : List Str} {qual : Str} {sc : Scope} {f : Addr} {cdv : Value} {A : Around} {outer : List PySem.Env} {s : Shared} {H : Hp} {E : XK} {G : Gd} {k : Nat}
    (hK : G.K = K) (hS : G.SO = SetDO P w) (hr : Room k (A.deeper (envOfC qual sc s.heap.objs.size f cdv))) : Ok (cxOf CX0 P w K mg base N qual sc f cdv A outer s H E).nox G where
  K := hK
  calm := by rfl
  so := hS
  hu := by
    have := hr.un
    show (A.deeper (envOfC qual sc s.heap.objs.size f cdv)).units + 100 < cLine
    omega
/-- a def that can be called -/
structure Cal (P : Program) (w : World) (K : PySem.W.Frag) (mg : Str → Option Value) (base : Heap) (G : Gd) (x : Str) (k n : Nat) (g : List D → M D) (dvs : List D) where
  f : Addr
  fd : FuncData
  ps : List Str
  ds : List Value
  dv : List V
  ok : FnOk P w K mg base CX0 k f fd ps (spD G n g)
  kp : PySem.W.keepIn K (.ref f) = true
  m : mg x = some (.ref f)
  b : Binds K fd ps ds
  d : Vals dv ds
  fl : flats dvs dv
section
variable {X : Cx} {G : Gd}
theorem e_cal {x : Str} {k n : Nat} {g : List D → M D} {dvs : List D} {p pos : Pos} {e : Expr} {es : List Expr} {fa : Env → M (List D)} (C : Cal X.prog X.w X.K X.mg X.base G x k n g dvs) (hr : Room k X.A) (hg : Gl X x) (ha : PA X (e :: es) (tA G fa)) (hdb : (x == ("__debug__" : Str)) = false := by decide)
    (he : starEach (e :: es) X.env = (false, eval e X.env) :: starEach es X.env := by rfl) (hpl : (backTo pos (starEach es X.env)).any (·.1) = false := by rfl) : PE X (.Call (.Name x p) (e :: es) [] pos) (tE G (fCallD n g dvs fa)) := e_call C.ok hr hg C.m C.kp C.b C.d C.fl ha hdb he hpl
theorem e_cal0 {x : Str} {k n : Nat} {g : List D → M D} {dvs : List D} {p pos : Pos} (C : Cal X.prog X.w X.K X.mg X.base G x k n g dvs) (hr : Room k X.A) (hg : Gl X x) (hdb : (x == ("__debug__" : Str)) = false := by decide) : PE X (.Call (.Name x p) [] [] pos) (tE G (fCallD n g dvs fNil)) := e_call0 C.ok hr hg C.m C.kp C.b C.d C.fl hdb
def cPow (i j : Int) : Bool := decide (0 ≤ j) && (decide (j ≤ 1000000) && decide (i.natAbs < 18446744073709551616))
theorem cPow_ok (i j : Int) (h : cPow i j = true) : CPow i j := by
  unfold cPow at h
  rw [Bool.and_eq_true, Bool.and_eq_true] at h
  exact ⟨of_decide_eq_true h.1, of_decide_eq_true h.2.1, of_decide_eq_true h.2.2⟩
def gPow : D → D → M D := iop cPow fun i j => .int (i ^ j.toNat)
theorem e_pow {a b : Expr} {f g : Env → M D} {pos : Pos} (ha : PE X a (tE G f)) (hb : PE X b (tE G g)) : PE X (.BinOp a .Pow b pos) (tE G (fOp gPow f g)) := e_op op_pow (iop_s cPow_ok fun _ _ => rfl) ha hb
/-- the name of a built-in type -/
theorem e_tyn {x : Str} {T : String} {pos : Pos} (hg : Gl X x) (hm : X.mg x = none) (hv : bootBuiltins x = some (.type T)) (hn : x ≠ "__name__" := by decide) (hd : (x == ("__debug__" : Str)) = false := by decide) : PE X (.Name x pos) (tE G (fC (.ty T))) := e_c (pe_bltn (v := .ty T) hg hm hv rfl hn hd) rfl
/-- a bool's value as a test, by the expression's own value -/
theorem t_of {e : Expr} {f : Env → M D} (h : PE X e (tE G f)) (he : ∀ whole, isTrue e X.env whole = (do let v ← whole; standAt e.pos; holding [v] (truthy v)) := by intro _; rfl) : PT X e (tT G (fTest f)) := t_val h he
end
theorem Ok.u1 {X : Cx} {G : Gd} (o : Ok X G) : X.A.units + 1 < cLine := by have := o.hu; omega
theorem Ok.u2 {X : Cx} {G : Gd} (o : Ok X G) : X.A.units + 2 < cLine := by have := o.hu; omega
/-- inside a comprehension -/
theorem okBlk {X : Cx} {G : Gd} (o : Ok X G) {s : Shared} {H : Hp} {scope : Scope} {env : PySem.Env} {fp : List Addr} : Ok (X.blk s H scope env fp) G where
  K := o.K
  calm := o.calm
  so := o.so
  hu := by
    have := o.hu
    exact this
end Eng
set_option maxRecDepth 100000
set_option maxHeartbeats 4000000
/-! Defs with defaults. -/
namespace Eng
open PySem PySem.Spec PyProof.Rows L2
/-- a def behind the top, with or without defaults -/
structure FunA (K : PySem.W.Frag) (x qual : Str) (st : Stmt) (f : Addr) (fd : FuncData) : Prop where
  ex : ∃ (oc : Value) (od : Option Addr) (dV kV doc pm : Value) (an : Option Addr) (cdv ct : Value) (osl : Array (Option Value)),
    fd = PySem.W.fnOf x qual (defArgs st) (defBody st) (defScope st) dV kV doc pm an cdv ct ∧ K.lookup f = some ⟨oc, od, .func fd, osl⟩ ∧ PySem.W.codeIn K cdv qual = true
theorem def_okA {P : Program} {w : World} {K : PySem.W.Frag} {mg : Str → Option Value} {base : Heap} {G : Gd} {x qual : Str} {st : Stmt} {f : Addr} {fd : FuncData} {N ps : List Str} {k n m : Nat} {body : Env → M Fl} (F : FunA K x qual st f fd) (S : FnScope N ps (defScope st)) (hn : ps.length = n) (hm : N.length = m)
    (hb : ∀ (cdv : Value) (A : Around) (outer : List PySem.Env) (s : Shared) (H : Hp) (E : XK), Room k (A.deeper (envOfC qual (defScope st) s.heap.objs.size f cdv)) → PSs (cxOf CX0 P w K mg base N qual (defScope st) f cdv A outer s H E).nox (defBody st) (tS G body)) :
    FnOk P w K mg base CX0 (k + 1) f fd ps (spD G n (fDef m body)) := by
  subst hm
  obtain ⟨oc, od, dV, kV, doc, pm, an, cdv, ct, osl, rfl, lk, hcd⟩ := F.ex
  refine fn_of lk hcd S (fun vs H Q E h => ?_) (fun A outer s H vs Q E hr h => ?_)
  · obtain ⟨ρ, hm, ds, d, hm', r, rv, hl, _⟩ := h
    rw [← rv.length, hl, hn]
  obtain ⟨ρ, hm, ds, d, hm', r, rv, hl, e, q⟩ := h
  refine ⟨_, (hb cdv A outer s H E hr).nox, ?_⟩
  unfold fDef at e
  have rs := enter_rs (N := N) r rv
  split at e
  · rename_i d1 h1 eb
    have et := Option.some.inj e
    refine ⟨ρ, _, hm, .rt d1, h1, rs, eb, fun ρ1 v H1 l1 r1 z => ?_⟩
    obtain ⟨ρ2, l2, r2, z2⟩ := trunc_ok r l1 r1 z
    rw [et] at l2 r2 z2
    exact q ρ2 v H1 l2 r2 z2
  · rename_i e1 h1 eb
    have et := Option.some.inj e
    refine ⟨ρ, _, hm, .nx e1, h1, rs, eb, fun ρ1 σ1 H1 l1 r1 => ?_⟩
    obtain ⟨ρ2, l2, r2, z2⟩ := trunc_ok (d := .non) (v := .non) r l1 r1.rh (by unfold RV; rfl)
    rw [et] at l2 r2 z2
    exact q ρ2 .non H1 l2 r2 z2
  · cases e
/-- no calls are left -/
theorem cal_none {P : Program} {w : World} {K : PySem.W.Frag} {mg : Str → Option Value} {base : Heap} {f : Addr} {fd : FuncData} {ps : List Str} {k n : Nat} {G : Gd} : FnOk P w K mg base CX0 k f fd ps (spD G n fun _ _ => none) := def_none fun _ _ => rfl
end Eng
set_option maxRecDepth 100000
set_option maxHeartbeats 4000000
/-! Readings by functions that may raise: names, operators, calls of what is built in, tests. -/
namespace Eng
open PySem PySem.Spec PyProof.Rows L2

/-- an exception: its class by number, its fields -/
structure Xc where
  k : Nat
  fs : Option (List (Str × D))
inductive R (α : Type) where
  | ok (a : α) (h : Hm) | ex (x : Xc) (h : Hm) | no
abbrev N (α : Type) := Hm → R α
def rOk {α : Type} (a : α) : N α := fun h => .ok a h
def rNo {α : Type} : N α := fun _ => .no
def nBnd {α β : Type} (m : N α) (k : α → N β) : N β := fun h => match m h with
  | .ok a h' => k a h'
  | .ex x h' => .ex x h'
  | .no => .no
def lift {α : Type} (m : M α) : N α := fun h => match m h with
  | some (a, h') => .ok a h'
  | none => .no
/-- the exception x stands as an instance of cls with the dict d -/
def RX (G : Gd) (ρ : Nat → Option Addr) (H : Hp) (x : Xc) (cls : Value) (d : Option Addr) : Prop := cls = .ref (G.xc x.k) ∧ match x.fs with
  | none => d = none
  | some fs => ∃ a ys, d = some a ∧ H a = some (.xd ys) ∧ RK G ρ H fs ys
def AftX (G : Gd) (W : WX) (σ : L2.St) (ρ : Nat → Option Addr) (H : Hp) (hm : Hm) (x : Xc) (hm' : Hm) : Prop :=
  ∀ ρ' H' cls d, Le G.K ρ H hm ρ' H' hm' → RH G ρ' H' hm' → RX G ρ' H' x cls d → W cls d σ H'
def AftR {α : Type} (G : Gd) (W : WX) (σ : L2.St) (ρ : Nat → Option Addr) (H : Hp) (hm : Hm) (P : α → Hm → Prop) : R α → Prop
  | .ok a h => P a h
  | .ex x h => AftX G W σ ρ H hm x h
  | .no => False
section
variable {α β : Type} {G : Gd} {W : WX} {σ : L2.St} {ρ ρ1 : Nat → Option Addr} {H H1 : Hp} {hm hm1 : Hm} {P P1 : α → Hm → Prop} {Pb : β → Hm → Prop}
theorem AftR.bnd {m : N α} {k : α → N β} {h0 : Hm} (h : AftR G W σ ρ H hm Pb (nBnd m k h0)) (g : ∀ a h1, m h0 = .ok a h1 → AftR G W σ ρ H hm Pb (k a h1) → P1 a h1) : AftR G W σ ρ H hm P1 (m h0) := by
  unfold nBnd at h
  cases e : m h0 with
  | ok a h1 => rw [e] at h; exact g a h1 e h
  | ex x h1 => rw [e] at h; exact h
  | no => rw [e] at h; exact h
theorem AftX.le {x : Xc} {hm' : Hm} (a : AftX G W σ ρ H hm x hm') (l : Le G.K ρ H hm ρ1 H1 hm1) : AftX G W σ ρ1 H1 hm1 x hm' := fun ρ' H' cls d l' => a ρ' H' cls d (l.trans l')
theorem AftR.le {r : R α} (a : AftR G W σ ρ H hm P r) (l : Le G.K ρ H hm ρ1 H1 hm1) (i : ∀ a h, P a h → P1 a h) : AftR G W σ ρ1 H1 hm1 P1 r := by
  cases r with
  | ok a' h => exact i _ _ a
  | ex x h => exact AftX.le a l
  | no => exact a
theorem AftR.okI {r : R α} {a : α} {h : Hm} (e : r = .ok a h) (p : P a h) : AftR G W σ ρ H hm P r := by rw [e]; exact p
theorem AftR.exI {r : R α} {x : Xc} {h : Hm} (e : r = .ex x h) (p : AftX G W σ ρ H hm x h) : AftR G W σ ρ H hm P r := by rw [e]; exact p
theorem AftR.lift {m : M α} {h1 : Hm} (h : AftR G W σ ρ H hm P (Eng.lift m h1)) : ∃ a h', m h1 = some (a, h') ∧ P a h' := by
  unfold Eng.lift at h
  cases e : m h1 with
  | none => rw [e] at h; exact h.elim
  | some p => obtain ⟨a, h'⟩ := p; rw [e] at h; exact ⟨a, h', rfl, h⟩
end
/-- an expression's reading -/
def uE (G : Gd) (W : WX) (f : Env → N D) : TE := fun σ H Q => ∃ ρ env hm, RS G ρ env hm σ H ∧ AftR G W σ ρ H hm (fun d h => Aft G ρ H hm d h Q) (f env hm)
def uA (G : Gd) (W : WX) (f : Env → N (List D)) : TA := fun σ H Q => ∃ ρ env hm, RS G ρ env hm σ H ∧ AftR G W σ ρ H hm (fun d h => AftA G ρ H hm d h Q) (f env hm)
def uT (G : Gd) (W : WX) (f : Env → N Bool) : TT := fun σ H Q => ∃ ρ env hm, RS G ρ env hm σ H ∧ AftR G W σ ρ H hm (fun b h => AftT G ρ H hm b h Q) (f env hm)
section
variable {G : Gd} {ρ ρ1 : Nat → Option Addr} {H H1 : Hp} {hm hm1 hm' : Hm}
theorem AftA.le {ds : List D} {Q : List V → Hp → Prop} (a : AftA G ρ H hm ds hm' Q) (l : Le G.K ρ H hm ρ1 H1 hm1) : AftA G ρ1 H1 hm1 ds hm' Q := fun ρ' v H' l' r q => a ρ' v H' (l.trans l') r q
theorem AftT.le {b : Bool} {Q : Bool → Hp → Prop} (a : AftT G ρ H hm b hm' Q) (l : Le G.K ρ H hm ρ1 H1 hm1) : AftT G ρ1 H1 hm1 b hm' Q := fun ρ' H' l' r => a ρ' H' (l.trans l') r
end
section
variable {X : Cx} {G : Gd} {W : WX}
theorem PA.imp' {es : List Expr} {t t' : TA} (h : PA X es t) (i : ∀ σ H Q, t' σ H Q → t σ H Q) : PA X es t' := PA.imp h i

/-! ### names and constants -/
def nVar (i : Nat) : Env → N D := fun env => lift (fVar i env)
def nC (d : D) : Env → N D := fun _ hm => .ok d hm
theorem n_var {i : Nat} {x : Str} {pos : Pos} (h : PE X (.Name x pos) (tVar i)) : PE X (.Name x pos) (uE G W (nVar i)) := by
  refine PE.imp h fun σ H Q ⟨ρ, env, hm, r, a⟩ => ?_
  obtain ⟨d, h', e, q⟩ := a.lift
  unfold fVar at e
  split at e
  · rename_i d' he
    cases e
    obtain ⟨v, h1, h2⟩ := r.re i _ he
    exact ⟨v, h1, q ρ v H Le.refl r.rh h2⟩
  · cases e
theorem n_c {e : Expr} {v : V} {d : D} (h : PE X e (tC v)) (f : flatD d v) : PE X e (uE G W (nC d)) := by
  refine PE.imp h fun σ H Q ⟨ρ, env, hm, r, a⟩ => ?_
  exact a ρ v H Le.refl r.rh f.rv
theorem n_int {i : Int} {j pos} : PE X (.Constant (.int i) j pos) (uE G W (nC (.int i))) := n_c pe_int rfl
theorem n_bl {b : Bool} {j pos} : PE X (.Constant (.bool b) j pos) (uE G W (nC (.bl b))) := n_c pe_bl rfl
theorem n_non {j pos} : PE X (.Constant .none j pos) (uE G W (nC .non)) := n_c pe_non rfl
theorem n_str {x : Str} {j pos} : PE X (.Constant (.str x) j pos) (uE G W (nC (.str x))) := n_c pe_str rfl

/-! ### operators -/
def nOp (g : D → D → M D) (fa fb : Env → N D) : Env → N D := fun env => nBnd (fa env) fun x => nBnd (fb env) fun y => lift (g x y)
theorem nop_run {fa fb : Env → N D} {g : D → D → M D} {r : R2} (s : OpS G r g) {σ : L2.St} {H : Hp} {Q : VK} (h : uE G W (nOp g fa fb) σ H Q) : tOp r (uE G W fa) (uE G W fb) σ H Q := by
  obtain ⟨ρ, env, hm, rs, a⟩ := h
  refine ⟨ρ, env, hm, rs, a.bnd fun x h1 e1 a => fun ρ1 v1 H1 l1 r1 v => ?_⟩
  refine ⟨ρ1, env, h1, l1.rs rs r1, (a.le l1 fun d h q => q.le l1).bnd fun y h2 e2 a => fun ρ2 v2 H2 l2 r2 u => ?_⟩
  obtain ⟨d, hm', e, q⟩ := a.lift
  exact s ρ2 h2 H2 x y v1 v2 d hm' Q r2 (l2.rv r1 v) u e (q.le l2)
theorem n_op {op : Operator} {r : R2} {g : D → D → M D} {a b : Expr} {fa fb : Env → N D} {pos : Pos} (ho : OpR X (binaryOp op) r) (s : OpS G r g) (ha : PE X a (uE G W fa)) (hb : PE X b (uE G W fb)) : PE X (.BinOp a op b pos) (uE G W (nOp g fa fb)) :=
  PE.imp (pe_op ho ha hb) fun _ _ _ h => nop_run s h
theorem n_cmp {op : CmpOp} {r : R2} {g : D → D → M D} {a b : Expr} {fa fb : Env → N D} {pos : Pos} (ho : OpR X (compareOp op) r) (s : OpS G r g) (ha : PE X a (uE G W fa)) (hb : PE X b (uE G W fb)) (hm : behindInMarks op b = false) :
    PE X (.Compare a [op] [b] pos) (uE G W (nOp g fa fb)) := PE.imp (pe_cmpR ho ha hb hm) fun _ _ _ h => nop_run s h
/-- a bool as a test -/
def nTest (f : Env → N D) : Env → N Bool := fun env => nBnd (f env) fun d => lift (isB d)
theorem ntest_run {f : Env → N D} {σ : L2.St} {H : Hp} {Q : Bool → Hp → Prop} (h : uT G W (nTest f) σ H Q) : tTest (uE G W f) σ H Q := by
  obtain ⟨ρ, env, hm, rs, a⟩ := h
  refine ⟨ρ, env, hm, rs, a.bnd fun x h1 e1 a => fun ρ1 v1 H1 l1 r1 v => ?_⟩
  obtain ⟨b, hm', e, q⟩ := a.lift
  obtain ⟨rfl, rfl⟩ := isB_some e
  unfold RV at v
  exact ⟨b, v, q ρ1 H1 l1 r1⟩
theorem nt_cmp {op : CmpOp} {r : R2} {g : D → D → M D} {a b : Expr} {fa fb : Env → N D} {pos : Pos} (ho : OpR X (compareOp op) r) (s : OpS G r g) (ha : PE X a (uE G W fa)) (hb : PE X b (uE G W fb)) (hm : behindInMarks op b = false) :
    PT X (.Compare a [op] [b] pos) (uT G W (nTest (nOp g fa fb))) := PT.imp (pt_cmpR ho ha hb hm) fun σ H Q h => by
  have z := ntest_run h
  exact nop_run s z
theorem nt_val {e : Expr} {f : Env → N D} (h : PE X e (uE G W f)) (he : ∀ whole, isTrue e X.env whole = (do let v ← whole; standAt e.pos; holding [v] (truthy v)) := by intro _; rfl) : PT X e (uT G W (nTest f)) :=
  PT.imp (pt_val h he) fun σ H Q q => ntest_run q
def nUn (g : D → M D) (fa : Env → N D) : Env → N D := fun env => nBnd (fa env) fun x => lift (g x)
theorem nun_run {fa : Env → N D} {g : D → M D} {r : V → Hp → VK → Prop} (s : UnS G r g) {σ : L2.St} {H : Hp} {Q : VK} (h : uE G W (nUn g fa) σ H Q) : tUn r (uE G W fa) σ H Q := by
  obtain ⟨ρ, env, hm, rs, a⟩ := h
  refine ⟨ρ, env, hm, rs, a.bnd fun x h1 e1 a => fun ρ1 v1 H1 l1 r1 v => ?_⟩
  obtain ⟨d, hm', e, q⟩ := a.lift
  exact s ρ1 h1 H1 x v1 d hm' Q r1 v e (q.le l1)
theorem n_un {op : UnaryOp} {r : V → Hp → VK → Prop} {g : D → M D} {a : Expr} {fa : Env → N D} {pos : Pos} (ho : UnR X (unaryOp op) r) (s : UnS G r g) (ha : PE X a (uE G W fa)) : PE X (.UnaryOp op a pos) (uE G W (nUn g fa)) :=
  PE.imp (pe_un ho ha) fun _ _ _ h => nun_run s h

/-! ### argument lists, calls of what is built in -/
def nNil : Env → N (List D) := fun _ => rOk []
def nCons (f : Env → N D) (g : Env → N (List D)) : Env → N (List D) := fun env => nBnd (f env) fun x => nBnd (g env) fun xs => rOk (x :: xs)
theorem na_nil : PA X [] (uA G W nNil) := PA.imp pa_nil fun σ H Q ⟨ρ, env, hm, rs, a⟩ => a ρ [] H Le.refl rs.rh .nil
theorem na_cons {e : Expr} {es : List Expr} {f : Env → N D} {g : Env → N (List D)} (ha : PE X e (uE G W f)) (hr : PA X es (uA G W g)) (hs : starEach (e :: es) X.env = (false, eval e X.env) :: starEach es X.env := by rfl) : PA X (e :: es) (uA G W (nCons f g)) :=
  PA.imp (pa_cons ha hr hs) fun σ H Q ⟨ρ, env, hm, rs, a⟩ => by
    refine ⟨ρ, env, hm, rs, a.bnd fun x h1 e1 a => fun ρ1 v1 H1 l1 r1 v => ?_⟩
    refine ⟨ρ1, env, h1, l1.rs rs r1, (a.le l1 fun d h q => q.le l1).bnd fun y h2 e2 a => fun ρ2 vs H2 l2 r2 u => ?_⟩
    exact a ρ2 (v1 :: vs) H2 l2 r2 (.cons (l2.rv r1 v) u)
def nCall (g : List D → M D) (fa : Env → N (List D)) : Env → N D := fun env => nBnd (fa env) fun xs => lift (g xs)
theorem nargs_run {fa : Env → N (List D)} {g : List D → M D} {r : List V → Hp → VK → Prop} (s : CallS G r g) {σ : L2.St} {H : Hp} {Q : VK} (h : uE G W (nCall g fa) σ H Q) : tCB r (uA G W fa) σ H Q := by
  obtain ⟨ρ, env, hm, rs, a⟩ := h
  refine ⟨ρ, env, hm, rs, a.bnd fun x h1 e1 a => fun ρ1 v1 H1 l1 r1 v => ?_⟩
  obtain ⟨d, hm', e, q⟩ := a.lift
  exact s ρ1 h1 H1 x v1 d hm' Q r1 v e (q.le l1)
theorem n_callB {x : Str} {id : String} {p pos : Pos} {e : Expr} {es : List Expr} {r : List V → Hp → VK → Prop} {g : List D → M D} {fa : Env → N (List D)} (hc : CallR X (.builtin id) r) (s : CallS G r g) (hg : Gl X x) (hm : X.mg x = none) (hv : bootBuiltins x = some (.builtin id)) (ha : PA X (e :: es) (uA G W fa))
    (hn : x ≠ "__name__" := by decide) (hdb : (x == ("__debug__" : Str)) = false := by decide) (he : starEach (e :: es) X.env = (false, eval e X.env) :: starEach es X.env := by rfl) (hpl : (backTo pos (starEach es X.env)).any (·.1) = false := by rfl) :
    PE X (.Call (.Name x p) (e :: es) [] pos) (uE G W (nCall g fa)) := PE.imp (pe_callB hc hg hm hv ha hn hdb he hpl) fun _ _ _ h => nargs_run s h
theorem n_callTy {x : Str} {T : String} {p pos : Pos} {e : Expr} {es : List Expr} {r : List V → Hp → VK → Prop} {g : List D → M D} {fa : Env → N (List D)} (hc : CallR X (.type T) r) (s : CallS G r g) (hg : Gl X x) (hm : X.mg x = none) (hv : bootBuiltins x = some (.type T)) (ha : PA X (e :: es) (uA G W fa))
    (hn : x ≠ "__name__" := by decide) (hdb : (x == ("__debug__" : Str)) = false := by decide) (he : starEach (e :: es) X.env = (false, eval e X.env) :: starEach es X.env := by rfl) (hpl : (backTo pos (starEach es X.env)).any (·.1) = false := by rfl) :
    PE X (.Call (.Name x p) (e :: es) [] pos) (uE G W (nCall g fa)) := PE.imp (pe_callTy hc hg hm hv ha hn hdb he hpl) fun _ _ _ h => nargs_run s h

/-! ### tests joined -/
def nAnd (f g : Env → N Bool) : Env → N Bool := fun env => nBnd (f env) fun b => if b = true then g env else rOk false
def nOr (f g : Env → N Bool) : Env → N Bool := fun env => nBnd (f env) fun b => if b = true then rOk true else g env
def nNot (f : Env → N Bool) : Env → N Bool := fun env => nBnd (f env) fun b => rOk (!b)
theorem nw_and1 {a : Expr} {f : Env → N Bool} {pos : Pos} (ha : PT X a (uT G W f)) : PW X (.BoolOp .And [a] pos) (uT G W f) := pw_and1 ha
theorem nw_or1 {a : Expr} {f : Env → N Bool} {pos : Pos} (ha : PT X a (uT G W f)) : PW X (.BoolOp .Or [a] pos) (uT G W f) := pw_or1 ha
theorem nw_and {a b : Expr} {rest : List Expr} {f g : Env → N Bool} {pos : Pos} (ha : PT X a (uT G W f)) (hb : PW X (.BoolOp .And (b :: rest) pos) (uT G W g)) : PW X (.BoolOp .And (a :: b :: rest) pos) (uT G W (nAnd f g)) := PW.imp (pw_and ha hb) fun σ H Q ⟨ρ, env, hm, rs, a⟩ => by
  refine ⟨ρ, env, hm, rs, a.bnd fun t h1 e1 a => fun ρ1 H1 l1 r1 => ?_⟩
  cases t with
  | true => rw [if_pos rfl] at a ⊢; exact ⟨ρ1, env, h1, l1.rs rs r1, a.le l1 fun d h q => q.le l1⟩
  | false => rw [if_neg Bool.false_ne_true] at a ⊢; exact a ρ1 H1 l1 r1
theorem nw_or {a b : Expr} {rest : List Expr} {f g : Env → N Bool} {pos : Pos} (ha : PT X a (uT G W f)) (hb : PW X (.BoolOp .Or (b :: rest) pos) (uT G W g)) : PW X (.BoolOp .Or (a :: b :: rest) pos) (uT G W (nOr f g)) := PW.imp (pw_or ha hb) fun σ H Q ⟨ρ, env, hm, rs, a⟩ => by
  refine ⟨ρ, env, hm, rs, a.bnd fun t h1 e1 a => fun ρ1 H1 l1 r1 => ?_⟩
  cases t with
  | false => rw [if_neg Bool.false_ne_true] at a ⊢; exact ⟨ρ1, env, h1, l1.rs rs r1, a.le l1 fun d h q => q.le l1⟩
  | true => rw [if_pos rfl] at a ⊢; exact a ρ1 H1 l1 r1
theorem nt_not {a : Expr} {f : Env → N Bool} {pos : Pos} (ha : PT X a (uT G W f)) : PT X (.UnaryOp .Not a pos) (uT G W (nNot f)) := PT.imp (pt_not ha) fun σ H Q ⟨ρ, env, hm, rs, a⟩ => by
  exact ⟨ρ, env, hm, rs, a.bnd fun t h1 e1 a => fun ρ1 H1 l1 r1 => a ρ1 H1 l1 r1⟩
/-- and, or, not, if-else as values -/
def nAndV (f g : Env → N D) : Env → N D := fun env => nBnd (f env) fun d => nBnd (lift (isB d)) fun b => if b = true then g env else rOk (.bl false)
def nOrV (f g : Env → N D) : Env → N D := fun env => nBnd (f env) fun d => nBnd (lift (isB d)) fun b => if b = true then rOk (.bl true) else g env
theorem n_one {op : BoolOp} {a : Expr} {f : Env → N D} {pos : Pos} (h : PE X a (uE G W f)) : PE X (.BoolOp op [a] pos) (uE G W f) := pe_one h
theorem isB_aft {β : Type} {σ : L2.St} {ρ : Nat → Option Addr} {H : Hp} {hm h1 : Hm} {d : D} {k : Bool → N β} {P : β → Hm → Prop} (a : AftR G W σ ρ H hm P (nBnd (lift (isB d)) k h1)) : ∃ b, d = .bl b ∧ AftR G W σ ρ H hm P (k b h1) := by
  cases d with
  | bl b => exact ⟨b, rfl, a⟩
  | _ => exact a.elim
theorem n_and {a b : Expr} {rest : List Expr} {f g : Env → N D} {pos : Pos} (ha : PE X a (uE G W f)) (hb : PE X (.BoolOp .And (b :: rest) pos) (uE G W g)) : PE X (.BoolOp .And (a :: b :: rest) pos) (uE G W (nAndV f g)) := PE.imp (pe_and ha hb) fun σ H Q ⟨ρ, env, hm, rs, a⟩ => by
  refine ⟨ρ, env, hm, rs, a.bnd fun d h1 e1 a => fun ρ1 v1 H1 l1 r1 z => ?_⟩
  obtain ⟨t, rfl, a⟩ := isB_aft a
  unfold RV at z
  refine ⟨t, z, ?_⟩
  cases t with
  | true => rw [if_pos rfl]; exact ⟨ρ1, env, h1, l1.rs rs r1, AftR.le (r := g env h1) a l1 fun d h q => q.le l1⟩
  | false => rw [if_neg Bool.false_ne_true]; exact (show Aft G ρ H hm (.bl false) h1 Q from a) ρ1 _ H1 l1 r1 (by unfold RV; rfl)
theorem n_or {a b : Expr} {rest : List Expr} {f g : Env → N D} {pos : Pos} (ha : PE X a (uE G W f)) (hb : PE X (.BoolOp .Or (b :: rest) pos) (uE G W g)) : PE X (.BoolOp .Or (a :: b :: rest) pos) (uE G W (nOrV f g)) := PE.imp (pe_or ha hb) fun σ H Q ⟨ρ, env, hm, rs, a⟩ => by
  refine ⟨ρ, env, hm, rs, a.bnd fun d h1 e1 a => fun ρ1 v1 H1 l1 r1 z => ?_⟩
  obtain ⟨t, rfl, a⟩ := isB_aft a
  unfold RV at z
  refine ⟨t, z, ?_⟩
  cases t with
  | false => rw [if_neg Bool.false_ne_true]; exact ⟨ρ1, env, h1, l1.rs rs r1, AftR.le (r := g env h1) a l1 fun d h q => q.le l1⟩
  | true => rw [if_pos rfl]; exact (show Aft G ρ H hm (.bl true) h1 Q from a) ρ1 _ H1 l1 r1 (by unfold RV; rfl)
def nNotV (f : Env → N D) : Env → N D := fun env => nBnd (f env) fun d => nBnd (lift (isB d)) fun b => rOk (.bl (!b))
theorem n_not {a : Expr} {f : Env → N D} {pos : Pos} (ha : PE X a (uE G W f)) : PE X (.UnaryOp .Not a pos) (uE G W (nNotV f)) := PE.imp (pe_not ha) fun σ H Q ⟨ρ, env, hm, rs, a⟩ => by
  refine ⟨ρ, env, hm, rs, a.bnd fun d h1 e1 a => fun ρ1 v1 H1 l1 r1 z => ?_⟩
  obtain ⟨t, rfl, a⟩ := isB_aft a
  unfold RV at z
  exact ⟨t, z, a ρ1 _ H1 l1 r1 (by unfold RV; rfl)⟩
def nIfE (c : Env → N Bool) (f g : Env → N D) : Env → N D := fun env => nBnd (c env) fun b => if b = true then f env else g env
theorem n_ifExp {c a b : Expr} {fc : Env → N Bool} {f g : Env → N D} {pos : Pos} (hc : PT X c (uT G W fc)) (ha : PE X a (uE G W f)) (hb : PE X b (uE G W g)) : PE X (.IfExp c a b pos) (uE G W (nIfE fc f g)) := PE.imp (pe_ifExp hc ha hb) fun σ H Q ⟨ρ, env, hm, rs, a⟩ => by
  refine ⟨ρ, env, hm, rs, a.bnd fun t h1 e1 a => fun ρ1 H1 l1 r1 => ?_⟩
  cases t with
  | true => rw [if_pos rfl] at a ⊢; exact ⟨ρ1, env, h1, l1.rs rs r1, a.le l1 fun d h q => q.le l1⟩
  | false => rw [if_neg Bool.false_ne_true] at a ⊢; exact ⟨ρ1, env, h1, l1.rs rs r1, a.le l1 fun d h q => q.le l1⟩

/-! ### truth -/
def nTru (f : Env → N D) : Env → N Bool := fun env => nBnd (f env) fun d => lift (mTru d)
theorem mTru_some {d : D} {hm hm' : Hm} {b : Bool} (e : mTru d hm = some (b, hm')) : truOf hm d = some b ∧ hm = hm' := by
  unfold mTru at e
  split at e
  · rename_i k hk
    cases e
    exact ⟨hk, rfl⟩
  · cases e
theorem nt_truth {a : Expr} {f : Env → N D} (hK : G.K = X.K) (ha : PE X a (uE G W f)) (he : ∀ whole, isTrue a X.env whole = (do let v ← whole; standAt a.pos; holding [v] (truthy v)) := by intro _; rfl) : PT X a (uT G W (nTru f)) :=
  PT.imp (pt_truth ha he) fun σ H Q ⟨ρ, env, hm, rs, a⟩ => by
    refine ⟨ρ, env, hm, rs, a.bnd fun d h1 e1 a => fun ρ1 v1 H1 l1 r1 v => ?_⟩
    obtain ⟨b, hm', e, q⟩ := a.lift
    obtain ⟨hk, rfl⟩ := mTru_some e
    exact ⟨b, by rw [← hK]; exact truOf_v r1 v hk, q ρ1 H1 l1 r1⟩
theorem mTru_aft {β : Type} {σ : L2.St} {ρ : Nat → Option Addr} {H : Hp} {hm h1 : Hm} {d : D} {k : Bool → N β} {P : β → Hm → Prop} (a : AftR G W σ ρ H hm P (nBnd (lift (mTru d)) k h1)) : ∃ b, truOf h1 d = some b ∧ AftR G W σ ρ H hm P (k b h1) := by
  unfold nBnd lift mTru at a
  cases e : truOf h1 d with
  | none => simp only [e] at a; exact a.elim
  | some b => simp only [e] at a; exact ⟨b, rfl, a⟩
def nOrT (fa fb : Env → N D) : Env → N D := fun env => nBnd (fa env) fun x => nBnd (lift (mTru x)) fun k => if k = true then rOk x else fb env
theorem n_orT {a b : Expr} {rest : List Expr} {fa fb : Env → N D} {pos : Pos} (hK : G.K = X.K) (ha : PE X a (uE G W fa)) (hb : PE X (.BoolOp .Or (b :: rest) pos) (uE G W fb)) : PE X (.BoolOp .Or (a :: b :: rest) pos) (uE G W (nOrT fa fb)) :=
  PE.imp (pe_orT ha hb) fun σ H Q ⟨ρ, env, hm, rs, a⟩ => by
    refine ⟨ρ, env, hm, rs, a.bnd fun x h1 e1 a => fun ρ1 v1 H1 l1 r1 v => ?_⟩
    obtain ⟨k, hk, a⟩ := mTru_aft a
    refine ⟨k, by rw [← hK]; exact truOf_v r1 v hk, ?_⟩
    cases k with
    | true => rw [if_pos rfl]; exact (show Aft G ρ H hm x h1 Q from a) ρ1 v1 H1 l1 r1 v
    | false => rw [if_neg Bool.false_ne_true]; exact ⟨ρ1, env, h1, l1.rs rs r1, AftR.le (r := fb env h1) a l1 fun d h q => q.le l1⟩
end
end Eng
set_option maxRecDepth 100000
set_option maxHeartbeats 4000000
/-! Statements that may raise: blocks, small statements, targets, while, for. -/
namespace Eng
open PySem PySem.Spec PyProof.Rows L2

/-- what a statement comes to -/
inductive SR where
  | nx (env : Env) (h : Hm) | rt (d : D) (h : Hm) | bk (env : Env) (h : Hm) | ct (env : Env) (h : Hm) | ex (x : Xc) (env : Env) (h : Hm) | no
abbrev Sf := Env → Hm → SR
def AftF (G : Gd) (W : WX) (ρ : Nat → Option Addr) (H : Hp) (hm : Hm) : SR → Ends → Prop
  | .nx env' hm', D => AftN G ρ H hm env' hm' D.nx
  | .bk env' hm', D => AftN G ρ H hm env' hm' D.bk
  | .ct env' hm', D => AftN G ρ H hm env' hm' D.ct
  | .rt d hm', D => Aft G ρ H hm d hm' D.rt
  | .ex x env' hm', _ => ∀ ρ' σ' H' cls d, Le G.K ρ H hm ρ' H' hm' → RS G ρ' env' hm' σ' H' → RX G ρ' H' x cls d → W cls d σ' H'
  | .no, _ => False
def uS (G : Gd) (W : WX) (f : Sf) : TS := fun D σ H => ∃ ρ env hm, RS G ρ env hm σ H ∧ AftF G W ρ H hm (f env hm) D
section
variable {G : Gd} {W : WX} {ρ ρ1 : Nat → Option Addr} {H H1 : Hp} {hm hm1 hm' : Hm} {D D' : Ends}
theorem AftF.le {r : SR} (a : AftF G W ρ H hm r D) (l : Le G.K ρ H hm ρ1 H1 hm1) : AftF G W ρ1 H1 hm1 r D := by
  cases r with
  | nx e h => exact AftN.le a l
  | bk e h => exact AftN.le a l
  | ct e h => exact AftN.le a l
  | rt d h => exact Aft.le a l
  | ex x e h => exact fun ρ' σ' H' cls d l' => a ρ' σ' H' cls d (l.trans l')
  | no => exact a
end
/-- first an expression -/
def nThen {α : Type} (f : Env → N α) (k : α → Sf) : Sf := fun env hm => match f env hm with
  | .ok a h => k a env h
  | .ex x h => .ex x env h
  | .no => .no
section
variable {X : Cx} {G : Gd} {W : WX}
theorem AftF.then {α : Type} {f : Env → N α} {k : α → Sf} {ρ : Nat → Option Addr} {H : Hp} {hm : Hm} {env : Env} {σ : L2.St} {D : Ends} {P : α → Hm → Prop} (rs : RS G ρ env hm σ H) (a : AftF G W ρ H hm (nThen f k env hm) D) (g : ∀ d h1, f env hm = .ok d h1 → AftF G W ρ H hm (k d env h1) D → P d h1) : AftR G W σ ρ H hm P (f env hm) := by
  unfold nThen at a
  cases e : f env hm with
  | ok d h1 => rw [e] at a; exact g d h1 e a
  | ex x h1 => rw [e] at a; exact fun ρ' H' cls d l r rx => a ρ' σ H' cls d l (l.rs rs r) rx
  | no => rw [e] at a; exact a

/-! ### blocks -/
def nSkip : Sf := fun env h => .nx env h
def nSeq (f g : Sf) : Sf := fun env hm => match f env hm with
  | .nx e h => g e h
  | r => r
theorem ns_nil : PSs X [] (uS G W nSkip) := PSs.imp pss_nil fun D σ H ⟨ρ, env, hm, rs, a⟩ => a ρ σ H Le.refl rs
theorem nseq_run {f g : Sf} {D : Ends} {σ : L2.St} {H : Hp} (h : uS G W (nSeq f g) D σ H) : tSeq (uS G W f) (uS G W g) D σ H := by
  obtain ⟨ρ, env, hm, rs, a⟩ := h
  refine ⟨ρ, env, hm, rs, ?_⟩
  unfold nSeq at a
  cases e : f env hm with
  | nx e' h1 => rw [e] at a; exact fun ρ1 σ1 H1 l1 r1 => ⟨ρ1, e', h1, r1, AftF.le (r := g e' h1) a l1⟩
  | bk e' h1 => rw [e] at a; exact a
  | ct e' h1 => rw [e] at a; exact a
  | rt d h1 => rw [e] at a; exact a
  | ex x e' h1 => rw [e] at a; exact a
  | no => rw [e] at a; exact a
theorem ns_cons {st : Stmt} {rest : List Stmt} {f g : Sf} (h1 : PS X st (uS G W f)) (h2 : PSs X rest (uS G W g)) : PSs X (st :: rest) (uS G W (nSeq f g)) := PSs.imp (pss_cons h1 h2) fun _ _ _ h => nseq_run h
theorem ns_one {st : Stmt} {f : Sf} (h1 : PS X st (uS G W f)) : PSs X [st] (uS G W f) := pss_one h1

/-! ### small statements -/
def nRet (f : Env → N D) : Sf := nThen f fun d _ h => .rt d h
theorem n_ret {e : Expr} {f : Env → N D} {pos : Pos} (h : PE X e (uE G W f)) : PS X (.Return (some e) pos) (uS G W (nRet f)) := PS.imp (ps_ret h) fun D σ H ⟨ρ, env, hm, rs, a⟩ => ⟨ρ, env, hm, rs, a.then rs fun d h1 e a => a⟩
def nRetN : Sf := fun _ h => .rt .non h
theorem n_retN {pos : Pos} : PS X (.Return none pos) (uS G W nRetN) := PS.imp ps_retN fun D σ H ⟨ρ, env, hm, rs, a⟩ => a ρ .non H Le.refl rs.rh (by unfold RV; rfl)
def nExpr (f : Env → N D) : Sf := nThen f fun _ env h => .nx env h
theorem n_expr {e : Expr} {f : Env → N D} {pos : Pos} (h : PE X e (uE G W f)) (hs : swapsWith e none pos.line X.env = pure false := by rfl) : PS X (.Expr e pos) (uS G W (nExpr f)) := PS.imp (ps_expr h hs) fun D σ H ⟨ρ, env, hm, rs, a⟩ =>
  ⟨ρ, env, hm, rs, a.then rs fun d h1 e a => fun ρ' v H' l r _ => a ρ' σ H' l (l.rs rs r)⟩
def nBreak : Sf := fun env h => .bk env h
def nCont : Sf := fun env h => .ct env h
theorem n_break {pos : Pos} : PS X (.Break pos) (uS G W nBreak) := PS.imp ps_break fun D σ H ⟨ρ, env, hm, rs, a⟩ => a ρ σ H Le.refl rs
theorem n_cont {pos : Pos} : PS X (.Continue pos) (uS G W nCont) := PS.imp ps_continue fun D σ H ⟨ρ, env, hm, rs, a⟩ => a ρ σ H Le.refl rs
theorem n_pass {pos : Pos} : PS X (.Pass pos) (uS G W nSkip) := PS.imp ps_pass fun D σ H ⟨ρ, env, hm, rs, a⟩ => a ρ σ H Le.refl rs
def nNever : Sf := fun _ _ => .no
theorem n_never {st : Stmt} : PS X st (uS G W nNever) := PS.imp ps_never fun D σ H ⟨ρ, env, hm, rs, a⟩ => a.elim
def nIf (c : Env → N Bool) (f g : Sf) : Sf := nThen c fun b => if b = true then f else g
theorem n_if {c : Expr} {a b : List Stmt} {fc : Env → N Bool} {f g : Sf} {pos : Pos} (hc : PT X c (uT G W fc)) (ha : PSs X a (uS G W f)) (hb : PSs X b (uS G W g)) : PS X (.If c a b pos) (uS G W (nIf fc f g)) := PS.imp (ps_if hc ha hb) fun D σ H ⟨ρ, env, hm, rs, a⟩ =>
  ⟨ρ, env, hm, rs, a.then rs fun t h1 e a => fun ρ1 H1 l1 r1 => by
    cases t with
    | true => rw [if_pos rfl]; exact ⟨ρ1, env, h1, l1.rs rs r1, AftF.le (r := f env h1) a l1⟩
    | false => rw [if_neg Bool.false_ne_true]; exact ⟨ρ1, env, h1, l1.rs rs r1, AftF.le (r := g env h1) a l1⟩⟩

/-! ### targets: they raise nothing -/
def uG (G : Gd) (g : D → Env → M Env) : TG := tG G g
def nAsg (f : Env → N D) (g : D → Env → M Env) : Sf := nThen f fun d env hm => match g d env hm with
  | some (e, h) => .nx e h
  | none => .no
theorem nasg_run {f : Env → N D} {g : D → Env → M Env} {D : Ends} {σ : L2.St} {H : Hp} (h : uS G W (nAsg f g) D σ H) : tAsg (uE G W f) (tG G g) D σ H := by
  obtain ⟨ρ, env, hm, rs, a⟩ := h
  refine ⟨ρ, env, hm, rs, a.then rs fun d h1 e a => fun ρ1 v1 H1 l1 r1 z => ?_⟩
  cases e2 : g d env h1 with
  | none => simp only [e2] at a; exact a.elim
  | some p =>
    obtain ⟨e', h2⟩ := p
    simp only [e2] at a
    exact ⟨ρ1, env, h1, d, e', h2, l1.rs rs r1, z, e2, AftN.le a l1⟩
theorem n_asg {tg e : Expr} {f : Env → N D} {g : D → Env → M Env} {pos : Pos} (he : PE X e (uE G W f)) (hg : PG X tg (tG G g)) (hs : swapsWithSole [tg] e pos.line X.env = pure false := by rfl) (hw : swappedStores [tg] e X.env = pure none := by rfl)
    (h1 : (assignEach [tg] X.env).map (·.2) = [assign tg X.env] := by rfl) : PS X (.Assign [tg] e pos) (uS G W (nAsg f g)) := PS.imp (ps_asg he hg hs hw h1) fun _ _ _ h => nasg_run h
/-- x = e, x in slot i -/
def nSet (i : Nat) (f : Env → N D) : Sf := nThen f fun d env h => .nx (env.set i (some d)) h
theorem nset_run {f : Env → N D} {i : Nat} {D : Ends} {σ : L2.St} {H : Hp} (h : uS G W (nSet i f) D σ H) : tAsg (uE G W f) (gName i) D σ H := by
  obtain ⟨ρ, env, hm, rs, a⟩ := h
  exact ⟨ρ, env, hm, rs, a.then rs fun d h1 e a => fun ρ1 v1 H1 l1 r1 z => a ρ1 _ H1 l1 ((l1.rs rs r1).set z i)⟩
theorem n_set {i : Nat} {x : Str} {e : Expr} {f : Env → N D} {pos pos' : Pos} (h : ∀ t, PE X e t → PS X (.Assign [.Name x pos'] e pos) (tAsg t (gName i))) (he : PE X e (uE G W f)) : PS X (.Assign [.Name x pos'] e pos) (uS G W (nSet i f)) := PS.imp (h _ he) fun _ _ _ q => nset_run q

/-! ### while -/
def nWhile (c : Env → N Bool) (b : Sf) : Nat → Sf
  | 0, _, _ => .no
  | n + 1, env, hm => match c env hm with
    | .ok t h => if t = true then match b env h with
        | .nx e h => nWhile c b n e h
        | .ct e h => nWhile c b n e h
        | .bk e h => .nx e h
        | r => r
      else .nx env h
    | .ex x h => .ex x env h
    | .no => .no
theorem n_while {c : Expr} {body : List Stmt} {fc : Env → N Bool} {fb : Sf} {pos : Pos} (n : Nat) (hp : PassesOwn (model X.prog X.w) X.A X.env X.xe) (hc : PT X c (uT G W fc)) (hb : PSs X body (uS G W fb)) : PS X (.While c body [] pos) (uS G W (nWhile fc fb n)) := PS.imp (ps_while hp hc hb) fun D σ H ⟨ρ, env, hm, rs, a⟩ => by
  refine ⟨fun m σ1 H1 => ∃ ρ1 env1 h1, RS G ρ1 env1 h1 σ1 H1 ∧ AftF G W ρ1 H1 h1 (nWhile fc fb m env1 h1) D, ⟨n, ρ, env, hm, rs, a⟩, ?_⟩
  rintro m σ1 H1 ⟨ρ1, env1, h1, rs1, a1⟩
  cases m with
  | zero => exact a1.elim
  | succ m =>
    refine ⟨ρ1, env1, h1, rs1, ?_⟩
    unfold nWhile at a1
    cases e : fc env1 h1 with
    | no => rw [e] at a1; exact a1.elim
    | ex x h => rw [e] at a1; exact fun ρ' H' cls d l r rx => a1 ρ' σ1 H' cls d l (l.rs rs1 r) rx
    | ok t h2 =>
      rw [e] at a1
      intro ρ2 H2 l2 r2
      have rs2 := l2.rs rs1 r2
      cases t with
      | false =>
        dsimp only at a1 ⊢
        rw [if_neg Bool.false_ne_true] at a1 ⊢
        exact a1 ρ2 σ1 H2 l2 rs2
      | true =>
        dsimp only at a1 ⊢
        rw [if_pos rfl] at a1 ⊢
        refine ⟨fun σ' H' => ∃ ρ1 env1 h1, RS G ρ1 env1 h1 σ' H' ∧ AftF G W ρ1 H' h1 (nWhile fc fb m env1 h1) D, fun σ' H' z => ⟨m, Nat.lt_succ_self m, z⟩, ρ2, env1, h2, rs2, ?_⟩
        cases e3 : fb env1 h2 with
        | nx e' h3 => rw [e3] at a1; exact fun ρ3 σ3 H3 l3 r3 => ⟨ρ3, e', h3, r3, AftF.le (r := nWhile fc fb m e' h3) a1 (l2.trans l3)⟩
        | ct e' h3 => rw [e3] at a1; exact fun ρ3 σ3 H3 l3 r3 => ⟨ρ3, e', h3, r3, AftF.le (r := nWhile fc fb m e' h3) a1 (l2.trans l3)⟩
        | bk e' h3 => rw [e3] at a1; exact AftN.le a1 l2
        | rt d h3 => rw [e3] at a1; exact Aft.le a1 l2
        | ex x e' h3 => rw [e3] at a1; exact fun ρ' σ' H' cls d l' => a1 ρ' σ' H' cls d (l2.trans l')
        | no => rw [e3] at a1; exact a1.elim

/-! ### for -/
abbrev NSrc := Env → N (List D × (Hm → Bool))
def uI (G : Gd) (W : WX) (src : NSrc) : TI := fun σ H R => ∃ ρ env hm, RS G ρ env hm σ H ∧ AftR G W σ ρ H hm (fun p hm' => ∀ ρ' H' J, Le G.K ρ H hm ρ' H' hm' → RH G ρ' H' hm' → Feeds G J ρ' H' hm' p.1 p.2 → R J H') (src env hm)
def nLoop (g : D → Env → M Env) (b : Sf) (chk : Hm → Bool) : List D → Sf
  | [], env, hm => if chk hm = true then .nx env hm else .no
  | x :: xs, env, hm => if chk hm = true then match g x env hm with
      | some (e, h) => match b e h with
        | .nx e h => nLoop g b chk xs e h
        | .ct e h => nLoop g b chk xs e h
        | .bk e h => .nx e h
        | r => r
      | none => .no
    else .no
def nFor (src : NSrc) (g : D → Env → M Env) (b : Sf) : Sf := nThen src fun p => nLoop g b p.2 p.1
theorem n_for {tg iter : Expr} {body : List Stmt} {src : NSrc} {g : D → Env → M Env} {fb : Sf} {pos : Pos} (hp : PassesOwn (model X.prog X.w) X.A X.env X.xe) (hc : X.calm = true) (hi : PI X tg iter (uI G W src)) (hg : PG X tg (tG G g)) (hb : PSs X body (uS G W fb))
    (hs : ∀ x, foldedSetIterable iter X.env x = pure x := by intro _; rfl) : PS X (.For tg iter body [] pos) (uS G W (nFor src g fb)) := PS.imp (ps_for hp hc hi hg hb hs) fun D σ H ⟨ρ, env, hm, rs, a⟩ => by
  refine ⟨ρ, env, hm, rs, a.then rs fun p h1 e a => fun ρ1 H1 J l1 r1 F => ?_⟩
  obtain ⟨items, chk⟩ := p
  refine ⟨fun i m σ2 H2 => ∃ ρ2 env2 h2, Le G.K ρ1 H1 h1 ρ2 H2 h2 ∧ RS G ρ2 env2 h2 σ2 H2 ∧ m = items.length - i ∧ i ≤ items.length ∧ AftF G W ρ2 H2 h2 (nLoop g fb chk (items.drop i) env2 h2) D,
    ⟨items.length, ρ1, env, h1, Le.refl, l1.rs rs r1, by omega, Nat.zero_le _, AftF.le (r := nLoop g fb chk items env h1) a l1⟩, ?_⟩
  rintro i m σ2 H2 ⟨ρ2, env2, h2, l2, rs2, rfl, hle, a2⟩
  cases hd : items.drop i with
  | nil =>
    rw [hd] at a2
    unfold nLoop at a2
    by_cases c3 : chk h2 = true
    · rw [if_pos c3] at a2
      have ei := drop_nil hle hd
      exact .inl ⟨by rw [ei]; exact F.stop ρ2 H2 _ l2 rs2.rh c3, a2 ρ2 σ2 H2 Le.refl rs2⟩
    · rw [if_neg c3] at a2; exact a2.elim
  | cons x xs =>
    rw [hd] at a2
    unfold nLoop at a2
    by_cases c3 : chk h2 = true
    · rw [if_pos c3] at a2
      obtain ⟨hx, hlt, hdx⟩ := drop_cons hd
      refine .inr ⟨F.go i ρ2 H2 _ hlt l2 rs2.rh c3, fun σ' H' => ∃ ρ2 env2 h2, Le G.K ρ1 H1 h1 ρ2 H' h2 ∧ RS G ρ2 env2 h2 σ' H' ∧ AftF G W ρ2 H' h2 (nLoop g fb chk (items.drop (i + 1)) env2 h2) D,
        fun σ' H' ⟨ρ3, env3, h3, z1, z2, z4⟩ => ⟨items.length - (i + 1), by omega, ρ3, env3, h3, z1, z2, rfl, hlt, z4⟩, fun v H3 y => ?_⟩
      obtain ⟨l3, r3, v3⟩ := F.yld i ρ2 H2 _ v H3 x hx l2 rs2.rh c3 y
      cases e4 : g x env2 h2 with
      | none => rw [e4] at a2; exact a2.elim
      | some q =>
        obtain ⟨env4, h4⟩ := q
        rw [e4] at a2
        refine ⟨ρ2, env2, _, x, env4, h4, l3.rs rs2 r3, v3, e4, fun ρ4 σ4 H4 l4 r4 => ?_⟩
        have l24 := l3.trans l4
        refine ⟨ρ4, env4, h4, r4, ?_⟩
        dsimp only at a2
        cases e5 : fb env4 h4 with
        | nx e' h5 => rw [e5] at a2; exact fun ρ5 σ5 H5 l5 r5 => ⟨ρ5, e', h5, l2.trans (l24.trans l5), r5, by rw [hdx]; exact AftF.le (r := nLoop g fb chk xs e' h5) a2 (l24.trans l5)⟩
        | ct e' h5 => rw [e5] at a2; exact fun ρ5 σ5 H5 l5 r5 => ⟨ρ5, e', h5, l2.trans (l24.trans l5), r5, by rw [hdx]; exact AftF.le (r := nLoop g fb chk xs e' h5) a2 (l24.trans l5)⟩
        | bk e' h5 => rw [e5] at a2; exact AftN.le a2 l24
        | rt d h5 => rw [e5] at a2; exact Aft.le a2 l24
        | ex x e' h5 => rw [e5] at a2; exact fun ρ' σ' H' cls d l' => a2 ρ' σ' H' cls d (l24.trans l')
        | no => rw [e5] at a2; exact a2.elim
    · rw [if_neg c3] at a2; exact a2.elim

/-! ### two, three names at once -/
def nPar2 (i j : Nat) (fa : Env → N (List D)) : Sf := nThen fa fun ds env h => match ds with
  | [a, b] => .nx ((env.set i (some a)).set j (some b)) h
  | _ => .no
theorem n_par2 {i j : Nat} {x y : Str} {a b : Expr} {fa : Env → N (List D)} {px py pt pos : Pos} {kt k2 pt2} (hc : X.calm = true) (hN : X.N.Nodup) (hi : X.N[i]? = some x) (hj : X.N[j]? = some y) (hij : i ≠ j)
    (hx : X.env.scope.names.lookup x = some .local) (hy : X.env.scope.names.lookup y = some .local) (ha : PA X [a, b] (uA G W fa))
    (hw : swappedStores [.Tuple [.Name x px, .Name y py] kt pt] (.Tuple [a, b] k2 pt2) X.env = pure (some [x, y]))
    (hs : swapsWithSole [.Tuple [.Name x px, .Name y py] kt pt] (.Tuple [a, b] k2 pt2) pos.line X.env = pure false := by rfl) :
    PS X (.Assign [.Tuple [.Name x px, .Name y py] kt pt] (.Tuple [a, b] k2 pt2) pos) (uS G W (nPar2 i j fa)) := PS.imp (ps_par hc hN hi hj hij hx hy ha hw hs) fun E σ H ⟨ρ, env, hm, rs, a⟩ => by
  refine ⟨ρ, env, hm, rs, a.then rs fun ds h1 e a => ?_⟩
  match ds, a with
  | [d1, d2], a =>
    intro ρ1 vs H1 l1 r1 hv
    obtain ⟨v, u, rfl, hv, hu⟩ := hv.two
    exact ⟨v, u, rfl, a ρ1 _ H1 l1 (((l1.rs rs r1).set hv i).set hu j)⟩
  | [], a => exact a.elim
  | [_], a => exact a.elim
  | _ :: _ :: _ :: _, a => exact a.elim
def nPar3 (i j l : Nat) (fa : Env → N (List D)) : Sf := nThen fa fun ds env h => match ds with
  | [a, b, c] => .nx (((env.set i (some a)).set j (some b)).set l (some c)) h
  | _ => .no
theorem n_par3 {i j l : Nat} {x y z : Str} {a b c : Expr} {fa : Env → N (List D)} {px py pz pt pos : Pos} {kt k2 pt2} (hc : X.calm = true) (hN : X.N.Nodup) (hi : X.N[i]? = some x) (hj : X.N[j]? = some y) (hl : X.N[l]? = some z) (hij : i ≠ j) (hil : i ≠ l) (hjl : j ≠ l)
    (hx : X.env.scope.names.lookup x = some .local) (hy : X.env.scope.names.lookup y = some .local) (hz : X.env.scope.names.lookup z = some .local) (ha : PA X [a, b, c] (uA G W fa))
    (hw : swappedStores [.Tuple [.Name x px, .Name y py, .Name z pz] kt pt] (.Tuple [a, b, c] k2 pt2) X.env = pure (some [x, y, z]))
    (hs : swapsWithSole [.Tuple [.Name x px, .Name y py, .Name z pz] kt pt] (.Tuple [a, b, c] k2 pt2) pos.line X.env = pure false := by rfl) :
    PS X (.Assign [.Tuple [.Name x px, .Name y py, .Name z pz] kt pt] (.Tuple [a, b, c] k2 pt2) pos) (uS G W (nPar3 i j l fa)) := PS.imp (ps_par3 hc hN hi hj hl hij hil hjl hx hy hz ha hw hs) fun E σ H ⟨ρ, env, hm, rs, a⟩ => by
  refine ⟨ρ, env, hm, rs, a.then rs fun ds h1 e a => ?_⟩
  match ds, a with
  | [d1, d2, d3], a =>
    intro ρ1 vs H1 l1 r1 hv
    obtain ⟨v, u, w, rfl, hv, hu, hw⟩ := hv.three
    exact ⟨v, u, w, rfl, a ρ1 _ H1 l1 ((((l1.rs rs r1).set hv i).set hu j).set hw l)⟩
  | [], a => exact a.elim
  | [_], a => exact a.elim
  | [_, _], a => exact a.elim
  | _ :: _ :: _ :: _ :: _, a => exact a.elim
end
end Eng
set_option maxRecDepth 100000
set_option maxHeartbeats 4000000
/-! Sources, slices, stores, methods, displays, list comprehensions, of readings that may raise. -/
namespace Eng
open PySem PySem.Spec PyProof.Rows L2
section
variable {X : Cx} {G : Gd} {W : WX}

/-! ### sources -/
def nV (f : Env → N D) : NSrc := fun env => nBnd (f env) fun d => lift (srcOf d)
theorem ni_val {tg l : Expr} {f : Env → N D} (hK : G.K = X.K) (he : PE X l (uE G W f)) : PI X tg l (uI G W (nV f)) := by
  refine ⟨fun pins s σ H R I h => ?_⟩
  obtain ⟨ρ, env, hm, rs, a⟩ := h
  cases e1 : f env hm with
  | no => unfold nV nBnd at a; rw [e1] at a; exact a.elim
  | ex x h1 =>
    have a' : AftX G W σ ρ H hm x h1 := by unfold nV nBnd at a; rw [e1] at a; exact a
    exact (pi_tup (tg := tg) he).run pins s σ H R I ⟨ρ, env, hm, rs, AftR.exI e1 a'⟩
  | ok d h1 =>
    unfold nV nBnd at a
    rw [e1] at a
    obtain ⟨⟨items, chk⟩, hm', e, q⟩ := a.lift
    cases d with
    | tup xs =>
      cases e
      refine (pi_tup (tg := tg) he).run pins s σ H R I ⟨ρ, env, hm, rs, AftR.okI e1 fun ρ1 v1 H1 l1 r1 z => ?_⟩
      unfold RV at z
      obtain ⟨a, ys, rfl, hq, hr⟩ := z
      exact ⟨a, rfl, ⟨ys, by rw [← hK]; exact hq.sq⟩, q ρ1 H1 _ l1 r1 (feeds_tup hK r1 hq hr)⟩
    | ref n =>
      have e : (match itemsAt h1 n with | some xs => some ((xs, chkL n xs), h1) | none => none) = some ((items, chk), hm') := e
      cases hi : itemsAt h1 n with
      | none => rw [hi] at e; cases e
      | some xs =>
        rw [hi] at e
        cases e
        refine (pi_list (tg := tg) he).run pins s σ H R I ⟨ρ, env, hm, rs, AftR.okI e1 fun ρ1 v1 H1 l1 r1 z => ?_⟩
        unfold RV at z
        obtain ⟨a, ha, rfl⟩ := z
        obtain ⟨b, ys, hb, h1, h2⟩ := r1.items hi
        rw [ha] at hb; cases hb
        exact ⟨a, rfl, ⟨ys, by rw [← hK]; exact h1⟩, q ρ1 H1 _ l1 r1 (feeds_list hK r1 ha)⟩
    | _ => cases e
def nRange (fa : Env → N (List D)) : NSrc := fun env => nBnd (fa env) fun ds => lift (srcRg ds)
theorem srcRg1 {d : D} {h h' : Hm} {p : List D × (Hm → Bool)} (e : srcRg [d] h = some (p, h')) : ∃ j, d = .int j ∧ rngOk j = true ∧ p = (rangeD 0 j.toNat, fun _ => true) ∧ h = h' := by
  cases d with
  | int j =>
    have e : (if rngOk j = true then some ((rangeD 0 j.toNat, fun _ => true), h) else none) = some (p, h') := e
    by_cases c : rngOk j = true
    · rw [if_pos c] at e; cases e; exact ⟨j, rfl, c, rfl, rfl⟩
    · rw [if_neg c] at e; cases e
  | _ => cases e
theorem srcRg2 {d d' : D} {h h' : Hm} {p : List D × (Hm → Bool)} (e : srcRg [d, d'] h = some (p, h')) : ∃ i j, d = .int i ∧ d' = .int j ∧ rngOk i = true ∧ rngOk j = true ∧ p = (rangeD i (j - i).toNat, fun _ => true) ∧ h = h' := by
  cases d with
  | int i =>
    cases d' with
    | int j =>
      have e : (if rngOk i = true ∧ rngOk j = true then some ((rangeD i (j - i).toNat, fun _ => true), h) else none) = some (p, h') := e
      by_cases c : rngOk i = true ∧ rngOk j = true
      · rw [if_pos c] at e; cases e; exact ⟨i, j, rfl, rfl, c.1, c.2, rfl, rfl⟩
      · rw [if_neg c] at e; cases e
    | _ => cases e
  | _ => cases e
theorem ni_range1 {tg a : Expr} {p pos : Pos} {f : Env → N D} (hg : Gl X "range") (hm : X.mg "range" = none) (ha : PE X a (uE G W f)) (hs : starEach [a] X.env = [(false, eval a X.env)] := by rfl) :
    PI X tg (.Call (.Name "range" p) [a] [] pos) (uI G W (nRange (nCons f nNil))) := PI.imp (pi_range1 hg hm (na_cons ha na_nil hs) hs) fun σ H R ⟨ρ, env, hm, rs, a⟩ => by
  refine ⟨ρ, env, hm, rs, a.bnd fun ds h1 e1 a => fun ρ1 vs H1 l1 r1 z => ?_⟩
  obtain ⟨pr, hm', e, q⟩ := a.lift
  have hd : ∃ d, ds = [d] := by
    unfold nCons nNil nBnd rOk at e1
    cases e2 : f env hm with
    | ok x h => rw [e2] at e1; simp only at e1; cases e1; exact ⟨_, rfl⟩
    | ex x h => rw [e2] at e1; cases e1
    | no => rw [e2] at e1; cases e1
  obtain ⟨d, rfl⟩ := hd
  obtain ⟨j, rfl, c, rfl, rfl⟩ := srcRg1 e
  obtain ⟨v, rfl, z1⟩ := z.one
  unfold RV at z1
  subst z1
  obtain ⟨c1, c2⟩ := rngOk_iff c
  exact ⟨j, rfl, c1, c2, q ρ1 H1 _ l1 r1 feeds_range⟩
theorem ni_range2 {tg a b : Expr} {p pos : Pos} {f g : Env → N D} (hg : Gl X "range") (hm : X.mg "range" = none) (ha : PE X a (uE G W f)) (hb : PE X b (uE G W g)) (hs : starEach [a, b] X.env = [(false, eval a X.env), (false, eval b X.env)] := by rfl) (hs2 : starEach [b] X.env = [(false, eval b X.env)] := by rfl) (hs3 : starEach [a, b] X.env = (false, eval a X.env) :: starEach [b] X.env := by rfl) :
    PI X tg (.Call (.Name "range" p) [a, b] [] pos) (uI G W (nRange (nCons f (nCons g nNil)))) := PI.imp (pi_range2 hg hm (na_cons ha (na_cons hb na_nil hs2) hs3) hs hs2) fun σ H R ⟨ρ, env, hm, rs, a⟩ => by
  refine ⟨ρ, env, hm, rs, a.bnd fun ds h1 e1 a => fun ρ1 vs H1 l1 r1 z => ?_⟩
  obtain ⟨pr, hm', e, q⟩ := a.lift
  have hd : ∃ d d', ds = [d, d'] := by
    unfold nCons nNil nBnd rOk at e1
    cases e2 : f env hm with
    | ok x h =>
      rw [e2] at e1
      simp only at e1
      cases e3 : g env h with
      | ok y h2 => simp only [e3] at e1; cases e1; exact ⟨_, _, rfl⟩
      | ex x h => simp only [e3] at e1; cases e1
      | no => simp only [e3] at e1; cases e1
    | ex x h => rw [e2] at e1; cases e1
    | no => rw [e2] at e1; cases e1
  obtain ⟨d, d', rfl⟩ := hd
  obtain ⟨i, j, rfl, rfl, c, c', rfl, rfl⟩ := srcRg2 e
  obtain ⟨v, u, rfl, z1, z2⟩ := z.two
  unfold RV at z1 z2
  subst z1 z2
  obtain ⟨c1, c2⟩ := rngOk_iff c
  obtain ⟨c3, c4⟩ := rngOk_iff c'
  exact ⟨i, j, rfl, ⟨c1, c2, c3, c4⟩, q ρ1 H1 _ l1 r1 feeds_range⟩
def nEnum (fa : Env → N (List D)) : NSrc := fun env => nBnd (fa env) fun ds => lift (srcEn ds)
theorem ni_enum {e : Expr} {p pos tpos : Pos} {elts : List Expr} {kk : Nat} {fa : Env → N (List D)} (hK : G.K = X.K) (hg : Gl X "enumerate") (hm : X.mg "enumerate" = none) (ha : PA X [e] (uA G W fa)) (hs : starEach [e] X.env = [(false, eval e X.env)] := by rfl) :
    PI X (.Tuple elts kk tpos) (.Call (.Name "enumerate" p) [e] [] pos) (uI G W (nEnum fa)) := PI.imp (pi_enum hg hm ha hs) fun σ H R ⟨ρ, env, hm, rs, a⟩ => by
  refine ⟨ρ, env, hm, rs, a.bnd fun ds h1 e1 a => fun ρ1 vs H1 l1 r1 z => ?_⟩
  obtain ⟨⟨items, chk⟩, hm', e, q⟩ := a.lift
  unfold srcEn at e
  split at e
  · rename_i n
    split at e
    · rename_i xs hi
      cases e
      obtain ⟨v, rfl, z1⟩ := z.one
      unfold RV at z1
      obtain ⟨a, ha, rfl⟩ := z1
      obtain ⟨b, ys, hb, h1, h2⟩ := r1.items hi
      rw [ha] at hb; cases hb
      exact ⟨a, ys, rfl, by rw [← hK]; exact h1, q ρ1 H1 _ l1 r1 (feeds_enum hK r1 ha)⟩
    · cases e
  · cases e
def nZip (fa : Env → N (List D)) : NSrc := fun env => nBnd (fa env) fun ds => lift (orZ srcZq srcZp ds)
theorem ni_zip {e e2 : Expr} {p pos tpos : Pos} {elts : List Expr} {kk : Nat} {fa : Env → N (List D)} (hK : G.K = X.K) (hg : Gl X "zip") (hm : X.mg "zip" = none) (ha : PA X [e, e2] (uA G W fa))
    (hs : starEach [e, e2] X.env = (false, eval e X.env) :: starEach [e2] X.env := by rfl) (hpl : (backTo pos (starEach [e2] X.env)).any (·.1) = false := by rfl) :
    PI X (.Tuple elts kk tpos) (.Call (.Name "zip" p) [e, e2] [] pos) (uI G W (nZip fa)) := PI.imp (RZ.pi_zipA hg hm ha hs hpl) fun σ H R ⟨ρ, env, hm, rs, a⟩ => by
  refine ⟨ρ, env, hm, rs, a.bnd fun ds h1 e1 a => fun ρ1 vs H1 l1 r1 z => ?_⟩
  obtain ⟨⟨items, chk⟩, hm', e, q⟩ := a.lift
  unfold orZ at e
  split at e
  · rename_i w hw
    cases e
    unfold srcZq at hw
    split at hw
    · rename_i xs m
      split at hw
      · rename_i ys hy
        cases hw
        obtain ⟨v, u, rfl, z1, z2⟩ := z.two
        unfold RV at z1 z2
        obtain ⟨a, ys1, rfl, q1, v1⟩ := z1
        obtain ⟨b, hb, rfl⟩ := z2
        obtain ⟨b', hb', ob, ys2, ⟨k1, _⟩, k2⟩ := r1.obj _ _ hy
        rw [hb] at hb'; cases hb'
        have sq2 : SqT G.K H1 b ys2 := .inl (.inr ⟨ob, k1⟩)
        exact ⟨a, b, ys1, ys2, rfl, .inr ⟨by rw [← hK]; exact q1.sq, by rw [← hK]; exact sq2, q ρ1 H1 _ l1 r1 (feeds_zipF hK r1 q1 v1 hb)⟩⟩
      · cases hw
    · cases hw
  · unfold srcZp at e
    split at e
    · cases e
      obtain ⟨v, u, rfl, z1, z2⟩ := z.two
      unfold RV at z1 z2
      obtain ⟨a, ys, rfl, q1, v1⟩ := z1
      obtain ⟨b, ys2, rfl, q2, v2⟩ := z2
      exact ⟨a, b, ys, ys2, rfl, .inr ⟨by rw [← hK]; exact q1.sq, by rw [← hK]; exact q2.sq, q ρ1 H1 _ l1 r1 (feeds_zipT hK r1 q1 v1 q2 v2)⟩⟩
    · split at e
      · rename_i hi hi2
        cases e
        obtain ⟨v, u, rfl, z1, z2⟩ := z.two
        unfold RV at z1 z2
        obtain ⟨a, ha, rfl⟩ := z1
        obtain ⟨b, hb, rfl⟩ := z2
        obtain ⟨a', ys, ha', h1, h2⟩ := r1.items hi
        obtain ⟨b', ys2, hb', h3, h4⟩ := r1.items hi2
        rw [ha] at ha'; cases ha'
        rw [hb] at hb'; cases hb'
        exact ⟨a, b, ys, ys2, rfl, .inl ⟨by rw [← hK]; exact h1, by rw [← hK]; exact h3, q ρ1 H1 _ l1 r1 (feeds_zipL hK r1 ha hb)⟩⟩
      · cases e
    · cases e

/-! ### subscripts, slices -/
theorem n_ix {a b : Expr} {fa fb : Env → N D} {pos : Pos} (hK : G.K = X.K) (ha : PE X a (uE G W fa)) (hb : PE X b (uE G W fb)) (hs : PlainIx b) : PE X (.Subscript a b pos) (uE G W (nOp gIx fa fb)) := by
  have s := s_ix (G := G)
  rw [hK] at s
  exact PE.imp (pe_ix ix_seq ha hb hs) fun _ _ _ h => nop_run s h
def uP (G : Gd) (W : WX) (f : Env → N (Option Int)) : TO := fun σ H Q => ∃ ρ env hm, RS G ρ env hm σ H ∧ AftR G W σ ρ H hm (fun o hm' => ∀ ρ' H', Le G.K ρ H hm ρ' H' hm' → RH G ρ' H' hm' → Q o H') (f env hm)
def nNoP : Env → N (Option Int) := fun _ => rOk none
def nP (f : Env → N D) : Env → N (Option Int) := fun env => nBnd (f env) fun d => lift (partI d)
theorem np_no : PO X none (uP G W nNoP) := PO.imp po_none fun σ H Q ⟨ρ, env, hm, rs, a⟩ => a ρ H Le.refl rs.rh
theorem np_some {e : Expr} {f : Env → N D} (h : PE X e (uE G W f)) : PO X (some e) (uP G W (nP f)) := PO.imp (po_some h) fun σ H Q ⟨ρ, env, hm, rs, a⟩ => by
  refine ⟨ρ, env, hm, rs, a.bnd fun d h1 e1 a => fun ρ1 v1 H1 l1 r1 v => ?_⟩
  obtain ⟨o, hm', e, q⟩ := a.lift
  unfold partI at e
  split at e
  · cases e
    unfold RV at v
    exact ⟨_, v, q ρ1 H1 l1 r1⟩
  · cases e
def nSl (fa : Env → N D) (fl fh : Env → N (Option Int)) : Env → N D := fun env => nBnd (fa env) fun x => nBnd (fl env) fun lo => nBnd (fh env) fun hi => lift (gSl x lo hi)
theorem n_slice {e : Expr} {lo hi : Option Expr} {fa : Env → N D} {fl fh : Env → N (Option Int)} {pos p2 : Pos} (hK : G.K = X.K) (he : PE X e (uE G W fa)) (hl : PO X lo (uP G W fl)) (hh : PO X hi (uP G W fh)) : PE X (.Subscript e (.Slice lo hi none p2) pos) (uE G W (nSl fa fl fh)) :=
  PE.imp (pe_slice (SlR.or sl_tupA sl_list) he hl hh) fun σ H Q ⟨ρ, env, hm, rs, a⟩ => by
    refine ⟨ρ, env, hm, rs, a.bnd fun x h1 e1 a => fun ρ1 v1 H1 l1 r1 v => ?_⟩
    refine ⟨ρ1, env, h1, l1.rs rs r1, (a.le l1 fun d h q => q.le l1).bnd fun l h2 e2 a => fun ρ2 H2 l2 r2 => ?_⟩
    refine ⟨ρ2, env, h2, l2.rs (l1.rs rs r1) r2, (a.le l2 fun d h q => q.le l2).bnd fun h h3 e3 a => fun ρ3 H3 l3 r3 => ?_⟩
    obtain ⟨d, hm', e, q⟩ := a.lift
    have z := s_sl r3 (l3.rv r2 (l2.rv r1 v)) e (q.le l3)
    rw [hK] at z
    exact z
theorem n_revT {e : Expr} {f : Env → N D} {k : Nat} {p1 p2 p3 pos : Pos} (hK : G.K = X.K) (he : PE X e (uE G W f)) : PE X (.Subscript e (.Slice none none (some (.UnaryOp .USub (.Constant (.int 1) k p1) p2)) p3) pos) (uE G W (nUn gRevT f)) :=
  PE.imp (pe_revT he) fun σ H Q ⟨ρ, env, hm, rs, a⟩ => by
    refine ⟨ρ, env, hm, rs, a.bnd fun x h1 e1 a => fun ρ1 v1 H1 l1 r1 v => ?_⟩
    obtain ⟨d, hm', e, q⟩ := a.lift
    unfold gRevT at e
    split at e
    · rename_i xs hx
      cases e
      obtain ⟨a, ys, rfl, h1, h2⟩ := tupOf_ok r1 v hx
      rw [hK] at h1
      exact ⟨a, ys, rfl, h1, fun p hp => q ρ1 _ _ (l1.trans (Le.tup hp)) (r1.tup hp) (rv_tup hp h2.reverse)⟩
    · cases e

/-! ### o[i] = v -/
def nSubD (fo fi : Env → N D) : D → Env → M Env := fun d env hm => match fo env hm with
  | .ok x h => match fi env h with
    | .ok y h2 => match mKeep h2 x y d with
      | some h3 => some (env, h3)
      | none => none
    | _ => none
  | _ => none
theorem ng_sub {o i : Expr} {fo fi : Env → N D} {pos : Pos} (hu : X.A.units + 1 < cLine) (ho : PE X o (uE G W fo)) (hi : PE X i (uE G W fi))
    (ha : ∀ v, assign (.Subscript o i pos) X.env v = (do
      let ov ← holding [v] (eval o X.env)
      let iv ← holding [v, ov] (eval i X.env)
      standAt pos
      holding [v, ov, iv] (setItem ov iv v)
      release [v, ov, iv] []) := by intro _; rfl) : PG X (.Subscript o i pos) (tG G (nSubD fo fi)) :=
  PG.imp (pg_sub ho hi (PSet.or set_list (set_dict hu)) ha) fun v σ H Q ⟨ρ, env, hm, d, env', hm', rs, rv, e, q⟩ => by
    unfold nSubD at e
    cases e1 : fo env hm with
    | ex x h => rw [e1] at e; cases e
    | no => rw [e1] at e; cases e
    | ok x h2 =>
      rw [e1] at e
      dsimp only at e
      cases e2 : fi env h2 with
      | ex x h => rw [e2] at e; cases e
      | no => rw [e2] at e; cases e
      | ok y h3 =>
        rw [e2] at e
        have e' : (match mKeep h3 x y d with
          | some h => some (env, h)
          | none => none) = some (env', hm') := e
        split at e'
        · rename_i h hl
          cases e'
          refine ⟨ρ, env, hm, rs, AftR.okI e1 fun ρ2 v2 H2 l2 r2 u => ?_⟩
          refine ⟨ρ2, env, h2, l2.rs rs r2, AftR.okI e2 fun ρ3 v3 H3 l3 r3 z => ?_⟩
          unfold mKeep at hl
          split at hl
          · rename_i h' hl'
            cases hl
            obtain ⟨p, xs, k, j, k1, k2, k3, k4, k5, k6⟩ := lkeep_ok r3 (l3.rv r2 u) z (l3.rv r2 (l2.rv rs.rh rv)) hl'
            exact .inl ⟨p, xs, k, j, k1, k2, k3, k4, q ρ3 σ _ (l2.trans (l3.trans k6)) (k6.rs (l3.rs (l2.rs rs r2) r3) k5)⟩
          · obtain ⟨a, H4, k0, k1, k2, k3⟩ := keep_ok r3 (l3.rv r2 u) z (l3.rv r2 (l2.rv rs.rh rv)) hl
            exact .inr ⟨a, H4, k0, k1, q ρ3 σ H4 (l2.trans (l3.trans k3)) (k3.rs (l3.rs (l2.rs rs r2) r3) k2)⟩
        · cases e'

/-! ### methods of what is built in -/
def nMt (g : D → List D → M D) (c : D → Hm → Bool) (fo : Env → N D) (fa : Env → N (List D)) : Env → N D := fun env => nBnd (fo env) fun x hm => if c x hm = true then nBnd (fa env) (fun as => lift (g x as)) hm else .no
theorem nmt_run {T : String} {r : V → List V → Hp → VK → Prop} {g : D → List D → M D} {fo : Env → N D} {fa : Env → N (List D)} {c : D → Hm → Bool} (hK : G.K = X.K) (hc : ∀ {ρ hm H d v}, RH G ρ H hm → RV G.K ρ H d v → c d hm = true → tyV G.K T v H) (s : MtS G T r g) {σ : L2.St} {H : Hp} {Q : VK} (h : uE G W (nMt g c fo fa) σ H Q) :
    tBM X.K T r (uE G W fo) (uA G W fa) σ H Q := by
  obtain ⟨ρ, env, hm, rs, a⟩ := h
  refine ⟨ρ, env, hm, rs, a.bnd fun x h1 e1 a => fun ρ1 v1 H1 l1 r1 v => ?_⟩
  by_cases cc : c x h1 = true
  · rw [if_pos cc] at a
    refine ⟨by rw [← hK]; exact hc r1 v cc, ?_⟩
    refine ⟨ρ1, env, h1, l1.rs rs r1, (a.le l1 fun d h q => q.le l1).bnd fun as h2 e2 a => fun ρ2 us H2 l2 r2 u => ?_⟩
    obtain ⟨d, hm', e, q⟩ := a.lift
    exact s ρ2 h2 H2 x as v1 us d hm' Q r2 (l2.rv r1 v) u e (q.le l2)
  · rw [if_neg cc] at a; exact a.elim
def nMt0 (g : D → List D → M D) (c : D → Hm → Bool) (fo : Env → N D) : Env → N D := fun env => nBnd (fo env) fun x hm => if c x hm = true then lift (g x []) hm else .no
theorem nmt0_run {T : String} {r : V → List V → Hp → VK → Prop} {g : D → List D → M D} {fo : Env → N D} {c : D → Hm → Bool} (hK : G.K = X.K) (hc : ∀ {ρ hm H d v}, RH G ρ H hm → RV G.K ρ H d v → c d hm = true → tyV G.K T v H) (s : MtS G T r g) {σ : L2.St} {H : Hp} {Q : VK} (h : uE G W (nMt0 g c fo) σ H Q) :
    tBM0 X.K T r (uE G W fo) σ H Q := by
  obtain ⟨ρ, env, hm, rs, a⟩ := h
  refine ⟨ρ, env, hm, rs, a.bnd fun x h1 e1 a => fun ρ1 v1 H1 l1 r1 v => ?_⟩
  by_cases cc : c x h1 = true
  · rw [if_pos cc] at a
    obtain ⟨d, hm', e, q⟩ := a.lift
    exact ⟨by rw [← hK]; exact hc r1 v cc, s ρ1 h1 H1 x [] v1 [] d hm' Q r1 v .nil e (q.le l1)⟩
  · rw [if_neg cc] at a; exact a.elim
theorem n_append {o e : Expr} {fo fe : Env → N D} {apos cpos : Pos} (hK : G.K = X.K) (ho : PE X o (uE G W fo)) (he : PE X e (uE G W fe))
    (hbase : attributeBase o "append" X.env (eval o X.env) = eval o X.env := by rfl)
    (hfew : (((backTo cpos (starEach [e] X.env)).all (fun x => !x.1) && (backToKw cpos (keywordEach [] X.env)).all (fun x => x.1.isSome)) && decide (([e] : List Expr).length + ([] : List Keyword).length + (if ([] : List Keyword).isEmpty = true then 0 else 1) < 30)) = true := by rfl)
    (hline : (apos.endLine == cpos.line) = true := by rfl) (hs : starEach [e] X.env = (false, eval e X.env) :: starEach [] X.env := by rfl) :
    PE X (.Call (.Attribute o "append" apos) [e] [] cpos) (uE G W (nMt mtA isL fo (nCons fe nNil))) :=
  PE.imp (pe_bm PySem.F.plainAttrs_list PySem.F.slot_list_append PySem.F.type_list_append mt_append ho (na_cons he na_nil hs) hbase hfew hline hs) fun σ H Q h => nmt_run hK isL_ok s_append h
theorem n_pop {o : Expr} {fo : Env → N D} {apos cpos : Pos} (hK : G.K = X.K) (ho : PE X o (uE G W fo))
    (hbase : attributeBase o "pop" X.env (eval o X.env) = eval o X.env := by rfl) (hline : (apos.endLine == cpos.line) = true := by rfl) :
    PE X (.Call (.Attribute o "pop" apos) [] [] cpos) (uE G W (nMt0 mtPop isL fo)) :=
  PE.imp (pe_bm0 PySem.F.plainAttrs_list PySem.F.slot_list_pop PySem.F.type_list_pop mt_pop ho hbase hline) fun σ H Q h => nmt0_run hK isL_ok s_pop h
theorem n_count {o e : Expr} {fo fe : Env → N D} {apos cpos : Pos} (hK : G.K = X.K) (ho : PE X o (uE G W fo)) (he : PE X e (uE G W fe))
    (hbase : attributeBase o "count" X.env (eval o X.env) = eval o X.env := by rfl)
    (hfew : (((backTo cpos (starEach [e] X.env)).all (fun x => !x.1) && (backToKw cpos (keywordEach [] X.env)).all (fun x => x.1.isSome)) && decide (([e] : List Expr).length + ([] : List Keyword).length + (if ([] : List Keyword).isEmpty = true then 0 else 1) < 30)) = true := by rfl)
    (hline : (apos.endLine == cpos.line) = true := by rfl) (hs : starEach [e] X.env = (false, eval e X.env) :: starEach [] X.env := by rfl) :
    PE X (.Call (.Attribute o "count" apos) [e] [] cpos) (uE G W (nMt mtCnt isL fo (nCons fe nNil))) := by
  have s := s_count (G := G)
  rw [hK] at s
  exact PE.imp (pe_bm PySem.F.plainAttrs_list PySem.F.slot_list_count PySem.F.type_list_count mt_lcount ho (na_cons he na_nil hs) hbase hfew hline hs) fun σ H Q h => nmt_run hK isL_ok s h
theorem n_disc {o e : Expr} {fo fe : Env → N D} {apos cpos : Pos} (hK : G.K = X.K) (hS : G.SO = SetDO X.prog X.w) (hu : X.A.units + 2 < cLine) (ho : PE X o (uE G W fo)) (he : PE X e (uE G W fe))
    (hbase : attributeBase o "discard" X.env (eval o X.env) = eval o X.env := by rfl)
    (hfew : ((backTo cpos (starEach [e] X.env)).all (fun x => !x.1) && (backToKw cpos (keywordEach [] X.env)).all (fun x => x.1.isSome) && decide (([e] : List Expr).length + ([] : List Keyword).length + (if ([] : List Keyword).isEmpty then 0 else 1) < 30)) = true := by rfl)
    (hline : (apos.endLine == cpos.line) = true := by rfl) (hs : starEach [e] X.env = (false, eval e X.env) :: starEach [] X.env := by rfl) :
    PE X (.Call (.Attribute o "discard" apos) [e] [] cpos) (uE G W (nMt mtDisc isS fo (nCons fe nNil))) :=
  PE.imp (pe_mG tyS_ok PySem.F.plainAttrs_set PySem.F.slot_set_discard PySem.F.type_set_discard (mt_disc hu) ho (na_cons he na_nil hs) hbase hfew hline hs) fun σ H Q ⟨ρ, env, hm, rs, a⟩ => by
    refine ⟨ρ, env, hm, rs, a.bnd fun x h1 e1 a => fun ρ1 v1 H1 l1 r1 v => ?_⟩
    by_cases cc : isS x h1 = true
    · rw [if_pos cc] at a
      refine ⟨isS_ty hS r1 v cc, ?_⟩
      refine ⟨ρ1, env, h1, l1.rs rs r1, (a.le l1 fun d h q => q.le l1).bnd fun as h2 e2 a => fun ρ2 us H2 l2 r2 u => ?_⟩
      obtain ⟨d, hm', e, q⟩ := a.lift
      have z := disc_ok (P := X.prog) (w := X.w) hS r2 (l2.rv r1 v) u e (q.le l2)
      rw [hK] at z
      exact z
    · rw [if_neg cc] at a; exact a.elim

/-! ### dicts -/
theorem n_dget {o i : Expr} {fo fi : Env → N D} {pos : Pos} (hu : X.A.units + 1 < cLine) (ho : PE X o (uE G W fo)) (hi : PE X i (uE G W fi)) (hs : NoSl i) : PE X (.Subscript o i pos) (uE G W (nOp gDGet fo fi)) :=
  PE.imp (pe_dget hu ho hi hs) fun σ H Q ⟨ρ, env, hm, rs, a⟩ => by
    refine ⟨ρ, env, hm, rs, a.bnd fun x h1 e1 a => fun ρ1 v1 H1 l1 r1 v => ?_⟩
    refine ⟨ρ1, env, h1, l1.rs rs r1, (a.le l1 fun d h q => q.le l1).bnd fun y h2 e2 a => fun ρ2 v2 H2 l2 r2 u => ?_⟩
    obtain ⟨d, hm', e, q⟩ := a.lift
    unfold gDGet at e
    split at e
    · rename_i d' hl
      cases e
      obtain ⟨a, w, rfl, _, h3, h4⟩ := look_ok r2 (l2.rv r1 v) u hl
      cases w with
      | none => exact h4.elim
      | some w => exact ⟨a, w, rfl, h3, q ρ2 w H2 l2 r2 h4⟩
    · cases e
def nNewK : Env → N D := fun _ hm => .ok (.ref hm.nx) (hm.new (.dk []))
def nNewT : Env → N D := fun _ hm => .ok (.ref hm.nx) (hm.new (.dt []))
theorem n_newK {pos : Pos} : PE X (.Dict [] [] pos) (uE G W nNewK) := PE.imp pe_dnewK fun σ H Q ⟨ρ, env, hm, rs, q⟩ => by
  intro p hp
  obtain ⟨a, b⟩ := rh_dk rs.rh hp (ds := []) (vs := []) .nil
  exact q _ _ _ b a rv_new
theorem n_newT {pos : Pos} : PE X (.Dict [] [] pos) (uE G W nNewT) := PE.imp pe_dnewT fun σ H Q ⟨ρ, env, hm, rs, q⟩ => by
  intro p hp
  obtain ⟨a, b⟩ := rh_dt rs.rh hp (ds := []) (vs := []) .nil
  exact q _ _ _ b a rv_new
def gDGet2 (x y z : D) : M D := fun hm => match dLook hm x y with
  | some o => some (o.getD z, hm)
  | none => none
def nDGet2 (fo fi fx : Env → N D) : Env → N D := fun env => nBnd (fo env) fun x hm => if isD x hm = true then nBnd (fi env) (fun y => nBnd (fx env) fun z => lift (gDGet2 x y z)) hm else .no
theorem n_dget2 {o e f : Expr} {fo fi fx : Env → N D} {apos cpos : Pos} (hu : X.A.units + 1 < cLine) (ho : PE X o (uE G W fo)) (he : PE X e (uE G W fi)) (hf : PE X f (uE G W fx)) (m : M2 X o "get" apos e f cpos) : PE X (.Call (.Attribute o "get" apos) [e, f] [] cpos) (uE G W (nDGet2 fo fi fx)) :=
  PE.imp (pe_dget2 hu ho he hf m) fun σ H Q ⟨ρ, env, hm, rs, a⟩ => by
    refine ⟨ρ, env, hm, rs, a.bnd fun x h1 e1 a => fun ρ1 v1 H1 l1 r1 v => ?_⟩
    by_cases c : isD x h1 = true
    · rw [if_pos c] at a
      obtain ⟨a', rfl, hd⟩ := isD_ok r1 v c
      refine ⟨a', rfl, hd, ?_⟩
      refine ⟨ρ1, env, h1, l1.rs rs r1, (a.le l1 fun d h q => q.le l1).bnd fun y h2 e2 a => fun ρ2 v2 H2 l2 r2 u => ?_⟩
      refine ⟨ρ2, env, h2, l2.rs (l1.rs rs r1) r2, (a.le l2 fun d h q => q.le l2).bnd fun z h3 e3 a => fun ρ3 v3 H3 l3 r3 w => ?_⟩
      obtain ⟨d, hm', e, q⟩ := a.lift
      unfold gDGet2 at e
      split at e
      · rename_i o hl
        cases e
        obtain ⟨a', w', ea, _, k1, k2⟩ := look_ok r3 (l3.rv r2 (l2.rv r1 v)) (l3.rv r2 u) hl
        cases ea
        refine ⟨w', k1, q ρ3 _ H3 l3 r3 ?_⟩
        cases o <;> cases w' <;> first | exact k2.elim | exact w | exact k2
      · cases e
    · rw [if_neg c] at a; exact a.elim

/-! ### displays -/
theorem n_tup {es : List Expr} {fa : Env → N (List D)} {k pos} (h : PA X es (uA G W fa)) : PE X (.Tuple es k pos) (uE G W (nCall mTup fa)) := PE.imp (pe_tup h) fun σ H Q ⟨ρ, env, hm, rs, a⟩ => by
  refine ⟨ρ, env, hm, rs, a.bnd fun ds h1 e1 a => fun ρ1 vs H1 l1 r1 z => ?_⟩
  obtain ⟨d, hm', e, q⟩ := a.lift
  unfold mTup at e
  split at e
  · rename_i c
    cases e
    refine ⟨by rw [← z.length]; exact big_le c, fun p hp => ?_⟩
    exact q ρ1 _ _ (l1.trans (Le.tup hp)) (r1.tup hp) (rv_tup hp z)
  · cases e
theorem n_lst {es : List Expr} {fa : Env → N (List D)} {pos} (h : PA X es (uA G W fa)) : PE X (.List es pos) (uE G W (nCall mLst fa)) := PE.imp (pe_lst h) fun σ H Q ⟨ρ, env, hm, rs, a⟩ => by
  refine ⟨ρ, env, hm, rs, a.bnd fun ds h1 e1 a => fun ρ1 vs H1 l1 r1 z => ?_⟩
  obtain ⟨d, hm', e, q⟩ := a.lift
  unfold mLst at e
  split at e
  · rename_i c
    cases e
    refine ⟨by rw [← z.length]; exact big_le c, fun p hp => ?_⟩
    obtain ⟨a, b⟩ := rh_lst r1 hp z
    exact q _ _ _ (l1.trans b) a rv_new
  · cases e
/-- *e in a display: a list or a tuple -/
def starOf (d : D) : M (List D) := fun hm => match seqOf hm d with
  | some xs => some (xs, hm)
  | none => none
def nStar (f : Env → N D) (g : Env → N (List D)) : Env → N (List D) := fun env => nBnd (f env) fun x => nBnd (lift (starOf x)) fun ys => nBnd (g env) fun xs => rOk (ys ++ xs)
end
end Eng
set_option maxRecDepth 100000
set_option maxHeartbeats 4000000
/-! Starred items, list comprehensions with one clause and with two; defs that may raise, and their calls. -/
namespace Eng
open PySem PySem.Spec PyProof.Rows L2
section
variable {X : Cx} {G : Gd} {W : WX}
theorem na_star {e : Expr} {es : List Expr} {p : Pos} {f : Env → N D} {g : Env → N (List D)} (hK : G.K = X.K) (ha : PE X e (uE G W f)) (hr : PA X es (uA G W g)) (hs : starEach (.Starred e p :: es) X.env = (true, eval e X.env) :: starEach es X.env := by rfl) : PA X (.Starred e p :: es) (uA G W (nStar f g)) :=
  PA.imp (StX.pa_star ha hr hs) fun σ H Q ⟨ρ, env, hm, rs, a⟩ => by
    refine ⟨ρ, env, hm, rs, a.bnd fun x h1 e1 a => fun ρ1 v1 H1 l1 r1 v => ?_⟩
    have a1 := a.bnd (P1 := fun ys h => seqOf h1 x = some ys ∧ h = h1 ∧ AftR G W σ ρ H hm (fun d h => AftA G ρ H hm d h Q) ((nBnd (g env) fun xs => rOk (ys ++ xs)) h1)) fun ys h2 e2 a => by
      unfold lift starOf at e2
      cases hq : seqOf h1 x with
      | none => simp only [hq] at e2; cases e2
      | some zs => simp only [hq] at e2; cases e2; exact ⟨rfl, rfl, a⟩
    obtain ⟨ys, h2, e2, hq, rfl, a⟩ := a1.lift
    obtain ⟨p, us, rfl, hz, hu⟩ := seq_ok r1 v hq
    refine ⟨p, us, rfl, by rw [← hK]; exact hz.elim .inr .inl, ?_⟩
    refine ⟨ρ1, env, h2, l1.rs rs r1, (a.le l1 fun d h q => q.le l1).bnd fun y h3 e3 a => fun ρ2 vs H2 l2 r2 u => ?_⟩
    exact a ρ2 (us ++ vs) H2 l2 r2 ((l2.rvs r1 hu).append u)

/-! ### list comprehensions -/
theorem wipe_idem {σ : L2.St} {vs : List Nat} : wipe (wipe σ vs) vs = wipe σ vs := by
  have idem : ∀ (us : List Nat), (∀ i ∈ us, i ∈ vs) → wipe (wipe σ vs) us = wipe σ vs := by
    intro us
    induction us with
    | nil => intro _; rfl
    | cons w ws ih =>
      intro hu
      show (wipe (wipe σ vs) ws).set w none = wipe σ vs
      rw [ih fun i hi => hu i (List.mem_cons_of_mem _ hi)]
      have hwm := hu w List.mem_cons_self
      have key : ∀ us : List Nat, w ∈ us → (wipe σ us).set w none = wipe σ us := by
        intro us
        induction us with
        | nil => intro h; cases h
        | cons a as iha =>
          intro h
          show ((wipe σ as).set a none).set w none = (wipe σ as).set a none
          by_cases ca : a = w
          · subst ca; rw [List.set_set]
          · have hm : w ∈ as := by
              rcases List.mem_cons.mp h with e | e
              · exact absurd e.symm ca
              · exact e
            rw [List.set_comm _ _ ca, iha hm]
      exact key vs hwm
  exact idem vs fun _ h => h
/-- nothing may be let out of a comprehension -/
abbrev W0 : WX := fun _ _ _ _ => False
theorem AftR.no0 {α : Type} {σ : L2.St} {ρ : Nat → Option Addr} {H : Hp} {hm : Hm} {P : α → Hm → Prop} {r : R α} {a : α} {h : Hm} (e : r = .ok a h) (p : P a h) : AftR G W0 σ ρ H hm P r := by rw [e]; exact p
def nLcLoop (t : Tgt) (c : Env → N Bool) (f : Env → N D) (chk : Hm → Bool) (n : Nat) (env : Env) : List D → Hm → Option Hm
  | [], hm => if chk hm = true then some hm else none
  | x :: xs, hm => if chk hm = true then match Tgt.store t x env with
      | some e => match c e hm with
        | .ok b h => if b = true then match f e h with
            | .ok y h2 => match app1 n y h2 with
              | some (_, h3) => nLcLoop t c f chk n env xs h3
              | none => none
            | _ => none
          else nLcLoop t c f chk n env xs h
        | _ => none
      | none => none
    else none
/-- one turn of it, taken apart -/
theorem nlc_turn {t : Tgt} {c : Env → N Bool} {f : Env → N D} {chk : Hm → Bool} {n : Nat} {env : Env} {x : D} {xs : List D} {hm hm' : Hm} (e : nLcLoop t c f chk n env (x :: xs) hm = some hm') :
    chk hm = true ∧ ∃ e1 b h1, Tgt.store t x env = some e1 ∧ c e1 hm = .ok b h1 ∧ ((b = true ∧ ∃ y h2 u h3, f e1 h1 = .ok y h2 ∧ app1 n y h2 = some (u, h3) ∧ nLcLoop t c f chk n env xs h3 = some hm') ∨ (b = false ∧ nLcLoop t c f chk n env xs h1 = some hm')) := by
  unfold nLcLoop at e
  by_cases c0 : chk hm = true
  · rw [if_pos c0] at e
    refine ⟨c0, ?_⟩
    cases e1 : Tgt.store t x env with
    | none => rw [e1] at e; cases e
    | some ev =>
      rw [e1] at e
      dsimp only at e
      cases e2 : c ev hm with
      | ex x h => rw [e2] at e; cases e
      | no => rw [e2] at e; cases e
      | ok b h1 =>
        rw [e2] at e
        dsimp only at e
        refine ⟨ev, b, h1, rfl, e2, ?_⟩
        cases b with
        | false => rw [if_neg Bool.false_ne_true] at e; exact .inr ⟨rfl, e⟩
        | true =>
          rw [if_pos rfl] at e
          cases e3 : f ev h1 with
          | ex x h => rw [e3] at e; cases e
          | no => rw [e3] at e; cases e
          | ok y h2 =>
            rw [e3] at e
            dsimp only at e
            cases e4 : app1 n y h2 with
            | none => rw [e4] at e; cases e
            | some p =>
              obtain ⟨u, h3⟩ := p
              rw [e4] at e
              exact .inl ⟨rfl, y, h2, u, h3, rfl, e4, e⟩
  · rw [if_neg c0] at e; cases e
theorem nlc_end {t : Tgt} {c : Env → N Bool} {f : Env → N D} {chk : Hm → Bool} {n : Nat} {env : Env} {hm hm' : Hm} (e : nLcLoop t c f chk n env [] hm = some hm') : chk hm = true ∧ hm = hm' := by
  unfold nLcLoop at e
  by_cases c0 : chk hm = true
  · rw [if_pos c0] at e; cases e; exact ⟨c0, rfl⟩
  · rw [if_neg c0] at e; cases e
def mkList (r : Option Hm) (n : Nat) : R D := match r with
  | some h => .ok (.ref n) h
  | none => .no
def nLc (src : NSrc) (t : Tgt) (c : Env → N Bool) (f : Env → N D) (vs : List Nat) : Env → N D := fun env => nBnd (src env) fun p hm =>
  mkList (nLcLoop t c f p.2 hm.nx (wipeE env vs) p.1 (hm.new (.lst []))) hm.nx
def nYes : Env → N Bool := fun _ => rOk true
/-- the turns over one source: Fin holds behind the last -/
theorem nlc_loop {t : Tgt} {c : Env → N Bool} {f : Env → N D} {vs : List Nat} (hK : G.K = X.K) (hw : Tgt.within vs t = true) {σ : L2.St} {env : Env} {ρ1 : Nat → Option Addr} {H1 : Hp} {h1 : Hm} {n : Nat} {Da : Addr} {J : It} {items : List D} {chk : Hm → Bool} {hmF : Hm} {Fin : Hp → Prop}
    (F : Feeds G J ρ1 H1 h1 items chk) (rs : RS G ρ1 env h1 σ H1) (hn : ρ1 n = some Da) (ρ2 : Nat → Option Addr) (H2 : Hp) (h2 : Hm) (l : Le G.K ρ1 H1 h1 ρ2 H2 h2) (r2 : RH G ρ2 H2 h2) (e : nLcLoop t c f chk n (wipeE env vs) items h2 = some hmF)
    (q : ∀ ρ' H', Le G.K ρ2 H2 h2 ρ' H' hmF → RH G ρ' H' hmF → Fin H') :
    ∃ W1 : Nat → Nat → Hp → Prop, (∃ m, W1 0 m H2) ∧ ∀ i m H, W1 i m H → (J.stop i H ∧ Fin H) ∨ (J.go i H ∧ ∃ Nx : Hp → Prop, (∀ H', Nx H' → ∃ m', m' < m ∧ W1 (i + 1) m' H') ∧ ∀ x H', J.yld i H x H' → Tgt.tg X.K t x (wipe σ vs) H' fun σ2 H2 => wipe σ2 vs = wipe σ vs ∧ uT G W0 c σ2 H2 fun b H3 =>
      if b = true then uE G W0 f σ2 H3 fun y H4 => ∃ acc, H4 Da = some (.lst acc) ∧ acc.length < sizeLine ∧ Nx (upd H4 Da (.lst (acc ++ [y]))) else Nx H3) := by
  refine ⟨fun i m H3 => ∃ ρ3 h3, Le G.K ρ1 H1 h1 ρ3 H3 h3 ∧ Le G.K ρ2 H2 h2 ρ3 H3 h3 ∧ RH G ρ3 H3 h3 ∧ m = items.length - i ∧ i ≤ items.length ∧ nLcLoop t c f chk n (wipeE env vs) (items.drop i) h3 = some hmF, ⟨items.length, _, _, l, Le.refl, r2, by omega, Nat.zero_le _, e⟩, ?_⟩
  rintro i m H3 ⟨ρ3, h3, l3, k3, r3, rfl, hle, e3⟩
  have at3 : ρ3 n = some Da := by rw [l3.same n (rs.rh.dom n _ hn)]; exact hn
  have rs3 : RS G ρ3 env h3 σ H3 := l3.rs rs r3
  cases hd : items.drop i with
  | nil =>
    rw [hd] at e3
    obtain ⟨c3, rfl⟩ := nlc_end e3
    have ei := drop_nil hle hd
    exact .inl ⟨by rw [ei]; exact F.stop ρ3 H3 _ l3 r3 c3, q ρ3 H3 k3 r3⟩
  | cons x xs =>
    rw [hd] at e3
    obtain ⟨hx, hlt, hdx⟩ := drop_cons hd
    obtain ⟨c4, ev, b, h7, he, a7, e7⟩ := nlc_turn e3
    refine .inr ⟨F.go i ρ3 H3 _ hlt l3 r3 c4, fun H' => ∃ ρ4 h4, Le G.K ρ1 H1 h1 ρ4 H' h4 ∧ Le G.K ρ2 H2 h2 ρ4 H' h4 ∧ RH G ρ4 H' h4 ∧ nLcLoop t c f chk n (wipeE env vs) (items.drop (i + 1)) h4 = some hmF,
      fun H' ⟨ρ4, h4, z1, z0, z2, z3⟩ => ⟨items.length - (i + 1), by omega, ρ4, h4, z1, z0, z2, rfl, hlt, z3⟩, fun v H5 y => ?_⟩
    obtain ⟨l5, r5, v5⟩ := F.yld i ρ3 H3 _ v H5 x hx l3 r3 c4 y
    have rs5 : RS G ρ3 (wipeE env vs) _ (wipe σ vs) H5 := (l5.rs rs3 r5).wiped vs
    rw [← hK]
    refine tgt_run t rs5 v5 he hw fun σ6 r6 w6 => ⟨w6.trans wipe_idem, ?_⟩
    refine ⟨ρ3, ev, _, r6, AftR.no0 a7 fun ρ7 H7 l7 r7 => ?_⟩
    have l37 := l5.trans l7
    rcases e7 with ⟨rfl, yv, h8, u, h9, a8, a9, e9⟩ | ⟨rfl, e7⟩
    · dsimp only
      rw [if_pos rfl]
      refine ⟨ρ7, ev, h7, l7.rs r6 r7, AftR.no0 a8 fun ρ8 v8 H8 l8 r8 z8 => ?_⟩
      have l38 := l37.trans l8
      have at8 : ρ8 n = some Da := by rw [l38.same n (r3.dom _ _ at3)]; exact at3
      obtain ⟨acc, k1, k2, k4, k5⟩ := app1_ok r8 at8 a9 z8
      exact ⟨acc, k1, k2, ρ8, h9, l3.trans (l38.trans k5), k3.trans (l38.trans k5), k4, by rw [hdx]; exact e9⟩
    · dsimp only
      rw [if_neg Bool.false_ne_true]
      exact ⟨ρ7, h7, l3.trans l37, k3.trans l37, r7, by rw [hdx]; exact e7⟩
theorem mkList_aft {α : Type} {σ : L2.St} {ρ : Nat → Option Addr} {H : Hp} {hm : Hm} {P : D → Hm → Prop} {r : Option Hm} {n : Nat} (a : AftR G W σ ρ H hm P (mkList r n)) : ∃ h, r = some h ∧ P (.ref n) h := by
  cases r with
  | none => exact a.elim
  | some h => exact ⟨h, rfl, a⟩
theorem nlc_run {src : NSrc} {t : Tgt} {c : Env → N Bool} {f : Env → N D} {vs : List Nat} (hK : G.K = X.K) (hw : Tgt.within vs t = true) {σ : L2.St} {H : Hp} {Q : VK} (h : uE G W (nLc src t c f vs) σ H Q) : tLc (uI G W src) (Tgt.tg X.K t) (uT G W0 c) (uE G W0 f) vs σ H Q := by
  obtain ⟨ρ, env, hm, rs, a⟩ := h
  refine ⟨ρ, env, hm, rs, a.bnd fun p h1 e1 a => fun ρ1 H1 J l1 r1 F Da hD => ?_⟩
  obtain ⟨hmF, e2, q⟩ := mkList_aft (α := Unit) a
  obtain ⟨r2, l2⟩ := rh_lst (ds := []) (vs := []) r1 hD .nil
  have rs2 : RS G (rset ρ1 h1.nx Da) env (h1.new (.lst [])) σ (upd H1 Da (.lst [])) := (l1.trans l2).rs rs r2
  have F2 : Feeds G J (rset ρ1 h1.nx Da) (upd H1 Da (.lst [])) (h1.new (.lst [])) p.1 p.2 :=
    ⟨fun i ρ H hm hi l r c => F.go i ρ H hm hi (l2.trans l) r c, fun i ρ H hm x H' d hd l r c y => F.yld i ρ H hm x H' d hd (l2.trans l) r c y, fun ρ H hm l r c => F.stop ρ H hm (l2.trans l) r c⟩
  refine nlc_loop hK hw F2 rs2 rset_same _ _ _ Le.refl r2 e2 fun ρ' H' l r => ?_
  refine q ρ' (.ref Da) H' (l1.trans (l2.trans l)) r ?_
  unfold RV
  exact ⟨Da, by rw [l.same h1.nx (Nat.lt_succ_self _)]; exact rset_same, rfl⟩
theorem n_lc {elt tg iter : Expr} {ifs : List Expr} {scope : Scope} {own : List (Str × Nat)} {pos : Pos} {src : NSrc} {c : Env → N Bool} {f : Env → N D} (t : Tgt) (hK : G.K = X.K) (hw : Tgt.within (own.map (·.2)) t = true)
    (h : PE X (.ListComp elt [⟨tg, iter, ifs, 0⟩] scope pos) (tLc (uI G W src) (Tgt.tg X.K t) (uT G W0 c) (uE G W0 f) (own.map (·.2)))) : PE X (.ListComp elt [⟨tg, iter, ifs, 0⟩] scope pos) (uE G W (nLc src t c f (own.map (·.2)))) :=
  PE.imp h fun _ _ _ q => nlc_run hK hw q
theorem n_setLc {st : Stmt} {i : Nat} {src : NSrc} {c : Env → N Bool} {f : Env → N D} {vs : List Nat} (t : Tgt) (hK : G.K = X.K) (hw : Tgt.within vs t = true)
    (h : PS X st (tAsg (tLc (uI G W src) (Tgt.tg X.K t) (uT G W0 c) (uE G W0 f) vs) (gName i))) : PS X st (uS G W (nSet i (nLc src t c f vs))) := PS.imp h fun D σ H z => nlc_run hK hw (nset_run z)
theorem nts_nil {W : WX} : PTs X [] (uT G W nYes) := ⟨fun pins s σ H Q I ⟨ρ, env, hm, rs, a⟩ => pts_nil.run pins s σ H Q I (a ρ H Le.refl rs.rh)⟩
theorem nts_one {W : WX} {c : Expr} {f : Env → N Bool} (h : PT X c (uT G W f)) : PTs X [c] (uT G W f) := pts_one h

/-! ### .. with two clauses -/
def nLc2Loop (t : Tgt) (c : Env → N Bool) (src1 : NSrc) (t1 : Tgt) (c1 : Env → N Bool) (f : Env → N D) (chk : Hm → Bool) (n : Nat) (env : Env) (vs1 : List Nat) : List D → Hm → Option Hm
  | [], hm => if chk hm = true then some hm else none
  | x :: xs, hm => if chk hm = true then match Tgt.store t x env with
      | some e => match c e hm with
        | .ok b h => if b = true then match src1 e h with
            | .ok p h2 => match nLcLoop t1 c1 f p.2 n (wipeE e vs1) p.1 h2 with
              | some h3 => nLc2Loop t c src1 t1 c1 f chk n env vs1 xs h3
              | none => none
            | _ => none
          else nLc2Loop t c src1 t1 c1 f chk n env vs1 xs h
        | _ => none
      | none => none
    else none
theorem nlc2_turn {t t1 : Tgt} {c c1 : Env → N Bool} {src1 : NSrc} {f : Env → N D} {chk : Hm → Bool} {n : Nat} {env : Env} {vs1 : List Nat} {x : D} {xs : List D} {hm hm' : Hm} (e : nLc2Loop t c src1 t1 c1 f chk n env vs1 (x :: xs) hm = some hm') :
    chk hm = true ∧ ∃ e1 b h1, Tgt.store t x env = some e1 ∧ c e1 hm = .ok b h1 ∧ ((b = true ∧ ∃ p h2 h3, src1 e1 h1 = .ok p h2 ∧ nLcLoop t1 c1 f p.2 n (wipeE e1 vs1) p.1 h2 = some h3 ∧ nLc2Loop t c src1 t1 c1 f chk n env vs1 xs h3 = some hm') ∨ (b = false ∧ nLc2Loop t c src1 t1 c1 f chk n env vs1 xs h1 = some hm')) := by
  unfold nLc2Loop at e
  by_cases c0 : chk hm = true
  · rw [if_pos c0] at e
    refine ⟨c0, ?_⟩
    cases e1 : Tgt.store t x env with
    | none => rw [e1] at e; cases e
    | some ev =>
      rw [e1] at e
      dsimp only at e
      cases e2 : c ev hm with
      | ex x h => rw [e2] at e; cases e
      | no => rw [e2] at e; cases e
      | ok b h1 =>
        rw [e2] at e
        dsimp only at e
        refine ⟨ev, b, h1, rfl, e2, ?_⟩
        cases b with
        | false => rw [if_neg Bool.false_ne_true] at e; exact .inr ⟨rfl, e⟩
        | true =>
          rw [if_pos rfl] at e
          cases e3 : src1 ev h1 with
          | ex x h => rw [e3] at e; cases e
          | no => rw [e3] at e; cases e
          | ok p h2 =>
            rw [e3] at e
            dsimp only at e
            cases e4 : nLcLoop t1 c1 f p.2 n (wipeE ev vs1) p.1 h2 with
            | none => rw [e4] at e; cases e
            | some h3 => rw [e4] at e; exact .inl ⟨rfl, p, h2, h3, rfl, e4, e⟩
  · rw [if_neg c0] at e; cases e
theorem nlc2_end {t t1 : Tgt} {c c1 : Env → N Bool} {src1 : NSrc} {f : Env → N D} {chk : Hm → Bool} {n : Nat} {env : Env} {vs1 : List Nat} {hm hm' : Hm} (e : nLc2Loop t c src1 t1 c1 f chk n env vs1 [] hm = some hm') : chk hm = true ∧ hm = hm' := by
  unfold nLc2Loop at e
  by_cases c0 : chk hm = true
  · rw [if_pos c0] at e; cases e; exact ⟨c0, rfl⟩
  · rw [if_neg c0] at e; cases e
def nLc2 (src : NSrc) (t : Tgt) (c : Env → N Bool) (src1 : NSrc) (t1 : Tgt) (c1 : Env → N Bool) (f : Env → N D) (vs vs1 : List Nat) : Env → N D := fun env => nBnd (src env) fun p hm =>
  mkList (nLc2Loop t c src1 t1 c1 f p.2 hm.nx (wipeE env vs) vs1 p.1 (hm.new (.lst []))) hm.nx
theorem nlc2_run {src src1 : NSrc} {t t1 : Tgt} {c c1 : Env → N Bool} {f : Env → N D} {vs vs1 : List Nat} (hK : G.K = X.K) (hw : Tgt.within vs t = true) (hw1 : Tgt.within vs1 t1 = true) {σ : L2.St} {H : Hp} {Q : VK} (h : uE G W (nLc2 src t c src1 t1 c1 f vs vs1) σ H Q) :
    tLc2 (uI G W src) (Tgt.tg X.K t) (uT G W0 c) (uI G W0 src1) (Tgt.tg X.K t1) (uT G W0 c1) (uE G W0 f) vs vs1 σ H Q := by
  obtain ⟨ρ, env, hm, rs, a⟩ := h
  refine ⟨ρ, env, hm, rs, a.bnd fun p h1 e1 a => fun ρ1 H1 J l1 r1 F Da hD => ?_⟩
  obtain ⟨items, chk⟩ := p
  obtain ⟨hmF, e2, q⟩ := mkList_aft (α := Unit) a
  obtain ⟨r2, l2⟩ := rh_lst (ds := []) (vs := []) r1 hD .nil
  have rs2 : RS G (rset ρ1 h1.nx Da) env (h1.new (.lst [])) σ (upd H1 Da (.lst [])) := (l1.trans l2).rs rs r2
  have hn0 : rset ρ1 h1.nx Da h1.nx = some Da := rset_same
  dsimp only at e2
  refine ⟨fun i m H3 => ∃ ρ3 h3, Le G.K (rset ρ1 h1.nx Da) (upd H1 Da (.lst [])) (h1.new (.lst [])) ρ3 H3 h3 ∧ RH G ρ3 H3 h3 ∧ m = items.length - i ∧ i ≤ items.length ∧ nLc2Loop t c src1 t1 c1 f chk h1.nx (wipeE env vs) vs1 (items.drop i) h3 = some hmF,
    ⟨items.length, _, _, Le.refl, r2, by omega, Nat.zero_le _, e2⟩, ?_⟩
  rintro i m H3 ⟨ρ3, h3, l3, r3, rfl, hle, e3⟩
  have at3 : ρ3 h1.nx = some Da := by rw [l3.same h1.nx (Nat.lt_succ_self _)]; exact hn0
  have l13 : Le G.K ρ1 H1 h1 ρ3 H3 h3 := l2.trans l3
  have rs3 : RS G ρ3 env h3 σ H3 := l3.rs rs2 r3
  cases hd : items.drop i with
  | nil =>
    rw [hd] at e3
    obtain ⟨c3, rfl⟩ := nlc2_end e3
    have ei := drop_nil hle hd
    refine .inl ⟨by rw [ei]; exact F.stop ρ3 H3 _ l13 r3 c3, ?_⟩
    refine q ρ3 (.ref Da) H3 (l1.trans l13) r3 ?_
    unfold RV
    exact ⟨Da, at3, rfl⟩
  | cons x xs =>
    rw [hd] at e3
    obtain ⟨hx, hlt, hdx⟩ := drop_cons hd
    obtain ⟨c4, ev, b, h7, he, a7, e7⟩ := nlc2_turn e3
    refine .inr ⟨F.go i ρ3 H3 _ hlt l13 r3 c4, fun H' => ∃ ρ4 h4, Le G.K (rset ρ1 h1.nx Da) (upd H1 Da (.lst [])) (h1.new (.lst [])) ρ4 H' h4 ∧ RH G ρ4 H' h4 ∧ nLc2Loop t c src1 t1 c1 f chk h1.nx (wipeE env vs) vs1 (items.drop (i + 1)) h4 = some hmF,
      fun H' ⟨ρ4, h4, z1, z2, z3⟩ => ⟨items.length - (i + 1), by omega, ρ4, h4, z1, z2, rfl, hlt, z3⟩, fun v H5 y => ?_⟩
    obtain ⟨l5, r5, v5⟩ := F.yld i ρ3 H3 _ v H5 x hx l13 r3 c4 y
    have rs5 : RS G ρ3 (wipeE env vs) _ (wipe σ vs) H5 := (l5.rs rs3 r5).wiped vs
    rw [← hK]
    refine tgt_run t rs5 v5 he hw fun σ6 r6 w6 => ⟨w6.trans wipe_idem, ?_⟩
    refine ⟨ρ3, ev, _, r6, AftR.no0 a7 fun ρ7 H7 l7 r7 => ?_⟩
    have l37 := l5.trans l7
    rcases e7 with ⟨rfl, p, h8, h9, a8, a9, e9⟩ | ⟨rfl, e7⟩
    · dsimp only
      rw [if_pos rfl]
      have rs7 := l7.rs r6 r7
      refine ⟨ρ7, ev, h7, rs7, AftR.no0 a8 fun ρ8 H8 J1 l8 r8 F1 => ?_⟩
      have l38 := l37.trans l8
      have at8 : ρ8 h1.nx = some Da := by rw [l38.same h1.nx (r3.dom _ _ at3)]; exact at3
      have z := nlc_loop (X := X) (Fin := fun H' => ∃ ρ4 h4, Le G.K (rset ρ1 h1.nx Da) (upd H1 Da (.lst [])) (h1.new (.lst [])) ρ4 H' h4 ∧ RH G ρ4 H' h4 ∧ nLc2Loop t c src1 t1 c1 f chk h1.nx (wipeE env vs) vs1 (items.drop (i + 1)) h4 = some hmF) hK hw1 F1 (l8.rs rs7 r8) at8 ρ8 H8 h8 Le.refl r8 a9 fun ρ' H' l r => ⟨ρ', h9, l3.trans (l38.trans l), r, by rw [hdx]; exact e9⟩
      rw [← hK] at z
      exact z
    · dsimp only
      rw [if_neg Bool.false_ne_true]
      exact ⟨ρ7, h7, l3.trans l37, r7, by rw [hdx]; exact e7⟩
theorem n_lc2 {elt tg iter tg1 iter1 : Expr} {ifs ifs1 : List Expr} {scope : Scope} {own : List (Str × Nat)} {pos : Pos} {src src1 : NSrc} {c c1 : Env → N Bool} {f : Env → N D} {vs1 : List Nat} (t t1 : Tgt) (hK : G.K = X.K) (hw : Tgt.within (own.map (·.2)) t = true) (hw1 : Tgt.within vs1 t1 = true)
    (h : PE X (.ListComp elt [⟨tg, iter, ifs, 0⟩, ⟨tg1, iter1, ifs1, 0⟩] scope pos) (tLc2 (uI G W src) (Tgt.tg X.K t) (uT G W0 c) (uI G W0 src1) (Tgt.tg X.K t1) (uT G W0 c1) (uE G W0 f) (own.map (·.2)) vs1)) :
    PE X (.ListComp elt [⟨tg, iter, ifs, 0⟩, ⟨tg1, iter1, ifs1, 0⟩] scope pos) (uE G W (nLc2 src t c src1 t1 c1 f (own.map (·.2)) vs1)) := PE.imp h fun _ _ _ q => nlc2_run hK hw hw1 q
end
end Eng
set_option maxRecDepth 100000
set_option maxHeartbeats 4000000
/-! Defs that may raise, and their calls: by place, by name, through a value; raise; contexts. -/
namespace Eng
open PySem PySem.Spec PyProof.Rows L2

/-! ### what a text's context gives -/
structure OkN (X : Cx) (G : Gd) (W : WX) : Prop where
  K : G.K = X.K
  calm : X.calm = true
  so : G.SO = SetDO X.prog X.w
  hu : X.A.units + 100 < cLine
  tk : Takes X W
  po : PassesOwn (model X.prog X.w) X.A X.env X.xe
theorem OkN.u1 {X : Cx} {G : Gd} {W : WX} (o : OkN X G W) : X.A.units + 1 < cLine := by have := o.hu; omega
theorem OkN.u2 {X : Cx} {G : Gd} {W : WX} (o : OkN X G W) : X.A.units + 2 < cLine := by have := o.hu; omega
theorem OkN.u65 {X : Cx} {G : Gd} {W : WX} (o : OkN X G W) : X.A.units + 65 < cLine := by have := o.hu; omega
/-- the old context's facts, for rules that lean on them -/
theorem OkN.ok {X : Cx} {G : Gd} {W : WX} (o : OkN X G W) : Ok X G := ⟨o.K, o.calm, o.so, o.hu⟩
abbrev WD (E : XK) : WX := fun cls d _ H => E cls d H
theorem okDef {P : Program} {w : World} {K : PySem.W.Frag} {mg : Str → Option Value} {base : Heap} {N : List Str} {qual : Str} {sc : Scope} {f : Addr} {cdv : Value} {A : Around} {outer : List PySem.Env} {s : Shared} {H : Hp} {E : XK} {G : Gd} {k : Nat}
    (hK : G.K = K) (hS : G.SO = SetDO P w) (hr : Room k (A.deeper (envOfC qual sc s.heap.objs.size f cdv))) : OkN (cxOf (L2.CX P w) P w K mg base N qual sc f cdv A outer s H E) G (WD E) where
  K := hK
  calm := by rfl
  so := hS
  hu := by
    have := hr.un
    show (A.deeper (envOfC qual sc s.heap.objs.size f cdv)).units + 100 < cLine
    omega
  tk := takes_of rfl rfl rfl rfl
  po := passes_of rfl
/-- inside a comprehension -/
theorem okBlkN {X : Cx} {G : Gd} {W : WX} (o : OkN X G W) {s : Shared} {H : Hp} {scope : Scope} {env : PySem.Env} {fp : List Addr} : OkN (X.blk s H scope env fp) G W0 where
  K := o.K
  calm := o.calm
  so := o.so
  hu := by
    have := o.hu
    exact this
  tk := takes0
  po := PassesOwn.never
/-- inside a try -/
theorem okTry {X : Cx} {G : Gd} {W W' : WX} (o : OkN X G W) {pn : List (Addr × Obj)} {xe : Value → Shared → Prop} (tk : Takes (X.tr pn xe) W') (po : PassesOwn (model X.prog X.w) X.A X.env xe) : OkN (X.tr pn xe) G W' where
  K := o.K
  calm := o.calm
  so := o.so
  hu := o.hu
  tk := tk
  po := po

/-! ### defs -/
/-- an exception that holds no places -/
def Xc.pure (x : Xc) : Bool := match x.fs with
  | none => true
  | some fs => D.underKV 0 fs
theorem RX.cut {G : Gd} {ρ ρ' : Nat → Option Addr} {H : Hp} {x : Xc} {cls : Value} {d : Option Addr} (p : x.pure = true) (h : RX G ρ H x cls d) : RX G ρ' H x cls d := by
  obtain ⟨h1, h2⟩ := h
  refine ⟨h1, ?_⟩
  obtain ⟨k, fs⟩ := x
  cases fs with
  | none => exact h2
  | some fs =>
    obtain ⟨a, ys, e, z, r⟩ := h2
    exact ⟨a, ys, e, z, RK.cut (n0 := 0) (fun n hn => absurd hn (Nat.not_lt_zero n)) p r⟩
def AftD (G : Gd) (ρ : Nat → Option Addr) (H : Hp) (hm : Hm) (Q : VK) (E : XK) : R D → Prop
  | .ok d h => Aft G ρ H hm d h Q
  | .ex x h => ∀ ρ' H' cls d, Le G.K ρ H hm ρ' H' h → RH G ρ' H' h → RX G ρ' H' x cls d → E cls d H'
  | .no => False
/-- what a def promises: f of its arguments -/
def spN (G : Gd) (n : Nat) (f : List D → N D) : Sp := fun vs H Q E => ∃ ρ hm ds, RH G ρ H hm ∧ RVs G.K ρ H ds vs ∧ ds.length = n ∧ AftD G ρ H hm Q E (f ds hm)
def nDef (n : Nat) (body : Sf) : List D → N D := fun ds hm => match body (enter n ds) hm with
  | .rt d h1 => .ok (trunc hm.nx d h1).1 (trunc hm.nx d h1).2
  | .nx _ h1 => .ok .non (trunc hm.nx .non h1).2
  | .ex x _ h1 => if x.pure = true then .ex x (trunc hm.nx .non h1).2 else .no
  | _ => .no
/-- a def behind the top -/
theorem ndef_ok {P : Program} {w : World} {K : PySem.W.Frag} {mg : Str → Option Value} {base : Heap} {G : Gd} {x qual : Str} {st : Stmt} {f : Addr} {fd : FuncData} {N ps : List Str} {k n m : Nat} {body : Sf} (F : FunA K x qual st f fd) (S : FnScope N ps (defScope st)) (hn : ps.length = n) (hm : N.length = m)
    (hb : ∀ (cdv : Value) (A : Around) (outer : List PySem.Env) (s : Shared) (H : Hp) (E : XK), Room k (A.deeper (envOfC qual (defScope st) s.heap.objs.size f cdv)) → PSs (cxOf (L2.CX P w) P w K mg base N qual (defScope st) f cdv A outer s H E) (defBody st) (uS G (WD E) body)) :
    FnOk P w K mg base (L2.CX P w) (k + 1) f fd ps (spN G n (nDef m body)) := by
  subst hm
  obtain ⟨oc, od, dV, kV, doc, pm, an, cdv, ct, osl, rfl, lk, hcd⟩ := F.ex
  refine fn_of lk hcd S (fun vs H Q E h => ?_) (fun A outer s H vs Q E hr h => ?_)
  · obtain ⟨ρ, hm, ds, r, rv, hl, _⟩ := h
    rw [← rv.length, hl, hn]
  obtain ⟨ρ, hm, ds, r, rv, hl, a⟩ := h
  refine ⟨_, hb cdv A outer s H E hr, ?_⟩
  have rs := enter_rs (N := N) r rv
  refine ⟨ρ, _, hm, rs, ?_⟩
  unfold nDef at a
  cases eb : body (enter N.length ds) hm with
  | rt d1 h1 =>
    rw [eb] at a
    intro ρ1 v H1 l1 r1 z
    obtain ⟨ρ2, l2, r2, z2⟩ := trunc_ok r l1 r1 z
    exact (show Aft G ρ H hm (trunc hm.nx d1 h1).1 (trunc hm.nx d1 h1).2 Q from a) ρ2 v H1 l2 r2 z2
  | nx e1 h1 =>
    rw [eb] at a
    intro ρ1 σ1 H1 l1 r1
    obtain ⟨ρ2, l2, r2, z2⟩ := trunc_ok (d := .non) (v := .non) r l1 r1.rh (by unfold RV; rfl)
    exact (show Aft G ρ H hm .non (trunc hm.nx .non h1).2 Q from a) ρ2 .non H1 l2 r2 (by unfold RV; rfl)
  | ex x e1 h1 =>
    rw [eb] at a
    dsimp only at a
    by_cases p : x.pure = true
    · rw [if_pos p] at a
      intro ρ1 σ1 H1 cls d l1 r1 rx
      obtain ⟨ρ2, l2, r2, _⟩ := trunc_ok (d := .non) (v := .non) r l1 r1.rh (by unfold RV; rfl)
      exact a ρ2 H1 cls d l2 r2 (rx.cut p)
    · rw [if_neg p] at a; exact a.elim
  | bk e1 h1 => rw [eb] at a; exact a.elim
  | ct e1 h1 => rw [eb] at a; exact a.elim
  | no => rw [eb] at a; exact a.elim
/-- nothing is promised where nothing is computed -/
theorem ndef_none {P : Program} {w : World} {K : PySem.W.Frag} {mg : Str → Option Value} {base : Heap} {f : Addr} {fd : FuncData} {ps : List Str} {k n : Nat} {G : Gd} : FnOk P w K mg base (L2.CX P w) k f fd ps (spN G n fun _ _ => .no) := by
  have no : ∀ vs H Q E, ¬ spN G n (fun _ _ => .no) vs H Q E := fun vs H Q E ⟨ρ, hm, ds, r, rv, hl, a⟩ => a
  exact ⟨fun vs H Q E h => absurd h (no vs H Q E), fun A outer s H args us vs Q E _ _ _ _ h => absurd h (no vs H Q E)⟩

/-! ### calls -/
/-- a def that can be called -/
structure CalN (P : Program) (w : World) (K : PySem.W.Frag) (mg : Str → Option Value) (base : Heap) (G : Gd) (x : Str) (k n : Nat) (g : List D → N D) (dvs : List D) where
  f : Addr
  fd : FuncData
  ps : List Str
  ds : List Value
  dv : List V
  ok : FnOk P w K mg base (L2.CX P w) k f fd ps (spN G n g)
  kp : PySem.W.keepIn K (.ref f) = true
  m : mg x = some (.ref f)
  b : Binds K fd ps ds
  d : Vals dv ds
  fl : flats dvs dv
def callOf (n : Nat) (g : List D → N D) (dvs ds : List D) : N D := if Nat.beq (ds ++ dvs).length n = true then g (ds ++ dvs) else rNo
def nCallD (n : Nat) (g : List D → N D) (dvs : List D) (fa : Env → N (List D)) : Env → N D := fun env => nBnd (fa env) fun ds => callOf n g dvs ds
section
variable {X : Cx} {G : Gd} {W : WX}
theorem callOf_sp {n : Nat} {g : List D → N D} {dvs ds : List D} {dv vs : List V} {ρ ρ1 : Nat → Option Addr} {H H1 : Hp} {hm h1 : Hm} {σ : L2.St} {Q : VK} (hd : flats dvs dv) (l1 : Le G.K ρ H hm ρ1 H1 h1) (r1 : RH G ρ1 H1 h1) (z : RVs G.K ρ1 H1 ds vs)
    (a : AftR G W σ ρ H hm (fun d h => Aft G ρ H hm d h Q) (callOf n g dvs ds h1)) : spN G n g (vs ++ dv) H1 Q (fun cls d H => W cls d σ H) := by
  unfold callOf at a
  by_cases hl : Nat.beq (ds ++ dvs).length n = true
  · rw [if_pos hl] at a
    refine ⟨ρ1, h1, ds ++ dvs, r1, z.append hd.rvs, Nat.eq_of_beq_eq_true hl, ?_⟩
    cases e : g (ds ++ dvs) h1 with
    | ok d h2 => rw [e] at a; exact Aft.le a l1
    | ex x h2 => rw [e] at a; exact fun ρ' H' cls d l r rx => a ρ' H' cls d (l1.trans l) r rx
    | no => rw [e] at a; exact a.elim
  · rw [if_neg hl] at a; exact a.elim
theorem ncall_run {n : Nat} {g : List D → N D} {dvs : List D} {dv : List V} {fa : Env → N (List D)} (hd : flats dvs dv) {σ : L2.St} {H : Hp} {Q : VK} (h : uE G W (nCallD n g dvs fa) σ H Q) : tCallSD (spN G n g) dv (WE W) (uA G W fa) σ H Q := by
  obtain ⟨ρ, env, hm, rs, a⟩ := h
  exact ⟨ρ, env, hm, rs, a.bnd fun ds h1 e1 a => fun ρ1 vs H1 l1 r1 z => callOf_sp hd l1 r1 z a⟩
theorem n_cal {x : Str} {k n : Nat} {g : List D → N D} {dvs : List D} {p pos : Pos} {e : Expr} {es : List Expr} {fa : Env → N (List D)} (C : CalN X.prog X.w X.K X.mg X.base G x k n g dvs) (tk : Takes X W) (hr : Room k X.A) (hg : Gl X x) (ha : PA X (e :: es) (uA G W fa)) (hdb : (x == ("__debug__" : Str)) = false := by decide)
    (he : starEach (e :: es) X.env = (false, eval e X.env) :: starEach es X.env := by rfl) (hpl : (backTo pos (starEach es X.env)).any (·.1) = false := by rfl) : PE X (.Call (.Name x p) (e :: es) [] pos) (uE G W (nCallD n g dvs fa)) :=
  PE.imp (pe_callSD C.ok hr hg C.m C.kp C.b C.d (fun σ => passAt tk σ) ha hdb he hpl) fun _ _ _ h => ncall_run C.fl h
theorem n_cal0 {x : Str} {k n : Nat} {g : List D → N D} {dvs : List D} {p pos : Pos} (C : CalN X.prog X.w X.K X.mg X.base G x k n g dvs) (tk : Takes X W) (hr : Room k X.A) (hg : Gl X x) (hdb : (x == ("__debug__" : Str)) = false := by decide) : PE X (.Call (.Name x p) [] [] pos) (uE G W (nCallD n g dvs nNil)) := by
  refine ⟨fun pins s σ H Q I h => ?_⟩
  obtain ⟨ρ, env, hm, rs, a⟩ := ncall_run (fa := nNil) C.fl h
  refine wpAny_Call_Name_kw (ld_glob I hg C.m ?_ hdb)
  exact PySem.W.callWith_K0 I.kIn C.kp (run_fnSD (us := []) C.ok hr C.b C.d (passAt tk σ) I .nil (a ρ [] H Le.refl rs.rh .nil))

/-! ### calls by names of parameters -/
/-- the values of the keywords, in the parameters' order: the place of each parameter among the keywords -/
def pick {α : Type} (is : List Nat) (xs : List α) : List α := is.filterMap fun i => xs[i]?
theorem pick_vals {is : List Nat} : ∀ {vs : List V} {us : List Value}, Vals vs us → Vals (pick is vs) (pick is us) := by
  induction is with
  | nil => intro vs us h; exact .nil
  | cons i is ih =>
    intro vs us h
    unfold pick
    rw [List.filterMap_cons, List.filterMap_cons]
    cases e : vs[i]? with
    | none => rw [h.none_of e]; exact ih h
    | some v =>
      obtain ⟨u, e2, r⟩ := h.get e
      rw [e2]
      exact .cons r (ih h)
theorem pick_rvs {K : PySem.W.Frag} {ρ : Nat → Option Addr} {H : Hp} {is : List Nat} {ds : List D} {vs : List V} (h : RVs K ρ H ds vs) : RVs K ρ H (pick is ds) (pick is vs) := by
  induction is with
  | nil => unfold RVs pick; rfl
  | cons i is ih =>
    unfold pick
    rw [List.filterMap_cons, List.filterMap_cons]
    cases e : ds[i]? with
    | none =>
      have : vs[i]? = none := by
        cases e2 : vs[i]? with
        | none => rfl
        | some v => obtain ⟨d, e3, _⟩ := h.got e2; rw [e] at e3; cases e3
      rw [this]; exact ih
    | some d =>
      obtain ⟨v, e2, r⟩ := h.get e
      rw [e2]
      exact .cons r ih
structure CalK (P : Program) (w : World) (K : PySem.W.Frag) (mg : Str → Option Value) (base : Heap) (G : Gd) (x : Str) (k n : Nat) (g : List D → N D) (ks : List Str) (is : List Nat) where
  f : Addr
  fd : FuncData
  ps : List Str
  ok : FnOk P w K mg base (L2.CX P w) k f fd ps (spN G n g)
  kp : PySem.W.keepIn K (.ref f) = true
  m : mg x = some (.ref f)
  b : ∀ (s : Shared) (ws : List Value), K.In s.heap → ws.length = ks.length → BindsTo s fd ⟨[], ks.zip ws⟩ (ps.zip (pick is ws))
def nCallK (n m : Nat) (g : List D → N D) (is : List Nat) (fa : Env → N (List D)) : Env → N D := fun env => nBnd (fa env) fun ds => if Nat.beq ds.length m = true then callOf n g [] (pick is ds) else rNo
/-- keyword values -/
theorem nk_nil : PK X [] (uA G W nNil) := ⟨fun pos pins s σ H Q I ⟨ρ, env, hm, rs, a⟩ => pk_nil.run pos pins s σ H Q I (a ρ [] H Le.refl rs.rh .nil)⟩
theorem PK.imp {es : List Keyword} {t t' : TA} (h : PK X es t) (i : ∀ σ H Q, t' σ H Q → t σ H Q) : PK X es t' := ⟨fun pos pins s σ H Q I q => h.run pos pins s σ H Q I (i σ H Q q)⟩
theorem nk_cons {e : Expr} {kws : List Keyword} {nm : Option Str} {kpos : Pos} {f : Env → N D} {g : Env → N (List D)} (ha : PE X e (uE G W f)) (hr : PK X kws (uA G W g)) : PK X (⟨nm, e, kpos⟩ :: kws) (uA G W (nCons f g)) :=
  PK.imp (pk_cons ha hr) fun σ H Q ⟨ρ, env, hm, rs, a⟩ => by
    refine ⟨ρ, env, hm, rs, a.bnd fun x h1 e1 a => fun ρ1 v1 H1 l1 r1 v => ?_⟩
    refine ⟨ρ1, env, h1, l1.rs rs r1, (a.le l1 fun d h q => q.le l1).bnd fun y h2 e2 a => fun ρ2 vs H2 l2 r2 u => ?_⟩
    exact a ρ2 (v1 :: vs) H2 l2 r2 (.cons (l2.rv r1 v) u)
theorem n_calk {x : Str} {k n : Nat} {g : List D → N D} {ks : List Str} {is : List Nat} {m : Nat} {p pos : Pos} {kws : List Keyword} {fa : Env → N (List D)} (C : CalK X.prog X.w X.K X.mg X.base G x k n g ks is) (tk : Takes X W) (hr : Room k X.A) (hg : Gl X x) (hkw : PK X kws (uA G W fa)) (hm : ks.length = m := by rfl)
    (hall : (backToKw pos (keywordEach kws X.env)).all (·.1.isSome) = true := by rfl) (hks : (backToKw pos (keywordEach kws X.env)).filterMap (·.1) = ks := by rfl) (hdb : (x == ("__debug__" : Str)) = false := by decide)
    (hpl : ((backTo pos (starEach [] X.env)).any (·.1) || (backToKw pos (keywordEach kws X.env)).any (·.1.isNone)) = false := by rfl) : PE X (.Call (.Name x p) [] kws pos) (uE G W (nCallK n m g is fa)) := by
  refine ⟨fun pins s σ H Q I h => ?_⟩
  obtain ⟨ρ, env, hm0, rs, a⟩ := h
  refine wpAny_Call_Name_kw (ld_glob I hg C.m ?_ hdb)
  have hk : uA G W fa σ H (fun zs H2 => ∃ us : List V, us = pick is zs ∧ zs.length = m ∧ spN G n g us H2 Q (fun cls d H => W cls d σ H)) := ⟨ρ, env, hm0, rs, a.bnd fun ds h1 e1 a => fun ρ1 vs H1 l1 r1 z => by
    by_cases hl : Nat.beq ds.length m = true
    · rw [if_pos hl] at a
      refine ⟨_, rfl, by rw [← z.length]; exact Nat.eq_of_beq_eq_true hl, ?_⟩
      have := callOf_sp (dvs := []) (dv := []) rfl l1 r1 (pick_rvs (is := is) z) a
      rw [List.append_nil] at this
      exact this
    · rw [if_neg hl] at a; exact a.elim⟩
  refine PySem.W.callWith_KW0 (h₀ := X.base) I.ok.mod.kin C.kp hall (thn (hkw.run pos pins s σ H _ I hk) fun ws s1 ⟨zs, H1, I1, rz, us, eu, hz, q⟩ => ⟨I1.kIn, ?_⟩) hpl
  subst eu
  rw [hks]
  have rp := pick_vals (is := is) rz
  refine wpAny_call (codeAny_mono (C.ok.run X.A X.stack s1 H1 ⟨[], ks.zip ws⟩ (pick is ws) (pick is zs) Q (WE W σ) hr I1.env0 (C.b s1 ws I1.kIn (by rw [← rz.length, hz, hm])) rp q) fun r s' hq => ?_)
  cases r with
  | error e => exact passAt tk σ pins H1 s1 e s' I1 hq
  | ok fl =>
    cases fl with
    | ret u => exact I1.after hq
    | next => exact False.elim hq
    | brk => exact False.elim hq
    | cont => exact False.elim hq

/-! ### defs as values -/
/-- the name of a def, as a value: its number -/
theorem n_fn {x : Str} {pos : Pos} {i : Nat} {a : Addr} (hp : (i, a) ∈ G.pins) (hg : Gl X x) (hm : X.mg x = some (.ref a)) (hdb : (x == ("__debug__" : Str)) = false := by decide) : PE X (.Name x pos) (uE G W (nC (.ref i))) := by
  refine ⟨fun pins s σ H Q I h => ?_⟩
  obtain ⟨ρ, env, hm0, rs, q⟩ := h
  refine ld_glob I hg hm ⟨.ref a, H, I, rfl, ?_⟩ hdb
  refine q ρ (.ref a) H Le.refl rs.rh ?_
  unfold RV
  exact ⟨a, rs.rh.base (i, a) hp, rfl⟩
/-- a def, by its number -/
structure CalV (P : Program) (w : World) (K : PySem.W.Frag) (mg : Str → Option Value) (base : Heap) (G : Gd) (k : Nat) (i n : Nat) (g : List D → N D) where
  f : Addr
  fd : FuncData
  ps : List Str
  ok : FnOk P w K mg base (L2.CX P w) k f fd ps (spN G n g)
  kp : PySem.W.keepIn K (.ref f) = true
  m : (i, f) ∈ G.pins
  b : Binds K fd ps []
/-- the table of the defs that a value may be -/
abbrev Tab := List (Nat × Nat × (List D → N D))
def Tab.at : Tab → Nat → Option (Nat × (List D → N D))
  | [], _ => none
  | (j, r) :: t, i => if Nat.beq j i = true then some r else Tab.at t i
def tabOf (t : Tab) (d : D) : Option (Nat × (List D → N D)) := match d with
  | .ref i => Tab.at t i
  | _ => none
def nCallV (t : Tab) (ff : Env → N D) (fa : Env → N (List D)) : Env → N D := fun env => nBnd (ff env) fun d => match tabOf t d with
  | some (n, g) => nBnd (fa env) fun ds => callOf n g [] ds
  | none => rNo
theorem n_calv {k : Nat} {t : Tab} {fe : Expr} {e : Expr} {es : List Expr} {pos : Pos} {ff : Env → N D} {fa : Env → N (List D)} (C : ∀ i n g, Tab.at t i = some (n, g) → Nonempty (CalV X.prog X.w X.K X.mg X.base G k i n g)) (tk : Takes X W) (hr : Room k X.A) (hf : PE X fe (uE G W ff)) (ha : PA X (e :: es) (uA G W fa))
    (hev : eval (.Call fe (e :: es) [] pos) X.env = (do callWith pos (← eval fe X.env) [] (backTo pos (starEach (e :: es) X.env)) (backToKw pos (keywordEach [] X.env))) := by rfl)
    (he : starEach (e :: es) X.env = (false, eval e X.env) :: starEach es X.env := by rfl) (hpl : (backTo pos (starEach es X.env)).any (·.1) = false := by rfl) : PE X (.Call fe (e :: es) [] pos) (uE G W (nCallV t ff fa)) := by
  refine ⟨fun pins s σ H Q I h => ?_⟩
  obtain ⟨ρ, env, hm, rs, a⟩ := h
  rw [hev]
  refine wpAny_bind (thn (hf.run pins s σ H (fun x H1 => ∃ ρ1 h1 i n g, Le G.K ρ H hm ρ1 H1 h1 ∧ RH G ρ1 H1 h1 ∧ RV G.K ρ1 H1 (.ref i) x ∧ Tab.at t i = some (n, g) ∧ AftR G W σ ρ H hm (fun d h => Aft G ρ H hm d h Q) (nBnd (fa env) (fun ds => callOf n g [] ds) h1)) I ⟨ρ, env, hm, rs, a.bnd fun d h1 e1 a => fun ρ1 v1 H1 l1 r1 v => by
    cases et : tabOf t d with
    | none => simp only [et] at a; exact a.elim
    | some p =>
      obtain ⟨n, g⟩ := p
      simp only [et] at a
      cases d with
      | ref i => exact ⟨ρ1, h1, i, n, g, l1, r1, v, et, a⟩
      | _ => cases et⟩) fun u s1 ⟨x, H1, I1, rx, ρ1, h1, i, n, g, l1, r1, v, et, a⟩ => ?_)
  obtain ⟨c⟩ := C i n g et
  unfold RV at v
  obtain ⟨b, hb, rfl⟩ := v
  rw [r1.base _ c.m] at hb
  cases hb
  obtain rfl : u = Value.ref c.f := rx
  have z : uA G W fa σ H1 (fun vs H2 => spN G n g vs H2 Q (fun cls d H => W cls d σ H)) := ⟨ρ1, env, h1, l1.rs rs r1, (a.le l1 fun d h q => q.le l1).bnd fun ds h2 e2 a => fun ρ2 vs H2 l2 r2 zz => by
    have := callOf_sp (dvs := []) (dv := []) rfl l2 r2 zz a
    rw [List.append_nil] at this
    exact this⟩
  refine PySem.W.callWith_K (h₀ := X.base) I1.ok.mod.kin c.kp (thn (ha.run pos pins s1 σ H1 _ I1 z) fun us s2 ⟨vs, H2, I2, rr, q⟩ => ⟨I2.kIn, ?_⟩) he hpl
  exact run_fnSD (ds := []) (dvs := []) c.ok hr c.b .nil (passAt tk σ) I2 rr (by rw [List.append_nil]; exact q)
end
end Eng
set_option maxRecDepth 100000
set_option maxHeartbeats 4000000
/-! Own exception classes over a built-in one, their __init__ storing one attribute: made, raised. -/
namespace Eng
open PySem PySem.Spec PySem.Calls PyProof.Rows PySem.HandSPX L2

/-- a built-in class below which own ones stand -/
structure XBase where
  B : String
  nid : String
  iid : String
  bm : List Value
  F : ExcBaseFacts B nid iid bm
  pass : ∀ self : Value, refuseLoop self "__setattr__" bm = pure ()
  ob : bm.contains (.type "object") = true
def xbVE : XBase := ⟨_, _, _, _, F.excBase_ValueError, F.store_ValueError.passes, by decide +kernel⟩
def xbLE : XBase := ⟨_, _, _, _, F.excBase_LookupError, F.store_LookupError.passes, by decide +kernel⟩
section
open Builtin Builtin.ObjectAttr
variable {prog : Program} {w : World} {A : Around} {E : Value → Shared → Prop} {hp : Heap} {g : Array GenState} {d : Drawn} {t : Nat} {os : OsState}
/-- the first attribute of an exception: its dict is laid -/
theorem sa_first {R : Result → Shared → Prop} (Z : XBase) {K : PySem.W.Frag} {f : Str} {tk : Tok} {u : Value} {a C : Addr} {fv : Array Value} {cd : ClassData} (kin : K.In hp)
    (ha : hp.get? a = some { cls := .ref C, data := .fields fv }) (hcd : PySem.W.clsIn K C = some cd) (hmro : cd.mro = .ref C :: Z.bm) (hdict : cd.hasDict = true)
    (hno : PySem.W.findIn K (.ref C) f = some none)
    (go : ∀ (h2 : Heap) (tk2 : Nat) (dx : Addr), (∀ b o, b ≠ a → hp.get? b = some o → h2.get? b = some o) → hp.objs.size ≤ dx → dx ≠ a →
      h2.get? a = some { cls := .ref C, dict := some dx, data := .fields fv } → h2.Ns1 dx (fun y => if y = f then some u else none) →
      R (.ok (.ret .none)) ⟨h2, g, d, tk2, os⟩) :
    codeAny (model prog w) A (.call (.builtin "object.__setattr__") ⟨[.ref a, .str f tk, u], []⟩) R ⟨hp, g, d, t, os⟩ := by
  have inst : PySem.W.InstAt hp a { cls := .ref C, data := .fields fv } C none := ⟨ha, rfl, rfl, trivial⟩
  have S := F.store_object
  have am : a ≠ hp.objs.size := Nat.ne_of_lt (Heap.lt_size ha)
  have obj : cd.mro.contains (.type "object") = true := by rw [hmro, List.contains_cons, Z.ob, Bool.or_true]
  have isObj : PySem.W.Looks (model prog w) hp (isInstance (.ref a) (.type "object")) true := by
    refine inst.type.andThen (PySem.W.looks_mroIn kin ?_)
    unfold PySem.W.mroIn
    rw [hcd, Option.bind_some, if_neg (by rw [hmro]; exact Bool.false_ne_true), obj]
  refine codeAny_call_builtin S.slot.plain S.entry
    (@PySem.W.check_slot (model prog w) _ _ ⟨hp, g, d, t, os⟩ "object.__setattr__" "object" "__setattr__" (.ref a) [.str f tk, u] [] _
    S.kind S.split isObj (S.args (.ref a) (.str f tk) u) ?_)
  have lm : PySem.W.Looks (model prog w) hp (mroOf (.ref C)) cd.mro := (PySem.W.looks_clsIn kin hcd).andThen .now
  have lt : PySem.W.Looks (model prog w) hp (storeTaker? none) none := .now
  have lc : PySem.W.Looks (model prog w) hp (classData C) cd := PySem.W.looks_clsIn kin hcd
  rw [PySem.W.osa_eq, refuse_eq]
  refine wpAny_bind (wpAny_bind (inst.type.at (wpAny_bind (lm.at ?_))))
  rw [hmro, refuseLoop_ref, Z.pass]
  refine wpAny_pure (wpAny_bind (inst.type.at (wpAny_bind ((PySem.W.looks_findIn kin hno).at
    (wpAny_bind (lt.at ?_))))))
  show wpAny _ _ (storeInOwnDict (.ref a) (.ref C) (.str f tk) f u false) _ _ _
  obtain ⟨c1, c2, c3, c4, c5, c6, c7, c8, c9, c10, c11⟩ := cd
  dsimp only at hdict
  subst hdict
  unfold storeInOwnDict ownDictForStores
  repeat (first
    | with_reducible refine store_in_new ?_ ?_
    | with_reducible refine wpAny_loadPart_at ha ?_
    | with_reducible refine lc.at ?_
    | wp_step)
  · exact ⟨_, #[], _, (Heap.get?_update_ne _ _ _ _ am.symm).trans (Heap.get?_push_at rfl rfl), rfl, (fun e he => absurd he (by simp)), fun _ => rfl⟩
  · intro h2 tk2 ns sb
    have ha1 : (hp.push { cls := .type "dict", data := .dict #[] }).get? a = some { cls := .ref C, data := .fields fv } := Heap.get?_push_of_some _ ha
    refine go h2 tk2 hp.objs.size (fun b o hb ho => ?_) (Nat.le_refl _) am.symm ?_ ns
    · exact (sb.2 b (Nat.ne_of_lt (Heap.lt_size ho))).trans ((Heap.get?_update_ne _ _ _ _ hb).trans (Heap.get?_push_of_some _ ho))
    · exact (sb.2 a am).trans (Heap.get?_update_self _ ha1 rfl)
end

/-- what the written part says of an own class right below Z -/
structure XCl (Z : XBase) (K : PySem.W.Frag) (C : Addr) : Prop where
  cl : ∃ nm q N bs sn sub ab col dd k0 k1 k2 k3 k5, K.lookup C = some (excClassObj nm q C N bs Z.bm true sn sub ab col dd k0 k1 k2 k3 k5 Z.nid)
  sa : PySem.W.findIn K (.ref C) "__setattr__" = some (some (.builtin "object.__setattr__"))
  ex : PySem.W.subIn K (.ref C) (.type "BaseException") = some true
  ty : PySem.W.typeIn K (.ref C) = some (.type "type")
  kp : PySem.W.keepIn K (.ref C) = true
section
variable {X : Cx} {pins : List (Addr × Obj)} {σ : L2.St} {H : Hp} {s : Shared} {a C : Addr} {f : Str} {y : V} {u : Value}
/-- self.f = y over the layer -/
theorem ostB {Z : XBase} {Q : Unit → Shared → Prop} {E : Value → Shared → Prop} {A : Around} (T : XCl Z X.K C) (I : L2.Inv X pins σ H s) (e : H a = some (exo a C none)) (hno : PySem.W.findIn X.K (.ref C) f = some none) (ry : L2.RelV y u)
    (go : ∀ dx s2, H dx = none → dx ≠ a → L2.Inv X pins σ (upd (upd H dx (exd dx [(f, y)])) a (exo a C (some dx))) s2 → Q () s2) :
    wpAny (model X.prog X.w) A (setAttr (.ref a) f u) Q E s := by
  obtain ⟨nm, q, N, bs, sn, sub, ab, col, dd, k0, k1, k2, k3, k5, hC⟩ := T.cl
  have hcl : PySem.W.clsIn X.K C = some ⟨nm, bs, .ref C :: Z.bm, N, q, true, sn, sub, ab, col, false⟩ := by
    unfold PySem.W.clsIn
    rw [hC] <;> rfl
  obtain ⟨t1, ho⟩ := exo_at I.hok e
  obtain ⟨hp, g, d, t, os⟩ := s
  refine PySem.W.set_plain I.kIn (ox := { cls := .ref C, dict := none, data := .fields #[.ref t1, .none, .none, .none, .bool false, .none] }) (od := none)
    ⟨ho, rfl, rfl, trivial⟩ T.sa ?_
  refine sa_first Z I.kIn ho hcl rfl rfl hno fun h2 tk2 dx keep dn dne hx hns => ?_
  have hnd : H dx = none := I.hok.fresh dn
  have old : ∀ {b : Addr} {o : Obj}, hp.get? b = some o → b ≠ dx := fun {b o} z => Nat.ne_of_lt (Nat.lt_of_lt_of_le (Heap.lt_size z) dn)
  have other : ∀ {b : Addr}, H b = none → b ≠ a := fun {b} n z => by
    rw [z, e] at n; cases n
  have far : ∀ {b : Addr}, b ≠ a → b ≠ dx → upd (upd H dx (exd dx [(f, y)])) a (exo a C (some dx)) b = H b := fun {b} h1 h2 => by rw [upd_ne h1, upd_ne h2]
  have U : Un X.fs [] H (upd (upd H dx (exd dx [(f, y)])) a (exo a C (some dx))) hp h2 :=
    { keep := fun b o z n _ _ => keep b o (other n) z
      slot := fun b o z n _ _ => ⟨o.slots, keep b o (other n) z⟩
      free := fun b o z n _ => (far (other n) (old z)).trans n
      there := fun b o z _ => (Classical.em (b = a)).elim (fun hb => hb ▸ ⟨_, hx⟩) fun hb => ⟨o, keep b o hb z⟩
      tups := fun b xs z => (far (at_ne e z exo_tup) (ne_of_none z hnd)).trans z
      frzs := fun b o v z => (far (at_ne e z exo_frz) (ne_of_none z hnd)).trans z
      tbls := fun b ps z => ⟨#[], by rw [far (at_ne e z exo_tbl) (ne_of_none z hnd), z]; simp⟩ }
  refine go dx _ hnd dne (I.un (t' := tk2) U fun b o z => ?_)
  by_cases hb : b = a
  · subst hb
    rw [upd_same] at z
    cases z
    exact exo_ok hx
  · rw [upd_ne hb] at z
    by_cases hd : b = dx
    · subst hd
      rw [upd_same] at z
      cases z
      exact exd_ok hns (relO_put (fs := []) ry fun g => True.intro)
    · rw [upd_ne hd] at z
      refine (I.hok b o z).stay (fun c v hc w => keep c v ?_ w) (fun c hc => (far (at_ne e hc exo_own) (ne_of_none hc hnd)).trans hc) fun c xs hc => (far (at_ne e hc exo_tup) (ne_of_none hc hnd)).trans hc
      exact hc.elim (fun hc => by rw [hc]; exact hb) fun hc => at_ne e hc exo_own
end
/-- self.f = e in an own __init__ -/
def tOstB (Z : XBase) (K : PySem.W.Frag) (f : Str) (to te : TE) : TS := fun D σ H => te σ H fun y H1 => to σ H1 fun x H2 => ∃ a C : Addr, x = .ref a ∧ XCl Z K C ∧ PySem.W.findIn K (.ref C) f = some none ∧
  H2 a = some (exo a C none) ∧ ∀ dx, H2 dx = none → dx ≠ a → D.nx σ (upd (upd H2 dx (exd dx [(f, y)])) a (exo a C (some dx)))
section
variable {X : Cx} {G : Gd} {W : WX} {o e : Expr} {es : List Expr} {to te : TE} {ta : TA} {f : Str} {p p' pos : Pos}
theorem ps_ostB {Z : XBase} (ho : PE X o to) (he : PE X e te) (hs : swapsWith e (some (.Attribute o f p')) pos.line X.env = pure false := by rfl) : PS X (.Assign [.Attribute o f p'] e pos) (tOstB Z X.K f to te) := by
  refine ⟨fun pins s σ H D I h => plainObj_wpAny_Assign_Attribute (thn (he.run pins s σ H _ I h) fun v s1 ⟨y, H1, I1, r1, q1⟩ => ?_) hs⟩
  refine thn (ho.run pins s1 σ H1 _ I1 q1) fun u s2 ⟨x, H2, I2, r2, a, C, ex, T, hno, ea, q⟩ => ?_
  subst ex
  obtain rfl : u = Value.ref a := r2
  exact ostB T I2 ea hno r1 fun dx s3 n ne J => ⟨σ, _, J, q dx n ne⟩
/-- what an own __init__(self, x) that says self.f = e promises; the class is the k-th -/
def spI (G : Gd) (k : Nat) (f : Str) (fe : Env → N D) : Sp := fun vs H Q _ => ∃ ρ hm n d a v d2 h2, RH G ρ H hm ∧ hm.get n = some (.xo k) ∧ ρ n = some a ∧ vs = [.ref a, v] ∧ RV G.K ρ H d v ∧ fe [some (.ref n), some d] hm = .ok d2 h2 ∧ h2.get n = some (.xo k) ∧
  ∀ ρ' v' H' dx, Le G.K ρ H hm ρ' H' h2 → RH G ρ' H' h2 → RV G.K ρ' H' d2 v' → H' dx = none → dx ≠ a → Q .non (upd (upd H' dx (exd dx [(f, v')])) a (exo a (G.xc k) (some dx)))
theorem init_run {Z : XBase} {k : Nat} {fe : Env → N D} {N : List Str} {vs : List V} {H : Hp} {Q : VK} {E : XK} (hK : G.K = X.K) (T : XCl Z X.K (G.xc k)) (hno : PySem.W.findIn X.K (.ref (G.xc k)) f = some none) (hN : N.length = 2) (h : spI G k f fe vs H Q E) :
    tOstB Z X.K f (tVar 0) (uE G W fe) { nx := fun _ H' => Q .non H', rt := Q, bk := fun _ _ => False, ct := fun _ _ => False } (L2.start N vs) H := by
  obtain ⟨ρ, hm, n, d, a, v, d2, h2, r, hn, ha, rfl, rv, e, hn2, q⟩ := h
  have rvs : RVs G.K ρ H [.ref n, d] [.ref a, v] := .cons (by unfold RV; exact ⟨a, ha, rfl⟩) (.cons rv .nil)
  have rs := enter_rs (N := N) r rvs
  have ee : enter N.length [.ref n, d] = [some (.ref n), some d] := by rw [hN]; rfl
  rw [ee] at rs
  refine ⟨ρ, _, hm, rs, AftR.okI e fun ρ1 v1 H1 l1 r1 z => ?_⟩
  have es : (L2.start N [V.ref a, v])[0]? = some (some (.ref a)) := by
    unfold L2.start; rfl
  refine ⟨_, es, a, G.xc k, rfl, T, hno, ?_, fun dx hd dne => q ρ1 v1 H1 dx l1 r1 z hd dne⟩
  obtain ⟨b, hb, ro⟩ := r1.obj n _ hn2
  rw [l1.same n (r.dom n a ha), ha] at hb
  cases hb
  exact ro
end
end Eng
set_option maxRecDepth 100000
set_option maxHeartbeats 4000000
/-! raise of own classes, with and without an __init__. -/
namespace Eng
open PySem PySem.Spec PySem.Calls PyProof.Rows PySem.HandSPX L2

/-- an object is let go -/
def Hm.rm (h : Hm) (n : Nat) : Hm := ⟨h.nx, h.os.filter fun p => !Nat.beq p.1 n, h.low⟩
theorem find_rm (n : Nat) : ∀ (l : List (Nat × O)) (m : Nat), Hm.find (l.filter fun p => !Nat.beq p.1 n) m = if m = n then none else Hm.find l m
  | [], m => by simp [Hm.find]
  | (k, o) :: r, m => by
    have ih := find_rm n r m
    by_cases h1 : k = n
    · rw [List.filter_cons_of_neg (by simp [h1]), ih]
      by_cases h2 : m = n
      · rw [if_pos h2, if_pos h2]
      · rw [if_neg h2, if_neg h2]
        have h3 : ¬ k = m := fun z => h2 (by rw [← z, h1])
        simp [Hm.find, h3]
    · have hb : (!Nat.beq k n) = true := by
        cases e : Nat.beq k n with
        | false => rfl
        | true => exact absurd (Nat.eq_of_beq_eq_true e) h1
      rw [List.filter_cons_of_pos (by simpa using hb)]
      by_cases h2 : k = m
      · subst h2
        simp [Hm.find, h1]
      · simp [Hm.find, h2, ih]
theorem get_rm (h : Hm) (n m : Nat) : (h.rm n).get m = if m = n then none else h.get m := find_rm n h.os m
/-! the relations lean on tuples and lists that are never written alone -/
namespace ROtx
section
variable {G : Gd} {ρ : Nat → Option Addr} {H H' : Hp}
mutual
theorem rv (t : ∀ b ys, LT G.K H b ys → LT G.K H' b ys) (f : ∀ b ys, FL G.K H b ys → FL G.K H' b ys) : ∀ (d : D) (v : V), RV G.K ρ H d v → RV G.K ρ H' d v
  | .non, _, h => h
  | .bl _, _, h => h
  | .int _, _, h => h
  | .str _, _, h => h
  | .ty _, _, h => h
  | .ref n, v, h => h
  | .tup xs, v, h => by
    unfold RV at h ⊢
    obtain ⟨a, ys, h1, h2, h3⟩ := h
    exact ⟨a, ys, h1, t a ys h2, rvs t f xs ys h3⟩
  | .kl xs, v, h => by
    unfold RV at h ⊢
    obtain ⟨a, ys, h1, h2, h3⟩ := h
    exact ⟨a, ys, h1, f a ys h2, rvs t f xs ys h3⟩
theorem rvs (t : ∀ b ys, LT G.K H b ys → LT G.K H' b ys) (f : ∀ b ys, FL G.K H b ys → FL G.K H' b ys) : ∀ (ds : List D) (vs : List V), RVs G.K ρ H ds vs → RVs G.K ρ H' ds vs
  | [], _, h => h
  | d :: ds, vs, h => by
    unfold RVs at h ⊢
    obtain ⟨y, r, h1, h2, h3⟩ := h
    exact ⟨y, r, h1, rv t f d y h2, rvs t f ds r h3⟩
end
theorem ro (t : ∀ b ys, LT G.K H b ys → LT G.K H' b ys) (f : ∀ b ys, FL G.K H b ys → FL G.K H' b ys) {a : Addr} {o : O} (ha : H' a = H a) (h : RO G ρ H a o) : RO G ρ H' a o := by
  cases o with
  | lst xs => obtain ⟨ys, h1, h2⟩ := h; exact ⟨ys, ha.trans h1, rvs t f _ _ h2⟩
  | frz xs => obtain ⟨ob, ys, h1, h2⟩ := h; exact ⟨ob, ys, ha.trans h1, rvs t f _ _ h2⟩
  | ftp xs => obtain ⟨ob, ys, h1, h2⟩ := h; exact ⟨ob, ys, ⟨ha.trans h1.1, h1.2⟩, rvs t f _ _ h2⟩
  | dk kvs => obtain ⟨ks, h1, h2⟩ := h; exact ⟨ks, ha.trans h1, Paired.mapP h2 fun _ _ z => ⟨z.1, rv t f _ _ z.2⟩⟩
  | dt kvs => obtain ⟨ks, h1, h2⟩ := h; exact ⟨ks, ha.trans h1, Paired.mapP h2 fun _ _ z => ⟨z.1, rv t f _ _ z.2⟩⟩
  | st ls => obtain ⟨L, h1, h2, h3⟩ := h; exact ⟨L, ha.trans h1, fun p hp => t _ _ (h2 p hp), h3⟩
  | si ns => obtain ⟨ms, h1, h2⟩ := h; exact ⟨ms, ha.trans h1, h2⟩
  | xo k => exact ha.trans h
end
end ROtx
section
variable {G : Gd} {ρ : Nat → Option Addr} {H : Hp} {hm : Hm}
theorem RH.rm (r : RH G ρ H hm) (n : Nat) : RH G ρ H (hm.rm n) := by
  have ne : ∀ m, ((hm.rm n).get m).isSome = true → (hm.get m).isSome = true := fun m h => by
    rw [get_rm] at h
    by_cases c : m = n
    · rw [if_pos c] at h; cases h
    · rw [if_neg c] at h; exact h
  refine ⟨fun m o e => ?_, fun m k a h1 h2 => r.inj m k a (ne m h1) (ne k h2), r.dom, fun m o e => ?_, r.base⟩
  · rw [get_rm] at e
    by_cases c : m = n
    · rw [if_pos c] at e; cases e
    · rw [if_neg c] at e; exact r.obj m o e
  · rw [get_rm] at e
    by_cases c : m = n
    · rw [if_pos c] at e; cases e
    · rw [if_neg c] at e; exact r.dn m o e
/-- behind the making of an exception: the object is let go, its dict stands as an exception's -/
theorem made_rh {k : Nat} {n : Nat} {a dx : Addr} {f : Str} {d : D} {v : V} (r : RH G ρ H hm) (hn : hm.get n = some (.xo k)) (ha : ρ n = some a) (hd : H dx = none) (dne : dx ≠ a) (rv : RV G.K ρ H d v) :
    RH G ρ (upd (L2.del (upd (upd H dx (exd dx [(f, v)])) a (exo a (G.xc k) (some dx))) a) dx (.xd [(f, v)])) (hm.rm n) ∧
    (∀ b, b ≠ a → b ≠ dx → upd (L2.del (upd (upd H dx (exd dx [(f, v)])) a (exo a (G.xc k) (some dx))) a) dx (.xd [(f, v)]) b = H b) ∧ H a = some (exo a (G.xc k) none) := by
  have far : ∀ b, b ≠ a → b ≠ dx → upd (L2.del (upd (upd H dx (exd dx [(f, v)])) a (exo a (G.xc k) (some dx))) a) dx (.xd [(f, v)]) b = H b := fun b h1 h2 => by
    rw [upd_ne h2, del_ne h1, upd_ne h1, upd_ne h2]
  obtain ⟨a', ha', ro⟩ := r.obj n _ hn
  rw [ha] at ha'; cases ha'
  have ro : H a = some (exo a (G.xc k) none) := ro
  have tup : ∀ b ys, LT G.K H b ys → LT G.K (upd (L2.del (upd (upd H dx (exd dx [(f, v)])) a (exo a (G.xc k) (some dx))) a) dx (.xd [(f, v)])) b ys := fun b ys q => by
    unfold LT at *
    rw [far b (fun z => by rw [z, ro] at q; cases q) (ne_of_none q hd)]; exact q
  have frz : ∀ b ys, FL G.K H b ys → FL G.K (upd (L2.del (upd (upd H dx (exd dx [(f, v)])) a (exo a (G.xc k) (some dx))) a) dx (.xd [(f, v)])) b ys := fun b ys q => by
    rcases q with ⟨ob, q⟩ | q
    · exact .inl ⟨ob, by rw [far b (fun z => by rw [z, ro] at q; cases q) (ne_of_none q hd)]; exact q⟩
    · exact .inr q
  refine ⟨?_, far, ro⟩
  have r2 := r.rm n
  refine ⟨fun m o e => ?_, r2.inj, r2.dom, r2.dn, r2.base⟩
  obtain ⟨b, hb, rb⟩ := r2.obj m o e
  refine ⟨b, hb, ?_⟩
  have hb1 : b ≠ a := fun z => by
    rw [get_rm] at e
    by_cases c : m = n
    · rw [if_pos c] at e; cases e
    · rw [if_neg c] at e
      rw [z] at hb
      exact c (r.inj m n a (by rw [e]; rfl) (by rw [hn]; rfl) hb ha)
  have hb2 : b ≠ dx := fun z => rb.there (by rw [z]; exact hd)
  -- RO leans on tuples and its own object alone
  exact ROtx.ro tup frz (far b hb1 hb2) rb
end

section
variable {X : Cx} {G : Gd} {W : WX} {e : Expr} {ta : TA} {p pos pos2 : Pos} {C : Addr}
/-- C(), C without an own __init__ -/
theorem pmk0 {bmB : List Value} {B nid iid : String} {x : Str} (F : ExcBaseFacts B nid iid bmB) (q : PySem.W.excIn X.K C bmB nid = true) (gC : X.mg x = some (.ref C)) (kC : PySem.W.keepIn X.K (.ref C) = true) (r : Raises X (.ref C)) (hg : Gl X x)
    (hdb : (x == ("__debug__" : Str)) = false := by decide) : PMk X (.Call (.Name x p) [] [] pos) (fun _ H Q => Q (.ref C) none H) := by
  intro pins s σ H Q I h
  refine wpAny_Call_Name_kw (ld_glob I hg gC ?_ hdb)
  refine PySem.W.callWith_K0 I.kIn kC ?_
  obtain ⟨bm, N, nm, qn, bs, hdct, sn, sub, ab, col, dd, k0, k1, k2, k3, k5, mN, hC, hN, hni, T⟩ := exc_obj I.kIn q
  refine wpAny_call_exc_subT F T hC hN hni (fun h2 e2 hm => ?_) (by show 0 ≤ sizeLine; exact Nat.zero_le _)
  exact mk_of I hm r h (I.hok.gone hm.new)
def nRaise (k : Nat) : Sf := fun env h => .ex ⟨k, none⟩ env h
theorem n_raise0 {bmB : List Value} {B nid iid : String} {x : Str} {k : Nat} (F : ExcBaseFacts B nid iid bmB) (q : PySem.W.excIn X.K (G.xc k) bmB nid = true) (gC : X.mg x = some (.ref (G.xc k))) (kC : PySem.W.keepIn X.K (.ref (G.xc k)) = true) (h1 : PySem.W.subIn X.K (.ref (G.xc k)) (.type "BaseException") = some true)
    (h2 : PySem.W.typeIn X.K (.ref (G.xc k)) = some (.type "type")) (o : OkN X G W) (hg : Gl X x) (hdb : (x == ("__debug__" : Str)) = false := by decide) : PS X (.Raise (some (.Call (.Name x p) [] [] pos)) none pos2) (uS G W (nRaise k)) :=
  PS.imp (ps_raise o.calm o.tk (pmk0 F q gC kC (raises_own h1 h2) hg hdb)) fun D σ H ⟨ρ, env, hm, rs, a⟩ => a ρ σ H (.ref (G.xc k)) none Le.refl rs ⟨rfl, rfl⟩

/-- C(e), C's own __init__ keeping sp -/
theorem pmkB {Z : XBase} {x : Str} {fI : Addr} {k : Nat} {fd : FuncData} {ps : List Str} {sp : Sp} {es : List Expr} (T : XCl Z X.K C) (iC : PySem.W.findIn X.K (.ref C) "__init__" = some (some (.ref fI))) (tI : PySem.W.typeIn X.K (.ref fI) = some (.type "function"))
    (F1 : FnOk X.prog X.w X.K X.mg X.base (L2.CX X.prog X.w) k fI fd ps sp) (hr : Room (k + 1) X.A) (hb : Binds X.K fd ps []) (hg : Gl X x) (hm : X.mg x = some (.ref C)) (ha : PA X (e :: es) ta)
    (hdb : (x == ("__debug__" : Str)) = false := by decide) (he : starEach (e :: es) X.env = (false, eval e X.env) :: starEach es X.env := by rfl) (hpl : (backTo pos (starEach es X.env)).any (·.1) = false := by rfl) :
    PMk X (.Call (.Name x p) (e :: es) [] pos) (tMkO C sp [] ta) := by
  intro pins s σ H Q I h
  obtain ⟨nm, q, N, bs, sn, sub, ab, col, dd, k0, k1, k2, k3, k5, hC⟩ := T.cl
  refine wpAny_Call_Name_kw (ld_glob I hg hm ?_ hdb)
  refine PySem.W.callWith_K (h₀ := X.base) I.ok.mod.kin T.kp
    (thn (ha.run pos pins s σ H _ I h) fun us s1 ⟨vs, H1, I1, r1, len, go⟩ => ⟨I1.kIn, ?_⟩) he hpl
  show wpAny _ _ (call (.ref C) us) _ _ _
  obtain ⟨hp, g, dr, tk, os⟩ := s1
  have free : H1 (hp.objs.size + 1) = none := I1.hok.fresh (Nat.le_succ _)
  have want := go (hp.objs.size + 1) free
  rw [List.append_nil] at want
  have keep : ∀ b o, hp.get? b = some o →
      ((hp.push (PySem.W.kdv_tup us)).push (excO C hp.objs.size)).get? b = some o :=
    fun b o z => Heap.get?_push_of_some _ (Heap.get?_push_of_some _ z)
  have here : ((hp.push (PySem.W.kdv_tup us)).push (excO C hp.objs.size)).get? (hp.objs.size + 1) =
      some (excO C hp.objs.size) := by heap_get
  have I2 : L2.Inv X pins σ (upd H1 (hp.objs.size + 1) (exo (hp.objs.size + 1) C none))
      ⟨(hp.push (PySem.W.kdv_tup us)).push (excO C hp.objs.size), g, dr, tk, os⟩ :=
    I1.laid (t' := tk) keep (Nat.le_succ _) (exo_ok here)
  have r2 : Vals (V.ref (hp.objs.size + 1) :: vs) (Value.ref (hp.objs.size + 1) :: us) := .cons rfl r1
  have num : (Value.ref (hp.objs.size + 1) :: us).length = ps.length := by
    rw [← r2.length]
    exact F1.len _ _ _ _ want
  have few : us.length ≤ sizeLine := by
    have := Paired.length r1
    rw [sizeLine_eq]; omega
  have bnd := hb _ (Value.ref (hp.objs.size + 1) :: us) I2.kIn (by rw [List.append_nil]; exact num)
  rw [List.append_nil] at bnd
  have run := F1.run _ X.stack _ _ ⟨Value.ref (hp.objs.size + 1) :: us, []⟩ (Value.ref (hp.objs.size + 1) :: us) _ _
    (fun _ _ _ => False) (hr.make C us []) (I2.env0.make C us []) bnd r2 want
  refine wpAny_call (call_own Z.F (fun _ => rfl) (I1.kIn _ _ hC) (PySem.W.looks_findIn I1.kIn iC)
    (fun self => PySem.W.bind_fn I1.kIn self tI) few (codeAny_mono run fun r s2 out => ?_))
  cases r with
  | error er => exact passL pins σ _ _ er s2 I2 out
  | ok fl =>
    cases fl with
    | ret u =>
      obtain ⟨v, H2, o2, b2, un2, ok2, rv, ev, d, fs, ea, ed, hd1, q2⟩ := out
      subst ev
      obtain ⟨h2, g2, d2, t2, os2⟩ := s2
      exact ⟨rv, mk_end (raises_own T.ex T.ty) I1 (Nat.le_succ _) keep un2 ok2 o2 b2 ea ed hd1 q2⟩
    | next => exact False.elim out
    | brk => exact False.elim out
    | cont => exact False.elim out
def isXo (h : Hm) (n k : Nat) : Bool := match h.get n with
  | some (.xo j) => Nat.beq j k
  | _ => false
theorem isXo_at {h : Hm} {n k : Nat} (e : isXo h n k = true) : h.get n = some (.xo k) := by
  unfold isXo at e
  split at e
  · rename_i j hj
    rw [hj, Nat.eq_of_beq_eq_true e]
  · cases e
def raiseI (k : Nat) (f : Str) (fe : Env → N D) (d : D) : Sf := fun env h1 => match fe [some (.ref h1.nx), some d] (h1.new (.xo k)) with
  | .ok d2 h2 => if isXo h2 h1.nx k = true then if D.under 0 d2 = true then .ex ⟨k, some [(f, d2)]⟩ env (h2.rm h1.nx) else .no else .no
  | _ => .no
def nRaiseI (k : Nat) (f : Str) (fe : Env → N D) (fa : Env → N D) : Sf := nThen fa (raiseI k f fe)
theorem n_raiseI {Z : XBase} {x f : Str} {fI : Addr} {k j : Nat} {fd : FuncData} {ps : List Str} {fe fa : Env → N D} (T : XCl Z X.K (G.xc k)) (iC : PySem.W.findIn X.K (.ref (G.xc k)) "__init__" = some (some (.ref fI))) (tI : PySem.W.typeIn X.K (.ref fI) = some (.type "function"))
    (F1 : FnOk X.prog X.w X.K X.mg X.base (L2.CX X.prog X.w) j fI fd ps (spI G k f fe)) (hr : Room (j + 1) X.A) (hb : Binds X.K fd ps []) (o : OkN X G W) (hg : Gl X x) (hm : X.mg x = some (.ref (G.xc k))) (ha : PE X e (uE G W fa))
    (hdb : (x == ("__debug__" : Str)) = false := by decide) (he : starEach [e] X.env = (false, eval e X.env) :: starEach [] X.env := by rfl) (hpl : (backTo pos (starEach [] X.env)).any (·.1) = false := by rfl) :
    PS X (.Raise (some (.Call (.Name x p) [e] [] pos)) none pos2) (uS G W (nRaiseI k f fe fa)) :=
  PS.imp (ps_raise o.calm o.tk (pmkB (sp := spI G k f fe) T iC tI F1 hr hb hg hm (pa_cons ha pa_nil he) hdb he hpl)) fun En σ H ⟨ρ, env, hm0, rs, a⟩ => by
    refine ⟨ρ, env, hm0, rs, a.then rs fun d h1 e1 a => fun ρ1 v1 H1 l1 r1 z => ⟨by show 1 ≤ 1000; decide, fun c hc => ?_⟩⟩
    rw [List.append_nil]
    unfold raiseI at a
    cases e2 : fe [some (.ref h1.nx), some d] (h1.new (.xo k)) with
    | ex x h => rw [e2] at a; exact a.elim
    | no => rw [e2] at a; exact a.elim
    | ok d2 h2 =>
      rw [e2] at a
      dsimp only at a
      by_cases c1 : isXo h2 h1.nx k = true
      · rw [if_pos c1] at a
        by_cases c2 : D.under 0 d2 = true
        · rw [if_pos c2] at a
          have xo2 := isXo_at c1
          obtain ⟨r2, l2⟩ := r1.new (o := .xo k) (u := exo c (G.xc k) none) hc (show upd H1 c (exo c (G.xc k) none) c = _ from upd_same)
          have at2 : rset ρ1 h1.nx c h1.nx = some c := rset_same
          refine ⟨_, h1.new (.xo k), h1.nx, d, c, v1, d2, h2, r2, by rw [get_new, if_pos rfl], at2, rfl, l2.rv r1 z, e2, xo2, fun ρ3 v3 H3 dx l3 r3 z3 hd dne => ?_⟩
          have at3 : ρ3 h1.nx = some c := by rw [l3.same h1.nx (Nat.lt_succ_self _)]; exact at2
          have l13 := l2.trans l3
          refine ⟨rfl, dx, [(f, v3)], upd_same, by rw [upd_ne dne, upd_same], l13.tx.ad dx hd, ?_⟩
          obtain ⟨rm, far, hx⟩ := made_rh (f := f) r3 xo2 at3 hd dne z3
          have hd1 : H1 dx = none := l13.tx.ad dx hd
          have tups : ∀ b ys, LT G.K H1 b ys → LT G.K (upd (L2.del (upd (upd H3 dx (exd dx [(f, v3)])) c (exo c (G.xc k) (some dx))) c) dx (.xd [(f, v3)])) b ys := fun b ys q => by
            have q0 : H1 b = some (.tup ys) := q
            have q3 := l13.tx.lt b ys q
            unfold LT at q3 ⊢
            rw [far b (ne_of_none q0 hc) (ne_of_none q0 hd1)]; exact q3
          have frzs : ∀ b ys, FL G.K H1 b ys → FL G.K (upd (L2.del (upd (upd H3 dx (exd dx [(f, v3)])) c (exo c (G.xc k) (some dx))) c) dx (.xd [(f, v3)])) b ys := fun b ys q => by
            rcases q with ⟨ob, q⟩ | q
            · rcases l13.tx.fl b ys (.inl ⟨ob, q⟩) with ⟨ob3, q3⟩ | q3
              · exact .inl ⟨ob3, by rw [far b (ne_of_none q hc) (ne_of_none q hd1)]; exact q3⟩
              · exact .inr q3
            · exact .inr q
          have l4 : Le G.K ρ1 H1 h1 ρ3 (upd (L2.del (upd (upd H3 dx (exd dx [(f, v3)])) c (exo c (G.xc k) (some dx))) c) dx (.xd [(f, v3)])) (h2.rm h1.nx) := by
            refine ⟨l13.nx, l13.same, ⟨tups, frzs, fun b hb => ?_⟩⟩
            by_cases h1 : b = c
            · rw [h1]; exact hc
            · by_cases h2 : b = dx
              · rw [h2]; exact hd1
              · rw [far b h1 h2] at hb
                exact l13.tx.ad b hb
          have l04 := l1.trans l4
          refine a ρ3 σ _ (.ref (G.xc k)) (some dx) l04 (l04.rs rs rm) ⟨rfl, dx, [(f, v3)], rfl, upd_same, .cons ⟨rfl, ?_⟩ .nil⟩
          have zc : RV G.K ρ3 H3 d2 v3 := z3
          exact ROtx.rv (fun b ys q => by
            have q0 : H3 b = some (.tup ys) := q
            unfold LT
            rw [far b (fun w => by rw [w, hx] at q0; cases q0) (ne_of_none q0 hd)]; exact q) (fun b ys q => by
            rcases q with ⟨ob, q⟩ | q
            · exact .inl ⟨ob, by rw [far b (fun w => by rw [w, hx] at q; cases q) (ne_of_none q hd)]; exact q⟩
            · exact .inr q) d2 v3 zc
        · rw [if_neg c2] at a; exact a.elim
      · rw [if_neg c1] at a; exact a.elim
end
end Eng
set_option maxRecDepth 100000
set_option maxHeartbeats 4000000
/-! try with several clauses, with names or without. -/
namespace Eng
open PySem PySem.Spec PySem.Calls PyProof.Rows PySem.HandSPX L2

abbrev Suite := Addr → Value → Option Addr → TS
/-- the name's slot is emptied behind the suite -/
def unnamed (i : Option Nat) (σ : L2.St) : L2.St := match i with
  | some i => σ.set i none
  | none => σ
def named (i : Option Nat) (a : Addr) (σ : L2.St) : L2.St := match i with
  | some i => σ.set i (some (.ref a))
  | none => σ
def endsN (i : Option Nat) (D : Ends) : Ends where
  nx := fun σ H => D.nx (unnamed i σ) H
  rt := D.rt
  bk := fun σ H => D.bk (unnamed i σ) H
  ct := fun σ H => D.ct (unnamed i σ) H
def wN (K : PySem.W.Frag) (Wo : WX) (D : Ends) : List (Value × Option Nat × Suite) → WX
  | [] => Wo
  | (c, i, ts) :: r => fun cls d σ H => ∃ b, PySem.W.exmOne K cls c = some b ∧ (b = true → ∀ a, H a = none → ts a cls d (endsN i D) (named i a σ) H) ∧ (b = false → wN K Wo D r cls d σ H)
def SuiteOk (X : Cx) (body : List Stmt) (ts : Suite) : Prop := ∀ (a : Addr) (oe : Obj) (cls : Value) (d : Option Addr) (pn : List (Addr × Obj)), Zc cls d oe → (∃ vs, oe.data = .fields vs) → PSs (X.suite a ((a, oe) :: pn)) body (ts a cls d)
inductive HdN (X : Cx) : List ExceptHandler → List (Value × Option Nat × Suite) → Prop
  | nil : HdN X [] []
  | as {x n : Str} {c : Value} {i : Nat} {ts : Suite} {b0 : Stmt} {su : List Stmt} {p1 p2 : Pos} {hds : List ExceptHandler} {l : List (Value × Option Nat × Suite)} (hc : Names X x c) (hi : X.N[i]? = some n) (hl : X.env.kindOf n = some .local)
      (hs : SuiteOk X (b0 :: su) ts) (r : HdN X hds l) : HdN X (.ExceptHandler (some (.Name x p1)) (some n) (b0 :: su) p2 :: hds) ((c, some i, ts) :: l)
  | no {x : Str} {c : Value} {ts : Suite} {b0 : Stmt} {su : List Stmt} {p1 p2 : Pos} {hds : List ExceptHandler} {l : List (Value × Option Nat × Suite)} (hc : Names X x c)
      (hs : SuiteOk X (b0 :: su) ts) (r : HdN X hds l) : HdN X (.ExceptHandler (some (.Name x p1)) none (b0 :: su) p2 :: hds) ((c, none, ts) :: l)
section
variable {X : Cx} {pins : List (Addr × Obj)} {σ : L2.St} {H : Hp}
/-- behind a suite: the statement's end, the name let go -/
theorem suite_end {D : Ends} {i : Option Nat} {a : Addr} {q : Addr × Obj} {fin : Sem Unit} {E : Value → Shared → Prop} (ok : X.Ok)
    (go : ∀ {σ6 : L2.St} {H6 : Hp} {s6 : Shared} {Q : Shared → Prop}, L2.Inv (X.suite a (q :: (X.pn ++ pins))) [] σ6 H6 s6 → (∀ s7, L2.Inv X pins (unnamed i σ6) H6 s7 → Q s7) → wpAny (model X.prog X.w) X.A fin (fun _ s7 => Q s7) E s6) :
    ∀ (f : Flow) (s6 : Shared), SP (X.suite a (q :: (X.pn ++ pins))) [] (endsN i D) f s6 → wpAny (model X.prog X.w) X.A fin (fun _ s7 => SP X pins D f s7) E s6 := fun f s6 out => by
  cases f with
  | next =>
    obtain ⟨σ6, H6, S6, q6⟩ := out
    exact go S6 fun s7 J => ⟨_, _, J, q6⟩
  | brk =>
    obtain ⟨σ6, H6, S6, q6⟩ := out
    exact go S6 fun s7 J => ⟨_, _, J, q6⟩
  | cont =>
    obtain ⟨σ6, H6, S6, q6⟩ := out
    exact go S6 fun s7 J => ⟨_, _, J, q6⟩
  | ret u =>
    obtain ⟨v6, σ6, H6, S6, r6, q6⟩ := out
    exact go S6 fun s7 J => ⟨_, _, _, J, r6, q6⟩
theorem suite_none {D : Ends} {a : Addr} {q : Addr × Obj} (ok : X.Ok) : ∀ (f : Flow) (s6 : Shared), SP (X.suite a (q :: (X.pn ++ pins))) [] (endsN none D) f s6 → SP X pins D f s6 := fun f s6 out => by
  cases f with
  | next =>
    obtain ⟨σ6, H6, S6, q6⟩ := out
    exact ⟨σ6, H6, S6.unsuite ok, q6⟩
  | brk =>
    obtain ⟨σ6, H6, S6, q6⟩ := out
    exact ⟨σ6, H6, S6.unsuite ok, q6⟩
  | cont =>
    obtain ⟨σ6, H6, S6, q6⟩ := out
    exact ⟨σ6, H6, S6.unsuite ok, q6⟩
  | ret u =>
    obtain ⟨v6, σ6, H6, S6, r6, q6⟩ := out
    exact ⟨v6, σ6, H6, S6.unsuite ok, r6, q6⟩
variable {body : List Stmt} {h0 : ExceptHandler} {hds : List ExceptHandler} {l : List (Value × Option Nat × Suite)} {pos : Pos} {tb : WX → TS} {Wo : WX}
theorem ps_try_nm (hs : X.stack = X.env :: X.outer) (hf : X.env.frame = some X.env.locals) (hN : X.N.Nodup) (tk : Takes X Wo)
    (hb : ∀ (W : WX) (pn : List (Addr × Obj)) (xe : Value → Shared → Prop), Takes (X.tr pn xe) W → PassesOwn (model X.prog X.w) X.A X.env xe → PSs (X.tr pn xe) body (tb W))
    (hh : HdN X (h0 :: hds) l) : PS X (.Try body (h0 :: hds) [] [] pos) (fun D σ H => tb (wN X.K Wo D l) D σ H) := by
  refine ⟨fun pins s σ H D I h => ?_⟩
  have ok := I.ok
  have stk : X.A.frames = some (X.env :: X.outer) := by rw [ok.frames, hs]
  refine wpAny_Try_except ?_
  -- what the clauses take
  let land : Value → Shared → Prop := fun e s1 => wpAny (model X.prog X.w) X.A (noteFrame e X.env) (fun _ s2 =>
    wpAny (model X.prog X.w) X.A (setFlight e none) (fun _ s3 =>
      wpAny (model X.prog X.w) X.A (handleBy e X.env (h0 :: hds)) (SP X pins D) X.xe s3) X.xe s2) X.xe s1
  have caught : Takes (X.tr (X.pn ++ pins) land) (wN X.K Wo D l) := by
    intro u s1 air
    obtain ⟨a, B, sI, pins1, σ1, H1, cls, d, rfl, J0, ground, up, sky, na, os, ag, want⟩ := air
    have J : L2.Inv X pins σ1 H1 sI := J0.ofTry ok
    have sky1 : Sky B (X.env :: X.outer) a (Zc cls d) X.env.locals s1.heap := by
      rw [← hs]; exact sky
    show wpAny (model X.prog X.w) X.A (noteFrame (.ref a) X.env) _ _ _
    refine Sky.land Zc.steady stk hf sky1 fun h3 fl up3 => ?_
    have J3 : L2.Inv X pins σ1 H1 { s1 with heap := h3 } := J.landed ground fl.1 (up.trans up3) os ag
    obtain ⟨oe, vs, here, zc, data⟩ := fl.there
    have apart : a ∉ frs (X.env :: X.outer) := fun m => by
      obtain ⟨_, o2, e2, nf⟩ := fl.2.2.1.mem m
      rw [here] at e2; cases e2
      exact nf _ data
    have aL : a ≠ X.env.locals := fun z => apart (List.mem_filterMap.mpr ⟨X.env, List.mem_cons_self, by rw [hf, z]⟩)
    have aF : a ∉ X.fs := fun m => by
      obtain ⟨e, he, q⟩ := List.mem_filterMap.mp m
      exact apart (List.mem_filterMap.mpr ⟨e, List.mem_cons_of_mem _ he, q⟩)
    have S3 := J3.suite here data na aL aF
    -- the test of a clause
    have asks : ∀ {x : Str} {c : Value} {p1 : Pos} {Q : Value → Shared → Prop} {E : Value → Shared → Prop}, Names X x c → Q c { s1 with heap := h3 } →
        wpAny (model X.prog X.w) (X.A.mark (some (.ref a))) (eval (.Name x p1) X.env) Q E { s1 with heap := h3 } := fun {x c p1 Q E} hc q => by
      obtain ⟨hg, hd, k | ⟨k1, k2, k3⟩⟩ := hc
      · exact ld_glob (X := X.suite a ((a, oe) :: (X.pn ++ pins))) S3 hg k q hd
      · exact ld_blt (X := X.suite a ((a, oe) :: (X.pn ++ pins))) S3 hg k1 k2 q k3 hd
    have cl : PySem.W.Looks (model X.prog X.w) h3 (typeOf (.ref a)) cls := fun A Q E s k q => wpAny_typeOf_ref (k _ _ here) (by rw [zc.1]; exact q)
    -- a suite
    have runs : ∀ {i : Option Nat} {b0 : Stmt} {su : List Stmt} {ts : Suite} {h4 : Heap} {oe4 : Obj} {s5 : Shared} {fin : Sem Unit}, SuiteOk X (b0 :: su) ts → Zc cls d oe4 → (∃ vs, oe4.data = .fields vs) →
        L2.Inv (X.suite a ((a, oe4) :: (X.pn ++ pins))) [] (named i a σ1) H1 s5 → ts a cls d (endsN i D) (named i a σ1) H1 →
        (∀ {σ6 : L2.St} {H6 : Hp} {s6 : Shared} {Q : Shared → Prop}, L2.Inv (X.suite a ((a, oe4) :: (X.pn ++ pins))) [] σ6 H6 s6 → (∀ s7, L2.Inv X pins (unnamed i σ6) H6 s7 → Q s7) → wpAny (model X.prog X.w) X.A fin (fun _ s7 => Q s7) X.xe s6) →
        wpAny (model X.prog X.w) (X.A.mark (some (.ref a))) (execs (b0 :: su) X.env) (fun f s6 => wpAny (model X.prog X.w) X.A fin (fun _ s7 => SP X pins D f s7) X.xe s6) (fun _ _ => False) s5 :=
      fun {i b0 su ts h4 oe4 s5 fin} hs zc4 dt4 S5 w go =>
        wpAny_mono ((hs a oe4 cls d (X.pn ++ pins) zc4 dt4).run [] s5 _ H1 _ S5 w) (suite_end ok go) fun _ _ z => z
    have goes : ∀ {hs2 : List ExceptHandler} {l2 : List (Value × Option Nat × Suite)}, HdN X hs2 l2 → wN X.K Wo D l2 cls d σ1 H1 →
        wpAny (model X.prog X.w) X.A (handleBy (.ref a) X.env hs2) (SP X pins D) X.xe { s1 with heap := h3 } := by
      intro hs2 l2 hk
      induction hk with
      | nil =>
        intro w
        refine wpAny_handleBy_nil ?_
        obtain ⟨_, _, _, o5, vs5, _, _, _, e5, z5, d5, f5, _⟩ := id fl
        unfold PySem.passOn
        refine wpAny_bind (wpAny_field e5 d5 f5 ?_)
        rw [if_neg (by simp)]
        have last : wpAny (model X.prog X.w) X.A (setFlight (.ref a) X.env.frame) (fun _ s4 =>
            wpAny (model X.prog X.w) X.A (throw (.ref a) : Sem Flow) (SP X pins D) X.xe s4) X.xe { s1 with heap := h3 } := by
          rw [hf]
          refine setFlight_upZ fl fun h4 hh4 up4 => wpAny_throw (tk _ _ ?_)
          refine ⟨a, B, sI, pins, σ1, H1, cls, d, rfl, J, ground, (up.trans up3).trans up4, .inr (.inr ?_), na, os, ag, w⟩
          rw [hs]; exact hh4
        first
          | exact wpAny_bind (wpAny_pure (wpAny_bind last))
          | exact wpAny_bind last
      | @as x n c i ts b0 su p1 p2 hds2 l3 hc hi hl hsu r ih =>
        intro w
        obtain ⟨b, hb1, yes, no⟩ := w
        have lm := PySem.W.exm_one (M := model X.prog X.w) J3.kIn cl hb1
        refine wpAny_handleBy_cons (codeAny_handlers_test ?_) (by intro q; cases q)
        refine asks hc (lm.here ?_)
        cases b with
        | false =>
          show wpAny _ X.A (handleBy (.ref a) X.env hds2) _ _ _
          exact ih (no rfl)
        | true =>
          refine codeAny_handlers_suite_as ?_
          refine lands_againZ fl fun h4 fl4 up4 => ?_
          have J4 : L2.Inv X pins σ1 H1 { s1 with heap := h4 } := J.landed ground fl4.1 ((up.trans up3).trans up4) os ag
          obtain ⟨oe4, vs4, he4, hz4, hd4⟩ := fl4.there
          have S4 := J4.suite he4 hd4 na aL aF
          refine store_ok (X := X.suite a ((a, oe4) :: (X.pn ++ pins))) (v := .ref a) S4 hN hi (.inl hl) rfl (fun s5 S5 => ?_) (.inr hl)
          exact wpAny_mono (runs (i := some i) (h4 := h4) hsu hz4 ⟨_, hd4⟩ S5 (yes rfl a na) fun S6 q6 => gone_ok (pos := p2) (S6.unsuite ok) hN hi hl q6) (fun _ _ q => q) fun _ _ z => z.elim
      | @no x c ts b0 su p1 p2 hds2 l3 hc hsu r ih =>
        intro w
        obtain ⟨b, hb1, yes, no⟩ := w
        have lm := PySem.W.exm_one (M := model X.prog X.w) J3.kIn cl hb1
        refine wpAny_handleBy_cons (codeAny_handlers_test ?_) (by intro q; cases q)
        refine asks hc (lm.here ?_)
        cases b with
        | false =>
          show wpAny _ X.A (handleBy (.ref a) X.env hds2) _ _ _
          exact ih (no rfl)
        | true =>
          refine codeAny_handlers_suite ?_
          refine lands_againZ fl fun h4 fl4 up4 => ?_
          have J4 : L2.Inv X pins σ1 H1 { s1 with heap := h4 } := J.landed ground fl4.1 ((up.trans up3).trans up4) os ag
          obtain ⟨oe4, vs4, he4, hz4, hd4⟩ := fl4.there
          have S4 := J4.suite he4 hd4 na aL aF
          refine wpAny_mono ((hsu a oe4 cls d (X.pn ++ pins) hz4 ⟨_, hd4⟩).run [] _ _ H1 _ S4 (yes rfl a na)) (fun f s6 q => ?_) fun _ _ z => z.elim
          exact suite_none ok f s6 q
    exact goes hh want
  refine wpAny_mono ((hb (wN X.K Wo D l) (X.pn ++ pins) land caught PassesOwn.looking).run [] s σ H D (I.toTry _) h) (fun f s1 out => ?_) fun e s1 he => he
  cases f with
  | next =>
    obtain ⟨σ2, H2, J2, q⟩ := out
    exact wpAny_execs_nil ⟨σ2, H2, J2.ofTry ok, q⟩
  | brk =>
    obtain ⟨σ2, H2, J2, q⟩ := out
    exact ⟨σ2, H2, J2.ofTry ok, q⟩
  | cont =>
    obtain ⟨σ2, H2, J2, q⟩ := out
    exact ⟨σ2, H2, J2.ofTry ok, q⟩
  | ret u =>
    obtain ⟨v, σ2, H2, J2, r, q⟩ := out
    exact ⟨v, σ2, H2, J2.ofTry ok, r, q⟩
end
end Eng
set_option maxRecDepth 100000
set_option maxHeartbeats 4000000
/-! Suites of except clauses: the exception's attribute, isinstance of it, constants, in a list that is returned or bound; try by functions. -/
namespace Eng
open PySem PySem.Spec PySem.Calls PySem.W PyProof.Rows PySem.HandSPX L2
section
variable {prog : Program} {w : World} {A : Around} {E : Value → Shared → Prop} {s : Shared} {K : PySem.W.Frag} {x C : Addr} {ox : Obj} {od : Option Obj}
theorem findObj_dat {name : Str} {a g : Value} (hc : (clsIn K C).isSome = true) (ha : findIn K (.ref C) name = some (some a)) (hg : specialIn K a "__get__" = some (some g)) (ht : takesIn K a = some true) : findObj K C od name = some (.bind g a) := by
  obtain ⟨cd, e⟩ := Option.isSome_iff_exists.mp hc
  simp [findObj, e, ha, hg, ht]
/-- e.__class__, e an exception of an own class, with its dict or without -/
theorem exc_class {Q : Option Value → Shared → Prop} (T : ExcC K C) (kin : K.In s.heap) (I : InstAt s.heap x ox C od) (h : Q (some (.ref C)) { s with toks := s.toks + 1 }) :
    wpAny (model prog w) A (getAttr? (.ref x) "__class__") Q E s := by
  have fnd : findObj K C od "__class__" = some (.bind (.builtin "getset_descriptor.__get__") (.builtin "object.__class__")) := by
    refine findObj_dat ?_ T.ha T.hn T.ht
    obtain ⟨cd, hc, _⟩ := any_some T.hd
    rw [hc]; rfl
  obtain ⟨hp, g, d, t, os⟩ := s
  have l0 := I.type (M := model prog w)
  have l1 := looks_findIn (M := model prog w) kin T.hg
  have l2 := looks_findIn (M := model prog w) kin T.hk
  have l3 := looks_find (M := model prog w) kin I fnd
  have isB : Looks (model prog w) hp (isInstance (.ref x) (.type "BaseException")) true := l0.andThen (looks_subIn kin T.hs)
  have ne2 : (Value.builtin "BaseException.__getattribute__" == Value.builtin "object.__getattribute__") = false := by decide +kernel
  have ne1 : (onTheHeap (Value.ref C) && Value.builtin "BaseException.__getattribute__" == Value.builtin "object.__getattribute__") = false := by
    rw [ne2]; rfl
  have ne0 : (false && onTheHeap (Value.builtin "BaseException.__getattribute__")) = false := rfl
  unfold getAttr? getAttrBy? getAttrBy
  refine wpAny_bind (wpAny_mkText (wpAny_bind (wpAny_attempt (wpAny_holding
    (wpAny_bind (l0.at (wpAny_bind (l1.at ?_))))))))
  show wpAny _ _ (if (onTheHeap (Value.ref C) && Value.builtin "BaseException.__getattribute__" ==
    Value.builtin "object.__getattribute__") = true then _ else _) _ _ _
  rw [ne1, if_neg Bool.false_ne_true]
  unfold getAttrByItsOwn hookBefore
  refine wpAny_bind ?_
  have onH : onTheHeap (Value.ref C) = true := rfl
  rw [if_pos onH]
  refine l2.at (wpAny_bind (wpAny_attempt (wpAny_holding ?_)))
  unfold callGetattribute
  rw [ne0, if_neg Bool.false_ne_true]
  unfold boundAndCalled
  rw [PySem.F.excAttr_ValueError.ga.bind (.ref x)]
  refine wpAny_bind (wpAny_pure ?_)
  show wpAny _ _ (call (.builtin "BaseException.__getattribute__") [.ref x, .str "__class__" t]) _ _ _
  refine wpAny_call (codeAny_call_builtin
    PySem.F.excAttr_ValueError.ga.plain PySem.F.entry_bexc_ga ?_)
  refine @check_slot (model prog w) _ _ ⟨hp, g, d, t + 1, os⟩ "BaseException.__getattribute__" "BaseException"
    "__getattribute__" (.ref x) [.str "__class__" t] [] _ (by decide +kernel) (by decide +kernel) isB
    (PySem.F.args_bexc_ga (.ref x) (.str "__class__" t)) ?_
  unfold Builtin.«object.__getattribute__»
  refine wpAny_bind (wpAny_of_eq (a := ((Value.ref x : Value), [Value.str "__class__" t]))
    (by first | rfl | (simp only [slotArgs]; rfl)) ?_)
  refine wpAny_bind (wpAny_pure
    (wpAny_bind (l0.at (wpAny_bind (l3.at ?_)))))
  show wpAny _ _ (holding [Value.builtin "object.__class__"]
    (call (.builtin "getset_descriptor.__get__") [.builtin "object.__class__", .ref x, .ref C]) >>= PySem.ret) _ _ _
  refine wpAny_bind (wpAny_holding (wpAny_call
    (class_get (s := ⟨hp, g, d, t + 1, os⟩) (ox := ox) (od := od) kin I T.hm ?_)))
  refine wpAny_pure ?_
  show wpAny _ _ (handedOut (.ref C)) _ _ _
  rw [handedOut_of (v := .ref C) rfl]
  first
    | exact wpAny_pure (wpAny_pure h)
    | exact wpAny_pure h
    | exact wpAny_pure (wpAny_bind (wpAny_pure (wpAny_pure h)))
theorem kitE (T : ExcC K C) : KitX K (.ref x) (.ref C) (fun h => InstAt h x ox C od) := by
  have isT : ∃ c d cd sl, K.lookup C = some ⟨c, d, .cls cd, sl⟩ := by
    obtain ⟨cd, hc, _⟩ := any_some T.hd
    unfold clsIn at hc
    split at hc
    · rename_i c d cd sl ho
      exact ⟨c, d, cd, sl, ho⟩
    · cases hc
  obtain ⟨c, d, cd, sl, ho⟩ := isT
  refine ⟨fun _ _ _ I => I.type, fun _ _ kin _ A Q E s k q => ?_, fun h tp dd its n sl kin htp => Bool.eq_false_iff.mpr fun q => ?_, fun kin I k => exc_class T kin I k⟩
  · unfold isType loadHead
    exact wpAny_bind (wpAny_loadPart (k _ _ (kin _ _ ho)) (wpAny_pure q))
  · obtain rfl : C = tp := Value.ref.inj (beq_iff_eq.mp q)
    have z := (kin _ _ ho).symm.trans htp
    cases z
end
/-- isinstance(e, c), e the exception that the suite holds, its dict told by H -/
def rIsX (K : PySem.W.Frag) (C a : Addr) (d : Option Addr) : List V → Hp → VK → Prop := fun xs H Q => ∃ (c : V) (cv : Value) (b : Bool), xs = [.ref a, c] ∧ (∀ u, L2.RelV c u → u = cv) ∧ kitOne K (.ref C) cv = some b ∧ (∀ dd, d = some dd → ∃ o, H dd = some o) ∧ Q (.bl b) H
theorem call_isX {X : Cx} {a C : Addr} {d : Option Addr} {oe : Obj} {pn : List (Addr × Obj)} (T : ExcC X.K C) (hz : Zc (.ref C) d oe) (hf : ∃ vs, oe.data = .fields vs) : CallR (X.suite a ((a, oe) :: pn)) (.builtin "isinstance") (rIsX X.K C a d) := by
  intro pins s σ H xs us Q I r h
  obtain ⟨c, cv, b, rfl, hcv, e, hd, q⟩ := h
  cases r with
  | cons rx rr =>
    cases rr with
    | cons rt rr =>
      cases rr
      cases rx
      obtain rfl := hcv _ rt
      obtain ⟨here, _⟩ := I.pin (a, oe) (List.mem_append.mpr (.inl List.mem_cons_self))
      obtain ⟨vs, hv⟩ := hf
      have inst : ∃ od, InstAt s.heap a oe C od := by
        cases d with
        | none => exact ⟨none, here, hz.1, by unfold notCls; rw [hv] <;> rfl, by rw [hz.2]; trivial⟩
        | some dd =>
          obtain ⟨o, ho⟩ := hd dd rfl
          obtain ⟨ob, hob⟩ := objOk_get (I.hok dd o ho)
          exact ⟨some ob, here, hz.1, by unfold notCls; rw [hv] <;> rfl, by rw [hz.2]; exact hob⟩
      obtain ⟨od, J⟩ := inst
      exact kia_one (kitE T) I.kIn J e (fun z => nomatch z) fun tk => ⟨.bl b, H, I.kept (t' := tk) fun _ _ z => z, rfl, q⟩

/-! ### readings in a suite -/
/-- what stands when a suite begins: the exception x, of class c, is held by slot j -/
structure SuX (G : Gd) (j c : Nat) (a : Addr) (cls : Value) (d : Option Addr) (ρ : Nat → Option Addr) (hm : Hm) (x : Xc) (σ : L2.St) (H : Hp) : Prop where
  k : x.k = c
  rh : RH G ρ H hm
  sl : σ[j]? = some (some (.ref a))
  rx : RX G ρ H x cls d
def uXE (G : Gd) (j c : Nat) (a : Addr) (cls : Value) (d : Option Addr) (g : Xc → Option D) : TE := fun σ H Q => ∃ ρ hm x y, SuX G j c a cls d ρ hm x σ H ∧ g x = some y ∧ ∀ v, RV G.K ρ H y v → Q v H
def uXA (G : Gd) (j c : Nat) (a : Addr) (cls : Value) (d : Option Addr) (gs : List (Xc → Option D)) : TA := fun σ H Q => ∃ ρ hm x ys, SuX G j c a cls d ρ hm x σ H ∧ optAll (fun g => g x) gs = some ys ∧ ∀ vs, RVs G.K ρ H ys vs → Q vs H
section
variable {X : Cx} {G : Gd} {j c : Nat} {a : Addr} {cls : Value} {d : Option Addr} {oe : Obj} {pn : List (Addr × Obj)}
theorem x_c {e : Expr} {v : V} {y : D} (h : PE (X.suite a ((a, oe) :: pn)) e (tC v)) (f : flatD y v) : PE (X.suite a ((a, oe) :: pn)) e (uXE G j c a cls d fun _ => some y) :=
  PE.imp h fun σ H Q ⟨ρ, hm, x, y', S, e, q⟩ => by
    cases e
    exact q v f.rv
/-- the exception's one attribute -/
def fldX (f : Str) (x : Xc) : Option D := match x.fs with
  | some [(g, y)] => if g = f then some y else none
  | _ => none
theorem x_fld {n f : Str} {p pos : Pos} (T : XfC X.K (G.xc c)) (hno : findIn X.K (.ref (G.xc c)) f = some none) (hz : Zc cls d oe) (hf : ∃ vs, oe.data = .fields vs) (hv : PE (X.suite a ((a, oe) :: pn)) (.Name n p) (tVar j))
    (hb : attributeBase (.Name n p) f X.env (eval (.Name n p) X.env) = eval (.Name n p) X.env := by rfl) : PE (X.suite a ((a, oe) :: pn)) (.Attribute (.Name n p) f pos) (uXE G j c a cls d (fldX f)) :=
  PE.imp (pe_xf T hno hz hf hv hb) fun σ H Q ⟨ρ, hm, x, y, S, e, q⟩ => by
    refine ⟨.ref a, S.sl, rfl, ?_⟩
    obtain ⟨h1, h2⟩ := S.rx
    rw [S.k] at h1
    refine ⟨h1, ?_⟩
    unfold fldX at e
    split at e
    · rename_i g y0 ex
      by_cases c1 : g = f
      · rw [if_pos c1] at e
        cases e
        rw [ex] at h2
        obtain ⟨dd, ys, ed, ha, r⟩ := h2
        cases r with
        | cons z t =>
          cases t
          rename_i q0
          obtain ⟨g', v⟩ := q0
          obtain ⟨z1, z2⟩ := z
          dsimp only at z1 z2
          subst z1 c1
          exact ⟨dd, _, v, ed, ha, by simp [List.lookup], q v z2⟩
      · rw [if_neg c1] at e; cases e
    · cases e
/-- isinstance(e, T), T a built-in class -/
theorem x_isi {n x1 x2 : Str} {T : String} {p p1 p2 pos : Pos} {b : Bool} (TC : ExcC X.K (G.xc c)) (hk : kitOne X.K (.ref (G.xc c)) (.type T) = some b) (hg : Gl X x1) (hm : X.mg x1 = none) (hb : bootBuiltins x1 = some (.builtin "isinstance")) (hg2 : Gl X x2) (hm2 : X.mg x2 = none) (hb2 : bootBuiltins x2 = some (.type T))
    (hz : Zc cls d oe) (hf : ∃ vs, oe.data = .fields vs) (hv : PE (X.suite a ((a, oe) :: pn)) (.Name n p) (tVar j)) (hn1 : x1 ≠ "__name__" := by decide) (hd1 : (x1 == ("__debug__" : Str)) = false := by decide) (hn2 : x2 ≠ "__name__" := by decide) (hd2 : (x2 == ("__debug__" : Str)) = false := by decide)
    (he : starEach [.Name n p, .Name x2 p2] X.env = (false, eval (.Name n p) X.env) :: starEach [.Name x2 p2] X.env := by rfl) (he2 : starEach [.Name x2 p2] X.env = (false, eval (.Name x2 p2) X.env) :: starEach [] X.env := by rfl)
    (hpl : (backTo pos (starEach [.Name x2 p2] X.env)).any (·.1) = false := by rfl) : PE (X.suite a ((a, oe) :: pn)) (.Call (.Name x1 p1) [.Name n p, .Name x2 p2] [] pos) (uXE G j c a cls d fun _ => some (.bl b)) := by
  refine ⟨fun pins s σ H Q I h => ?_⟩
  obtain ⟨ρ, hm0, x, y, S, e, q⟩ := h
  cases e
  obtain ⟨h1, h2⟩ := S.rx
  rw [S.k] at h1
  subst h1
  have r := call_isX (X := X) (a := a) (pn := pn) TC hz hf
  have A2 : PA (X.suite a ((a, oe) :: pn)) [.Name n p, .Name x2 p2] (tCons (tVar j) (tCons (tC (.ty T)) tNil)) := pa_cons hv (pa_cons (pe_bltn (v := .ty T) hg2 hm2 hb2 rfl hn2 hd2) pa_nil he2) he
  refine (pe_callB r hg hm hb A2 hn1 hd1 he hpl).run pins s σ H Q I ?_
  refine ⟨.ref a, S.sl, .ty T, .type T, b, rfl, fun u z => z, hk, fun dd ed => ?_, q _ (by unfold RV; rfl)⟩
  cases hx : x.fs with
  | none => rw [hx] at h2; rw [h2] at ed; cases ed
  | some fs =>
    rw [hx] at h2
    obtain ⟨a', ys, e1, e2, _⟩ := h2
    rw [e1] at ed; cases ed
    exact ⟨_, e2⟩
theorem xa_nil : PA (X.suite a ((a, oe) :: pn)) [] (uXA G j c a cls d []) := PA.imp pa_nil fun σ H Q ⟨ρ, hm, x, ys, S, e, q⟩ => by
  cases e
  exact q [] .nil
theorem xa_cons {e : Expr} {es : List Expr} {g : Xc → Option D} {gs : List (Xc → Option D)} (ha : PE (X.suite a ((a, oe) :: pn)) e (uXE G j c a cls d g)) (hr : PA (X.suite a ((a, oe) :: pn)) es (uXA G j c a cls d gs)) (hs : starEach (e :: es) X.env = (false, eval e X.env) :: starEach es X.env := by rfl) :
    PA (X.suite a ((a, oe) :: pn)) (e :: es) (uXA G j c a cls d (g :: gs)) := PA.imp (pa_cons ha hr hs) fun σ H Q ⟨ρ, hm, x, ys, S, e, q⟩ => by
  unfold optAll at e
  cases e1 : g x with
  | none => simp [e1] at e
  | some y =>
    cases e2 : optAll (fun g => g x) gs with
    | none => simp [e1, e2] at e
    | some zs =>
      simp [e1, e2] at e
      subst e
      exact ⟨ρ, hm, x, y, S, e1, fun v hv => ⟨ρ, hm, x, zs, S, e2, fun vs hvs => q (v :: vs) (.cons hv hvs)⟩⟩
end
end Eng
set_option maxRecDepth 100000
set_option maxHeartbeats 4000000
/-! try by functions. -/
namespace Eng
open PySem PySem.Spec PySem.Calls PySem.W PyProof.Rows PySem.HandSPX L2
/-- a suite: what it comes to by the exception -/
abbrev Sx := Xc → Sf
def setN (i : Option Nat) (env : Env) : Env := match i with
  | some i => env.set i none
  | none => env
/-- a suite's reading; i: the slot of its name -/
def uX (G : Gd) (i : Option Nat) (c : Nat) (su : Sx) : Suite := fun a cls d E σ H => ∃ ρ env hm x, x.k = c ∧ RS G ρ env hm σ H ∧ (∀ j, i = some j → σ[j]? = some (some (.ref a))) ∧ RX G ρ H x cls d ∧ AftF G W0 ρ H hm (su x env hm) E
section
variable {X : Cx} {G : Gd} {W : WX}
/-! ### the forms of suites -/
/-- the items of a list display -/
def itemsX (gs : List (Xc → Option D)) (k : List D → Sf) : Sx := fun x env hm => match optAll (fun g => g x) gs with
  | some ys => if ys.length ≤ big then k ys env hm else .no
  | none => .no
def sxRet (gs : List (Xc → Option D)) : Sx := itemsX gs fun ys _ hm => .rt (.ref hm.nx) (hm.new (.lst ys))
def sxSet (l : Nat) (gs : List (Xc → Option D)) : Sx := itemsX gs fun ys env hm => .nx (env.set l (some (.ref hm.nx))) (hm.new (.lst ys))
theorem itemsX_some {gs : List (Xc → Option D)} {k : List D → Sf} {x : Xc} {env : Env} {hm : Hm} {ρ : Nat → Option Addr} {H : Hp} {E : Ends} (a : AftF G W ρ H hm (itemsX gs k x env hm) E) : ∃ ys, optAll (fun g => g x) gs = some ys ∧ ys.length ≤ big ∧ AftF G W ρ H hm (k ys env hm) E := by
  unfold itemsX at a
  cases e : optAll (fun g => g x) gs with
  | none => rw [e] at a; exact a.elim
  | some ys =>
    rw [e] at a
    dsimp only at a
    by_cases c : ys.length ≤ big
    · rw [if_pos c] at a; exact ⟨ys, rfl, c, a⟩
    · rw [if_neg c] at a; exact a.elim
theorem sx_ret {j c : Nat} {es : List Expr} {gs : List (Xc → Option D)} {p1 pos : Pos} (h : ∀ a oe cls d pn, Zc cls d oe → (∃ vs, oe.data = .fields vs) → PA (X.suite a ((a, oe) :: pn)) es (uXA G j c a cls d gs)) : SuiteOk X [.Return (some (.List es p1)) pos] (uX G (some j) c (sxRet gs)) :=
  fun a oe cls d pn hz hf => PSs.imp (pss_one (ps_ret (pe_lst (h a oe cls d pn hz hf)))) fun E σ H ⟨ρ, env, hm, x, k, rs, sl, rx, q⟩ => by
    obtain ⟨ys, e, hl, q⟩ := itemsX_some q
    refine ⟨ρ, hm, x, ys, ⟨k, rs.rh, sl j rfl, rx⟩, e, fun vs hvs => ⟨by rw [← hvs.length]; exact big_le hl, fun p hp => ?_⟩⟩
    obtain ⟨a1, b1⟩ := rh_lst rs.rh hp hvs
    exact q _ _ _ b1 a1 rv_new
theorem sx_set {j c l : Nat} {x0 : Str} {es : List Expr} {gs : List (Xc → Option D)} {p1 p2 pos : Pos} (h : ∀ a oe cls d pn, Zc cls d oe → (∃ vs, oe.data = .fields vs) → PA (X.suite a ((a, oe) :: pn)) es (uXA G j c a cls d gs))
    (hs : ∀ a oe pn t, PE (X.suite a ((a, oe) :: pn)) (.List es p1) t → PS (X.suite a ((a, oe) :: pn)) (.Assign [.Name x0 p2] (.List es p1) pos) (tAsg t (gName l))) : SuiteOk X [.Assign [.Name x0 p2] (.List es p1) pos] (uX G (some j) c (sxSet l gs)) :=
  fun a oe cls d pn hz hf => PSs.imp (pss_one (hs a oe pn _ (pe_lst (h a oe cls d pn hz hf)))) fun E σ H ⟨ρ, env, hm, x, k, rs, sl, rx, q⟩ => by
    obtain ⟨ys, e, hl, q⟩ := itemsX_some q
    refine ⟨ρ, hm, x, ys, ⟨k, rs.rh, sl j rfl, rx⟩, e, fun vs hvs => ⟨by rw [← hvs.length]; exact big_le hl, fun p hp => ?_⟩⟩
    obtain ⟨a1, b1⟩ := rh_lst rs.rh hp hvs
    exact q _ _ _ b1 ((b1.rs rs a1).set rv_new l)
/-- a constant is bound -/
def sxC (l : Nat) (y : D) : Sx := fun _ env hm => .nx (env.set l (some y)) hm
theorem sx_c {c l : Nat} {i : Option Nat} {x0 : Str} {e : Expr} {v : V} {y : D} {p2 pos : Pos} (hf : flatD y v) (h : ∀ a oe pn, PE (X.suite a ((a, oe) :: pn)) e (tC v))
    (hs : ∀ a oe pn t, PE (X.suite a ((a, oe) :: pn)) e t → PS (X.suite a ((a, oe) :: pn)) (.Assign [.Name x0 p2] e pos) (tAsg t (gName l))) : SuiteOk X [.Assign [.Name x0 p2] e pos] (uX G i c (sxC l y)) :=
  fun a oe cls d pn _ _ => PSs.imp (pss_one (hs a oe pn _ (h a oe pn))) fun E σ H ⟨ρ, env, hm, x, k, rs, sl, rx, q⟩ => q ρ _ H Le.refl (rs.set hf.rv l)

/-! ### try -/
def postX (i : Option Nat) : SR → SR
  | .nx e h => .nx (setN i e) h
  | .bk e h => .bk (setN i e) h
  | .ct e h => .ct (setN i e) h
  | .rt d h => .rt d h
  | _ => .no
def slotOk (i : Option Nat) (env : Env) : Bool := match i with
  | some i => Nat.ble (i + 1) env.length
  | none => true
def handleX : List (Nat × Option Nat × Sx) → Xc → Sf
  | [], x, env, h => .ex x env h
  | (c, i, su) :: r, x, env, h => if Nat.beq x.k c = true then if slotOk i env = true then postX i (su x (setN i env) h) else .no else handleX r x env h
def nTry (N : Nat) (b : Sf) (hs : List (Nat × Option Nat × Sx)) : Sf := fun env hm => match b env hm with
  | .ex x e h => if Nat.ble (x.k + 1) N = true then handleX hs x e h else .no
  | r => r
/-- the clauses over the layer -/
def handsV (G : Gd) (hs : List (Nat × Option Nat × Sx)) : List (Value × Option Nat × Suite) := hs.map fun p => (.ref (G.xc p.1), p.2.1, uX G p.2.1 p.1 p.2.2)
theorem RS.named {ρ : Nat → Option Addr} {env : Env} {hm : Hm} {σ : L2.St} {H : Hp} {a : Addr} (rs : RS G ρ env hm σ H) (i : Option Nat) : RS G ρ (setN i env) hm (named i a σ) H := by
  cases i with
  | none => exact rs
  | some i =>
    refine ⟨rs.rh, fun j d e => ?_, by show (env.set i none).length = (σ.set i _).length; rw [List.length_set, List.length_set]; exact rs.len⟩
    have e' : (env.set i none)[j]? = some (some d) := e
    by_cases c : i = j
    · subst c
      by_cases hi : i < env.length
      · rw [List.getElem?_set_self hi] at e'; cases e'
      · rw [List.getElem?_eq_none (by rw [List.length_set]; omega)] at e'; cases e'
    · rw [List.getElem?_set_ne c] at e'
      obtain ⟨v, h1, h2⟩ := rs.re j d e'
      exact ⟨v, by show (σ.set i _)[j]? = _; rw [List.getElem?_set_ne c]; exact h1, h2⟩
theorem RS.unnamed {ρ : Nat → Option Addr} {env : Env} {hm : Hm} {σ : L2.St} {H : Hp} (rs : RS G ρ env hm σ H) (i : Option Nat) : RS G ρ (setN i env) hm (unnamed i σ) H := by
  cases i with
  | none => exact rs
  | some i => exact rs.forget i
/-- behind a suite -/
theorem post_run {i : Option Nat} {r : SR} {ρ : Nat → Option Addr} {H : Hp} {hm : Hm} {E : Ends} (a : AftF G W ρ H hm (postX i r) E) : AftF G W0 ρ H hm r (endsN i E) := by
  cases r with
  | nx e h => exact fun ρ' σ' H' l rs => (show AftN G ρ H hm (setN i e) h E.nx from a) ρ' _ H' l (rs.unnamed i)
  | bk e h => exact fun ρ' σ' H' l rs => (show AftN G ρ H hm (setN i e) h E.bk from a) ρ' _ H' l (rs.unnamed i)
  | ct e h => exact fun ρ' σ' H' l rs => (show AftN G ρ H hm (setN i e) h E.ct from a) ρ' _ H' l (rs.unnamed i)
  | rt d h => exact a
  | ex x e h => exact a.elim
  | no => exact a.elim
/-- the clauses take what the function says -/
theorem handle_run {K : PySem.W.Frag} {hs : List (Nat × Option Nat × Sx)} (N : Nat) (hx : ∀ k c, k < N → c ∈ hs.map (·.1) → exmOne K (.ref (G.xc k)) (.ref (G.xc c)) = some (Nat.beq k c)) {x : Xc} (hk : x.k < N) {ρ ρ1 : Nat → Option Addr} {H H1 : Hp} {hm h1 : Hm} {env : Env} {σ : L2.St} {E : Ends} {cls : Value} {d : Option Addr}
    (a : AftF G W ρ H hm (handleX hs x env h1) E) (l : Le G.K ρ H hm ρ1 H1 h1) (rs : RS G ρ1 env h1 σ H1) (rx : RX G ρ1 H1 x cls d) : wN K W E (handsV G hs) cls d σ H1 := by
  induction hs with
  | nil => exact (show ∀ ρ' σ' H' cls d, _ → _ → _ → W cls d σ' H' from a) ρ1 σ H1 cls d l rs rx
  | cons p r ih =>
    obtain ⟨c, i, su⟩ := p
    have e1 : cls = .ref (G.xc x.k) := rx.1
    refine ⟨Nat.beq x.k c, by rw [e1]; exact hx _ _ hk (by simp), fun yes v na => ?_, fun no => ?_⟩
    · have a : AftF G W ρ H hm (if Nat.beq x.k c = true then if slotOk i env = true then postX i (su x (setN i env) h1) else .no else handleX r x env h1) E := a
      rw [if_pos yes] at a
      by_cases so : slotOk i env = true
      case neg => rw [if_neg so] at a; exact a.elim
      rw [if_pos so] at a
      have kc : x.k = c := Nat.eq_of_beq_eq_true yes
      refine ⟨ρ1, setN i env, h1, x, kc, rs.named i, fun j ej => ?_, rx, post_run (AftF.le a l)⟩
      subst ej
      show (σ.set j _)[j]? = _
      exact List.getElem?_set_self (by rw [← rs.len]; exact Nat.le_of_ble_eq_true so)
    · have a : AftF G W ρ H hm (if Nat.beq x.k c = true then if slotOk i env = true then postX i (su x (setN i env) h1) else .no else handleX r x env h1) E := a
      rw [if_neg (by rw [no]; decide)] at a
      exact ih (fun k c h h2 => hx k c h (by rw [List.map_cons]; exact List.mem_cons_of_mem _ h2)) a
theorem n_try {body : List Stmt} {h0 : ExceptHandler} {hds : List ExceptHandler} {pos : Pos} {b : Sf} {hs : List (Nat × Option Nat × Sx)} (N : Nat) (o : OkN X G W) (hst : X.stack = X.env :: X.outer) (hf : X.env.frame = some X.env.locals) (hN : X.N.Nodup)
    (hx : ∀ k c, k < N → c ∈ hs.map (·.1) → exmOne X.K (.ref (G.xc k)) (.ref (G.xc c)) = some (Nat.beq k c))
    (hb : ∀ (W' : WX) (pn : List (Addr × Obj)) (xe : Value → Shared → Prop), OkN (X.tr pn xe) G W' → PSs (X.tr pn xe) body (uS G W' b)) (hh : HdN X (h0 :: hds) (handsV G hs)) : PS X (.Try body (h0 :: hds) [] [] pos) (uS G W (nTry N b hs)) := by
  refine ⟨fun pins s σ H E I h => ?_⟩
  obtain ⟨ρ, env, hm, rs, a⟩ := h
  refine (ps_try_nm (tb := fun W' => uS G W' b) hst hf hN o.tk (fun W' pn xe tk po => hb W' pn xe (okTry o tk po)) hh).run pins s σ H E I ⟨ρ, env, hm, rs, ?_⟩
  unfold nTry at a
  cases e : b env hm with
  | nx e1 h1 => rw [e] at a; exact a
  | bk e1 h1 => rw [e] at a; exact a
  | ct e1 h1 => rw [e] at a; exact a
  | rt d h1 => rw [e] at a; exact a
  | no => rw [e] at a; exact a
  | ex x e1 h1 =>
    rw [e] at a
    dsimp only at a
    by_cases c : Nat.ble (x.k + 1) N = true
    · rw [if_pos c] at a
      exact fun ρ1 σ1 H1 cls d l1 r1 rx => handle_run N hx (Nat.le_of_ble_eq_true c) a l1 r1 rx
    · rw [if_neg c] at a; exact a.elim
end
end Eng
set_option maxRecDepth 100000
set_option maxHeartbeats 4000000
/-! What is built in, operators, comparisons, of readings that may raise. -/
namespace Eng
open PySem PySem.Spec PyProof.Rows L2
section
variable {X : Cx} {G : Gd} {W : WX} {es : List Expr} {e : Expr} {p pos : Pos} {fa : Env → N (List D)}
theorem n_len (o : OkN X G W) (hg : Gl X "len") (hm : X.mg "len" = none) (ha : PA X (e :: es) (uA G W fa)) (he : starEach (e :: es) X.env = (false, eval e X.env) :: starEach es X.env := by rfl) (hpl : (backTo pos (starEach es X.env)).any (·.1) = false := by rfl) :
    PE X (.Call (.Name "len" p) (e :: es) [] pos) (uE G W (nCall gLenU fa)) := n_callB cr_lenU (s_lenU o.ok) hg hm (by decide +kernel) ha (by decide) (by decide) he hpl
theorem n_int1 (o : OkN X G W) (hg : Gl X "int") (hm : X.mg "int" = none) (ha : PA X (e :: es) (uA G W fa)) (he : starEach (e :: es) X.env = (false, eval e X.env) :: starEach es X.env := by rfl) (hpl : (backTo pos (starEach es X.env)).any (·.1) = false := by rfl) :
    PE X (.Call (.Name "int" p) (e :: es) [] pos) (uE G W (nCall gInt fa)) := n_callTy call_int1 s_int hg hm (by decide +kernel) ha (by decide) (by decide) he hpl
theorem n_abs (o : OkN X G W) (hg : Gl X "abs") (hm : X.mg "abs" = none) (ha : PA X (e :: es) (uA G W fa)) (he : starEach (e :: es) X.env = (false, eval e X.env) :: starEach es X.env := by rfl) (hpl : (backTo pos (starEach es X.env)).any (·.1) = false := by rfl) :
    PE X (.Call (.Name "abs" p) (e :: es) [] pos) (uE G W (nCall gAbs fa)) := n_callB call_abs s_abs hg hm (by decide +kernel) ha (by decide) (by decide) he hpl
theorem n_list (o : OkN X G W) (hg : Gl X "list") (hm : X.mg "list" = none) (ha : PA X (e :: es) (uA G W fa)) (he : starEach (e :: es) X.env = (false, eval e X.env) :: starEach es X.env := by rfl) (hpl : (backTo pos (starEach es X.env)).any (·.1) = false := by rfl) :
    PE X (.Call (.Name "list" p) (e :: es) [] pos) (uE G W (nCall gList fa)) := by
  have c : CallR X (.type "list") (rListA X.K) := CallR.or' call_list_of (CallR.or' (call_list_dK o.calm) (call_list_dT o.calm))
  have z : CallS G (rListA G.K) gList := CallS.or s_listQ (CallS.or s_listK s_listT)
  rw [o.K] at z
  exact n_callTy c z hg hm (by decide +kernel) ha (by decide) (by decide) he hpl
theorem n_tuple (o : OkN X G W) (hg : Gl X "tuple") (hm : X.mg "tuple" = none) (ha : PA X (e :: es) (uA G W fa)) (he : starEach (e :: es) X.env = (false, eval e X.env) :: starEach es X.env := by rfl) (hpl : (backTo pos (starEach es X.env)).any (·.1) = false := by rfl) :
    PE X (.Call (.Name "tuple" p) (e :: es) [] pos) (uE G W (nCall gTupL fa)) := by
  have z := s_tupL (G := G)
  rw [o.K] at z
  exact n_callTy call_tuple_of z hg hm (by decide +kernel) ha (by decide) (by decide) he hpl
theorem n_tupleF (o : OkN X G W) (hg : Gl X "tuple") (hm : X.mg "tuple" = none) (ha : PA X (e :: es) (uA G W fa)) (he : starEach (e :: es) X.env = (false, eval e X.env) :: starEach es X.env := by rfl) (hpl : (backTo pos (starEach es X.env)).any (·.1) = false := by rfl) :
    PE X (.Call (.Name "tuple" p) (e :: es) [] pos) (uE G W (nCall gTupF fa)) := by
  have z := s_tupF (G := G)
  rw [o.K] at z
  exact n_callTy cr_tupF z hg hm (by decide +kernel) ha (by decide) (by decide) he hpl
theorem n_sum (o : OkN X G W) (hg : Gl X "sum") (hm : X.mg "sum" = none) (ha : PA X (e :: es) (uA G W fa)) (he : starEach (e :: es) X.env = (false, eval e X.env) :: starEach es X.env := by rfl) (hpl : (backTo pos (starEach es X.env)).any (·.1) = false := by rfl) :
    PE X (.Call (.Name "sum" p) (e :: es) [] pos) (uE G W (nCall gSum fa)) := by
  have z := s_sum (G := G)
  rw [o.K] at z
  exact n_callB (cr_sum o.calm) z hg hm (by decide +kernel) ha (by decide) (by decide) he hpl
theorem n_all (o : OkN X G W) (hg : Gl X "all") (hm : X.mg "all" = none) (ha : PA X (e :: es) (uA G W fa)) (he : starEach (e :: es) X.env = (false, eval e X.env) :: starEach es X.env := by rfl) (hpl : (backTo pos (starEach es X.env)).any (·.1) = false := by rfl) :
    PE X (.Call (.Name "all" p) (e :: es) [] pos) (uE G W (nCall gAll fa)) := by
  have z := s_all (G := G)
  rw [o.K] at z
  exact n_callB (cr_all o.calm) z hg hm (by decide +kernel) ha (by decide) (by decide) he hpl
theorem n_min (o : OkN X G W) (hg : Gl X "min") (hm : X.mg "min" = none) (ha : PA X (e :: es) (uA G W fa)) (he : starEach (e :: es) X.env = (false, eval e X.env) :: starEach es X.env := by rfl) (hpl : (backTo pos (starEach es X.env)).any (·.1) = false := by rfl) :
    PE X (.Call (.Name "min" p) (e :: es) [] pos) (uE G W (nCall gMin fa)) := by
  have z := CallS.or (s_minL (G := G)) s_minK
  rw [o.K] at z
  exact n_callB (CallR.or' (cr_min o.calm) (cr_minK o.calm)) z hg hm (by decide +kernel) ha (by decide) (by decide) he hpl
theorem n_max (o : OkN X G W) (hg : Gl X "max") (hm : X.mg "max" = none) (ha : PA X (e :: es) (uA G W fa)) (he : starEach (e :: es) X.env = (false, eval e X.env) :: starEach es X.env := by rfl) (hpl : (backTo pos (starEach es X.env)).any (·.1) = false := by rfl) :
    PE X (.Call (.Name "max" p) (e :: es) [] pos) (uE G W (nCall gMax fa)) := by
  have z := CallS.or (s_max2 (G := G)) (CallS.or (s_maxL (G := G)) s_maxK)
  rw [o.K] at z
  exact n_callB (CallR.or' (call_max2 o.calm) (CallR.or' (cr_max o.calm) (cr_maxK o.calm))) z hg hm (by decide +kernel) ha (by decide) (by decide) he hpl
theorem n_type (o : OkN X G W) (hg : Gl X "type") (hm : X.mg "type" = none) (ha : PA X (e :: es) (uA G W fa)) (he : starEach (e :: es) X.env = (false, eval e X.env) :: starEach es X.env := by rfl) (hpl : (backTo pos (starEach es X.env)).any (·.1) = false := by rfl) :
    PE X (.Call (.Name "type" p) (e :: es) [] pos) (uE G W (nCall gType fa)) := by
  have z := s_type (G := G)
  rw [o.K] at z
  exact n_callTy call_type1 z hg hm (by decide +kernel) ha (by decide) (by decide) he hpl
theorem n_isi (o : OkN X G W) (hg : Gl X "isinstance") (hm : X.mg "isinstance" = none) (ha : PA X (e :: es) (uA G W fa)) (he : starEach (e :: es) X.env = (false, eval e X.env) :: starEach es X.env := by rfl) (hpl : (backTo pos (starEach es X.env)).any (·.1) = false := by rfl) :
    PE X (.Call (.Name "isinstance" p) (e :: es) [] pos) (uE G W (nCall gIsi fa)) := by
  have z := CallS.or (s_isi1 (G := G)) s_isiT
  rw [o.K] at z
  exact n_callB (CallR.or' call_isi call_isiT) z hg hm (by decide +kernel) ha (by decide) (by decide) he hpl
theorem n_dict (o : OkN X G W) (hg : Gl X "dict") (hm : X.mg "dict" = none) (ha : PA X (e :: es) (uA G W fa)) (he : starEach (e :: es) X.env = (false, eval e X.env) :: starEach es X.env := by rfl) (hpl : (backTo pos (starEach es X.env)).any (·.1) = false := by rfl) :
    PE X (.Call (.Name "dict" p) (e :: es) [] pos) (uE G W (nCall gDict fa)) := by
  have z := CallS.or (s_dctT (G := G)) s_dctF
  rw [o.K] at z
  exact n_callTy (CallR.or' (cr_dctT o.calm (by have := o.hu; omega)) (cr_dctF o.calm)) z hg hm (by decide +kernel) ha (by decide) (by decide) he hpl
theorem n_setB (o : OkN X G W) (hg : Gl X "set") (hm : X.mg "set" = none) (ha : PA X (e :: es) (uA G W fa)) (he : starEach (e :: es) X.env = (false, eval e X.env) :: starEach es X.env := by rfl) (hpl : (backTo pos (starEach es X.env)).any (·.1) = false := by rfl) :
    PE X (.Call (.Name "set" p) (e :: es) [] pos) (uE G W (nCall gSetQ fa)) := by
  have z := s_setQ (G := G) (P := X.prog) (w := X.w) o.so
  rw [o.K] at z
  exact n_callTy (cr_setQ o.calm (by have := o.hu; omega)) z hg hm (by decide +kernel) ha (by decide) (by decide) he hpl
theorem n_sorted (o : OkN X G W) (hg : Gl X "sorted") (hm : X.mg "sorted" = none) (ha : PA X (e :: es) (uA G W fa)) (he : starEach (e :: es) X.env = (false, eval e X.env) :: starEach es X.env := by rfl) (hpl : (backTo pos (starEach es X.env)).any (·.1) = false := by rfl) :
    PE X (.Call (.Name "sorted" p) (e :: es) [] pos) (uE G W (nCall gSortedU fa)) := by
  have z := CallS.or (s_sortedK (G := G)) s_sorted
  rw [o.K] at z
  exact n_callB (CallR.or' (call_sortedDI o.calm) (cr_srt (by have := o.hu; omega))) z hg hm (by decide +kernel) ha (by decide) (by decide) he hpl

/-! ### operators -/
variable {a b : Expr} {f g : Env → N D}
theorem nt_inU (o : OkN X G W) (ha : PE X a (uE G W f)) (hb : PE X b (uE G W g)) (hm : behindInMarks .In b = false := by rfl) : PT X (.Compare a [.In] [b] pos) (uT G W (nTest (nOp gInU f g))) := nt_cmp (r_inU o.ok) (s_inU o.ok) ha hb hm
theorem nt_notInU (o : OkN X G W) (ha : PE X a (uE G W f)) (hb : PE X b (uE G W g)) (hm : behindInMarks .NotIn b = false := by rfl) : PT X (.Compare a [.NotIn] [b] pos) (uT G W (nTest (nOp gNotInU f g))) := nt_cmp (r_notInU o.ok) (s_notInU o.ok) ha hb hm
theorem n_inU (o : OkN X G W) (ha : PE X a (uE G W f)) (hb : PE X b (uE G W g)) (hm : behindInMarks .In b = false := by rfl) : PE X (.Compare a [.In] [b] pos) (uE G W (nOp gInU f g)) := n_cmp (r_inU o.ok) (s_inU o.ok) ha hb hm
theorem n_notInU (o : OkN X G W) (ha : PE X a (uE G W f)) (hb : PE X b (uE G W g)) (hm : behindInMarks .NotIn b = false := by rfl) : PE X (.Compare a [.NotIn] [b] pos) (uE G W (nOp gNotInU f g)) := n_cmp (r_notInU o.ok) (s_notInU o.ok) ha hb hm
theorem n_add (o : OkN X G W) (ha : PE X a (uE G W f)) (hb : PE X b (uE G W g)) : PE X (.BinOp a .Add b pos) (uE G W (nOp gAdd f g)) := by
  have z := s_add (G := G)
  rw [o.K] at z
  exact n_op op_addA z ha hb
theorem n_sub (ha : PE X a (uE G W f)) (hb : PE X b (uE G W g)) : PE X (.BinOp a .Sub b pos) (uE G W (nOp gSub f g)) := n_op op_sub s_sub ha hb
theorem n_mul (ha : PE X a (uE G W f)) (hb : PE X b (uE G W g)) : PE X (.BinOp a .Mult b pos) (uE G W (nOp gMul f g)) := n_op op_mul s_mul ha hb
theorem n_div (ha : PE X a (uE G W f)) (hb : PE X b (uE G W g)) : PE X (.BinOp a .FloorDiv b pos) (uE G W (nOp gDiv f g)) := n_op op_fdiv s_div ha hb
theorem n_mod (ha : PE X a (uE G W f)) (hb : PE X b (uE G W g)) : PE X (.BinOp a .Mod b pos) (uE G W (nOp gMod f g)) := n_op op_mod s_mod ha hb
theorem n_neg (ha : PE X a (uE G W f)) : PE X (.UnaryOp .USub a pos) (uE G W (nUn gNeg f)) := n_un un_neg s_neg ha
theorem nc_eq (o : OkN X G W) (ha : PE X a (uE G W f)) (hb : PE X b (uE G W g)) : PT X (.Compare a [.Eq] [b] pos) (uT G W (nTest (nOp (eqG true) f g))) := by
  have z := s_eq (G := G)
  rw [o.K] at z
  exact nt_cmp (op_eqD (by have := o.hu; omega)) z ha hb (nobehind _ (by decide) (by decide))
theorem nc_ne (o : OkN X G W) (ha : PE X a (uE G W f)) (hb : PE X b (uE G W g)) : PT X (.Compare a [.NotEq] [b] pos) (uT G W (nTest (nOp (eqG false) f g))) := by
  have z := s_ne (G := G)
  rw [o.K] at z
  exact nt_cmp (op_neD (by have := o.hu; omega)) z ha hb (nobehind _ (by decide) (by decide))
theorem nv_eq (o : OkN X G W) (ha : PE X a (uE G W f)) (hb : PE X b (uE G W g)) : PE X (.Compare a [.Eq] [b] pos) (uE G W (nOp (eqG true) f g)) := by
  have z := s_eq (G := G)
  rw [o.K] at z
  exact n_cmp (op_eqD (by have := o.hu; omega)) z ha hb (nobehind _ (by decide) (by decide))
theorem nv_ne (o : OkN X G W) (ha : PE X a (uE G W f)) (hb : PE X b (uE G W g)) : PE X (.Compare a [.NotEq] [b] pos) (uE G W (nOp (eqG false) f g)) := by
  have z := s_ne (G := G)
  rw [o.K] at z
  exact n_cmp (op_neD (by have := o.hu; omega)) z ha hb (nobehind _ (by decide) (by decide))
theorem nc_lt (o : OkN X G W) (ha : PE X a (uE G W f)) (hb : PE X b (uE G W g)) : PT X (.Compare a [.Lt] [b] pos) (uT G W (nTest (nOp gLt f g))) := by
  have z := s_lt (G := G)
  rw [o.K] at z
  exact nt_cmp (op_ltA (by have := o.hu; omega)) z ha hb (nobehind _ (by decide) (by decide))
theorem nv_lt (o : OkN X G W) (ha : PE X a (uE G W f)) (hb : PE X b (uE G W g)) : PE X (.Compare a [.Lt] [b] pos) (uE G W (nOp gLt f g)) := by
  have z := s_lt (G := G)
  rw [o.K] at z
  exact n_cmp (op_ltA (by have := o.hu; omega)) z ha hb (nobehind _ (by decide) (by decide))
theorem nc_le (ha : PE X a (uE G W f)) (hb : PE X b (uE G W g)) : PT X (.Compare a [.LtE] [b] pos) (uT G W (nTest (nOp gLe f g))) := nt_cmp op_le s_le ha hb (nobehind _ (by decide) (by decide))
theorem nc_gt (ha : PE X a (uE G W f)) (hb : PE X b (uE G W g)) : PT X (.Compare a [.Gt] [b] pos) (uT G W (nTest (nOp gGt f g))) := nt_cmp op_gt s_gt ha hb (nobehind _ (by decide) (by decide))
theorem nc_ge (ha : PE X a (uE G W f)) (hb : PE X b (uE G W g)) : PT X (.Compare a [.GtE] [b] pos) (uT G W (nTest (nOp gGe f g))) := nt_cmp op_ge s_ge ha hb (nobehind _ (by decide) (by decide))
theorem nv_le (ha : PE X a (uE G W f)) (hb : PE X b (uE G W g)) : PE X (.Compare a [.LtE] [b] pos) (uE G W (nOp gLe f g)) := n_cmp op_le s_le ha hb (nobehind _ (by decide) (by decide))
theorem nv_gt (ha : PE X a (uE G W f)) (hb : PE X b (uE G W g)) : PE X (.Compare a [.Gt] [b] pos) (uE G W (nOp gGt f g)) := n_cmp op_gt s_gt ha hb (nobehind _ (by decide) (by decide))
theorem nv_ge (ha : PE X a (uE G W f)) (hb : PE X b (uE G W g)) : PE X (.Compare a [.GtE] [b] pos) (uE G W (nOp gGe f g)) := n_cmp op_ge s_ge ha hb (nobehind _ (by decide) (by decide))
theorem nc_isN (ha : PE X a (uE G W f)) (hb : PE X b (uE G W g)) : PT X (.Compare a [.Is] [b] pos) (uT G W (nTest (nOp (gIsN false) f g))) := nt_cmp op_isN s_isN ha hb (nobehind _ (by decide) (by decide))
theorem nc_notN (ha : PE X a (uE G W f)) (hb : PE X b (uE G W g)) : PT X (.Compare a [.IsNot] [b] pos) (uT G W (nTest (nOp (gIsN true) f g))) := nt_cmp op_notN s_notN ha hb (nobehind _ (by decide) (by decide))
theorem nv_isN (ha : PE X a (uE G W f)) (hb : PE X b (uE G W g)) : PE X (.Compare a [.Is] [b] pos) (uE G W (nOp (gIsN false) f g)) := n_cmp op_isN s_isN ha hb (nobehind _ (by decide) (by decide))
theorem nv_notN (ha : PE X a (uE G W f)) (hb : PE X b (uE G W g)) : PE X (.Compare a [.IsNot] [b] pos) (uE G W (nOp (gIsN true) f g)) := n_cmp op_notN s_notN ha hb (nobehind _ (by decide) (by decide))
theorem nc_isT (ha : PE X a (uE G W f)) (hb : PE X b (uE G W g)) : PT X (.Compare a [.Is] [b] pos) (uT G W (nTest (nOp gIsT f g))) := nt_cmp op_isTy s_isT ha hb (nobehind _ (by decide) (by decide))
theorem nv_isT (ha : PE X a (uE G W f)) (hb : PE X b (uE G W g)) : PE X (.Compare a [.Is] [b] pos) (uE G W (nOp gIsT f g)) := n_cmp op_isTy s_isT ha hb (nobehind _ (by decide) (by decide))
end
end Eng
set_option maxRecDepth 100000
set_option maxHeartbeats 4000000
/-! * of a list or a tuple by a number; any; calls of values without arguments. -/
namespace Eng
open PySem PySem.Spec PyProof.Rows L2
section
variable {X : Cx} {G : Gd} {W : WX}
def repD (k : Nat) (xs : List D) : List D := (List.replicate k xs).flatten
theorem rep_rvs {K : PySem.W.Frag} {ρ : Nat → Option Addr} {H : Hp} {xs : List D} {ys : List V} (h : RVs K ρ H xs ys) : ∀ k, RVs K ρ H (repD k xs) (List.replicate k ys).flatten
  | 0 => RVs.nil
  | k + 1 => by
    unfold repD
    rw [List.replicate_succ, List.replicate_succ, List.flatten_cons, List.flatten_cons]
    exact h.append (rep_rvs h k)
def gRepL : D → D → M D := fun x y hm => match x, y with
  | .ref n, .int k => match hm.get n with
    | some (.lst xs) => if 0 ≤ k ∧ k ≤ 100000 ∧ xs.length * k.toNat ≤ big then some (.ref hm.nx, hm.new (.lst (repD k.toNat xs))) else none
    | _ => none
  | _, _ => none
theorem s_repL : OpS G rRep gRepL := by
  intro ρ hm H x y v u d hm' Q r hv hu e q
  unfold gRepL at e
  split at e
  · rename_i n k
    split at e
    · rename_i xs hx
      split at e
      · rename_i c
        cases e
        unfold RV at hv hu
        obtain ⟨a, ha, rfl⟩ := hv
        obtain ⟨a', ha', ys, h1, h2⟩ := r.obj _ _ hx
        rw [ha] at ha'; cases ha'
        exact ⟨a, k, ys, rfl, hu, h1, by omega, by omega, by rw [← h2.length]; exact big_le c.2.2, rh_lst1 r (rep_rvs h2 _) rfl rfl q⟩
      · cases e
    · cases e
  · cases e
def gRepT : D → D → M D := fun x y hm => match x, y with
  | .tup xs, .int k => if xs ≠ [] ∧ 2 ≤ k ∧ k ≤ 1000 ∧ xs.length ≤ 1000 then some (.tup (repD k.toNat xs), hm) else none
  | _, _ => none
theorem s_repT : OpS G (rRepT G.K) gRepT := by
  intro ρ hm H x y v u d hm' Q r hv hu e q
  unfold gRepT at e
  split at e
  · split at e
    · rename_i xs k c
      cases e
      unfold RV at hv hu
      obtain ⟨a, ys, rfl, h1, h2⟩ := hv
      refine ⟨a, k, ys, rfl, hu, h1.sq, fun z => c.1 ?_, c.2.1, c.2.2.1, by rw [← h2.length]; exact c.2.2.2, fun p hp => q ρ _ _ (Le.tup hp) (r.tup hp) (rv_tup hp (rep_rvs h2 _))⟩
      exact List.eq_nil_of_length_eq_zero (by rw [h2.length, z]; rfl)
    · cases e
  · cases e
def gMulU : D → D → M D := orM gMul (orM gRepL gRepT)
theorem n_mulU {a b : Expr} {f g : Env → N D} {pos : Pos} (o : OkN X G W) (ha : PE X a (uE G W f)) (hb : PE X b (uE G W g)) : PE X (.BinOp a .Mult b pos) (uE G W (nOp gMulU f g)) := by
  have z := OpS.or (s_mul (G := G)) (OpS.or s_repL s_repT)
  rw [o.K] at z
  exact n_op (OpR.or op_mul (OpR.or op_rep op_repT)) z ha hb
theorem n_pow {a b : Expr} {f g : Env → N D} {pos : Pos} (ha : PE X a (uE G W f)) (hb : PE X b (uE G W g)) : PE X (.BinOp a .Pow b pos) (uE G W (nOp gPow f g)) := n_op op_pow (iop_s cPow_ok fun _ _ => rfl) ha hb
theorem n_tyn {x : Str} {T : String} {pos : Pos} (hg : Gl X x) (hm : X.mg x = none) (hv : bootBuiltins x = some (.type T)) (hn : x ≠ "__name__" := by decide) (hd : (x == ("__debug__" : Str)) = false := by decide) : PE X (.Name x pos) (uE G W (nC (.ty T))) := n_c (pe_bltn (v := .ty T) hg hm hv rfl hn hd) rfl
theorem nt_of {e : Expr} {f : Env → N D} (h : PE X e (uE G W f)) (he : ∀ whole, isTrue e X.env whole = (do let v ← whole; standAt e.pos; holding [v] (truthy v)) := by intro _; rfl) : PT X e (uT G W (nTest f)) := nt_val h he
def gNotT : D → D → M D := fun x y hm => match x, y with
  | .ty a, .ty b => some (.bl (!decide (a = b)), hm)
  | _, _ => none
theorem s_notT : OpS G (fun x y H Q => ∃ m n, x = V.ty m ∧ y = V.ty n ∧ Q (V.bl (!decide (m = n))) H) gNotT := by
  intro ρ hm H x y v u d hm' Q r hv hu e q
  unfold gNotT at e
  split at e
  · cases e
    unfold RV at hv hu
    exact ⟨_, _, hv, hu, q ρ _ H Le.refl r (by unfold RV; rfl)⟩
  · cases e
theorem nc_notT {a b : Expr} {f g : Env → N D} {pos : Pos} (ha : PE X a (uE G W f)) (hb : PE X b (uE G W g)) : PT X (.Compare a [.IsNot] [b] pos) (uT G W (nTest (nOp gNotT f g))) := nt_cmp op_isNotTy s_notT ha hb (nobehind _ (by decide) (by decide))
theorem nv_notT {a b : Expr} {f g : Env → N D} {pos : Pos} (ha : PE X a (uE G W f)) (hb : PE X b (uE G W g)) : PE X (.Compare a [.IsNot] [b] pos) (uE G W (nOp gNotT f g)) := n_cmp op_isNotTy s_notT ha hb (nobehind _ (by decide) (by decide))
theorem ng_subo {o i : Expr} {fo fi : Env → N D} {pos : Pos} (ok : OkN X G W) (ho : PE X o (uE G W fo)) (hi : PE X i (uE G W fi))
    (ha : ∀ v, assign (.Subscript o i pos) X.env v = (do
      let ov ← holding [v] (eval o X.env)
      let iv ← holding [v, ov] (eval i X.env)
      standAt pos
      holding [v, ov, iv] (setItem ov iv v)
      release [v, ov, iv] []) := by intro _; rfl) : PG X (.Subscript o i pos) (tG G (nSubD fo fi)) := ng_sub ok.u1 ho hi ha
end
end Eng
set_option maxRecDepth 100000
set_option maxHeartbeats 4000000
/-! What the texts that gen2.py prints lean on: classes' facts, their __init__, defs as values, an if-else behind which nothing is held, the start. -/
namespace Eng
open PySem PySem.Spec PySem.W PyProof.Rows PySem.HandSPX L2
theorem memlt {l : List Nat} {N c : Nat} (h : l.all (fun x => Nat.ble (x + 1) N) = true) (m : c ∈ l) : c < N := Nat.le_of_ble_eq_true ((List.all_eq_true.mp h) c m)
/-- an own class right below Z, by number; fl: the one attribute of its __init__ -/
structure XF (Z : XBase) (K : PySem.W.Frag) (mg : Str → Option Value) (G : Gd) (k : Nat) (x : Str) : Prop where
  g : mg x = some (.ref (G.xc k))
  kp : keepIn K (.ref (G.xc k)) = true
  ex : subIn K (.ref (G.xc k)) (.type "BaseException") = some true
  ty : typeIn K (.ref (G.xc k)) = some (.type "type")
  ec : ExcC K (G.xc k)
structure XF0 (Z : XBase) (K : PySem.W.Frag) (mg : Str → Option Value) (G : Gd) (k : Nat) (x : Str) : Prop extends XF Z K mg G k x where
  xi : excIn K (G.xc k) Z.bm Z.nid = true
structure XF1 (Z : XBase) (K : PySem.W.Frag) (mg : Str → Option Value) (G : Gd) (k : Nat) (x f : Str) (fI : Addr) : Prop extends XF Z K mg G k x where
  cl : XCl Z K (G.xc k)
  iC : findIn K (.ref (G.xc k)) "__init__" = some (some (.ref fI))
  tI : typeIn K (.ref fI) = some (.type "function")
  no : findIn K (.ref (G.xc k)) f = some none
theorem XF.xf {Z : XBase} {K : PySem.W.Frag} {mg : Str → Option Value} {G : Gd} {k : Nat} {x : Str} (T : XF Z K mg G k x) : XfC K (G.xc k) := ⟨T.ec.hg, T.ec.hk, T.ec.hs, T.ec.hd⟩
/-- an __init__ that can be run -/
structure IniN (P : Program) (w : World) (K : PySem.W.Frag) (mg : Str → Option Value) (base : Heap) (G : Gd) (j k : Nat) (f : Str) (fe : Env → N D) (fI : Addr) where
  fd : FuncData
  ps : List Str
  ok : FnOk P w K mg base (L2.CX P w) j fI fd ps (spI G k f fe)
  b : Binds K fd ps []
section
variable {P : Program} {w : World} {K : PySem.W.Frag} {mg : Str → Option Value} {base : Heap} {G : Gd}
theorem init_ok {Z : XBase} {x qual fl : Str} {st : Stmt} {f : Addr} {fd : FuncData} {NS ps : List Str} {j k : Nat} {fe : Env → N D} (F : FunA K x qual st f fd) (S : FnScope NS ps (defScope st)) (hn : ps.length = 2) (hN : NS.length = 2) (hK : G.K = K) (T : XCl Z K (G.xc k)) (hno : findIn K (.ref (G.xc k)) fl = some none)
    (hb : ∀ (cdv : Value) (A : Around) (outer : List PySem.Env) (s : Shared) (H : Hp) (E : XK), Room j (A.deeper (envOfC qual (defScope st) s.heap.objs.size f cdv)) → PSs (cxOf (L2.CX P w) P w K mg base NS qual (defScope st) f cdv A outer s H E) (defBody st) (tOstB Z K fl (tVar 0) (uE G W0 fe))) :
    FnOk P w K mg base (L2.CX P w) (j + 1) f fd ps (spI G k fl fe) := by
  obtain ⟨oc, od, dV, kV, doc, pm, an, cdv, ct, osl, rfl, lk, hcd⟩ := F.ex
  refine fn_of lk hcd S (fun vs H Q E h => ?_) (fun A outer s H vs Q E hr h => ⟨_, hb cdv A outer s H E hr, ?_⟩)
  · obtain ⟨ρ, hm, n, d, a, v, d2, h2, r, hn0, ha, rfl, _⟩ := h
    exact hn.symm
  exact init_run (X := cxOf (L2.CX P w) P w K mg base NS qual (defScope st) f cdv A outer s H E) (Q := Q) (E := E) hK T hno hN h
/-- a def's name as a value -/
structure FnV (mg : Str → Option Value) (G : Gd) (i : Nat) (x : Str) : Prop where
  ex : ∃ a : Addr, (i, a) ∈ G.pins ∧ mg x = some (.ref a)
end
section
variable {X : Cx} {G : Gd} {W : WX}
theorem n_fnv {x : Str} {pos : Pos} {i : Nat} (F : FnV X.mg G i x) (hg : Gl X x) (hdb : (x == ("__debug__" : Str)) = false := by decide) : PE X (.Name x pos) (uE G W (nC (.ref i))) := by
  obtain ⟨a, h1, h2⟩ := F.ex
  exact n_fn h1 hg h2 hdb
/-- all objects are let go -/
def Hm.gone (h : Hm) : Hm := ⟨h.nx, [], h.low⟩
theorem RH.gone {ρ : Nat → Option Addr} {H : Hp} {hm : Hm} (r : RH G ρ H hm) : RH G ρ H hm.gone := ⟨fun n o e => (nomatch e), fun m n a h1 => (nomatch h1), r.dom, fun n o e => (nomatch e), r.base⟩
def nIfG (c : Env → N Bool) (f g : Env → N D) : Env → N D := fun env => nBnd (c env) fun b h => if b = true then f env h.gone else g env h.gone
theorem n_ifG {c a b : Expr} {fc : Env → N Bool} {f g : Env → N D} {pos : Pos} (hc : PT X c (uT G W fc)) (ha : PE X a (uE G W f)) (hb : PE X b (uE G W g)) : PE X (.IfExp c a b pos) (uE G W (nIfG fc f g)) := PE.imp (pe_ifExp hc ha hb) fun σ H Q ⟨ρ, env, hm, rs, a⟩ => by
  refine ⟨ρ, env, hm, rs, a.bnd fun t h1 e1 a => fun ρ1 H1 l1 r1 => ?_⟩
  have l2 : Le G.K ρ H hm ρ1 H1 h1.gone := ⟨l1.nx, l1.same, l1.tx⟩
  have rs2 := l2.rs rs r1.gone
  cases t with
  | true => dsimp only at a ⊢; rw [if_pos rfl] at a ⊢; exact ⟨ρ1, env, h1.gone, rs2, a.le l2 fun d h q => q.le l2⟩
  | false => dsimp only at a ⊢; rw [if_neg Bool.false_ne_true] at a ⊢; exact ⟨ρ1, env, h1.gone, rs2, a.le l2 fun d h q => q.le l2⟩
/-- the k-th statement of a class -/
def clsAt (st : Stmt) (i : Nat) : Stmt := match st with
  | .ClassDef _ _ _ body .. => body.getD i (.Pass ⟨0, 0, 0, 0⟩)
  | _ => .Pass ⟨0, 0, 0, 0⟩

/-! ### the start -/
def rho0 (pins : List (Nat × Addr)) : Nat → Option Addr := fun n => pins.lookup n
theorem start_rh {G : Gd} {H : Hp} {nx : Nat} (h1 : ∀ n a, rho0 G.pins n = some a → n < nx) (h2 : ∀ p ∈ G.pins, rho0 G.pins p.1 = some p.2) : RH G (rho0 G.pins) H ⟨nx, [], top⟩ :=
  ⟨fun n o e => (nomatch e), fun m n a h => (nomatch h), h1, fun n o e => (nomatch e), h2⟩
def isTrueN : R D → Bool
  | .ok (.bl b) _ => b
  | _ => false
theorem isTrueN_eq {r : R D} (h : isTrueN r = true) : ∃ h', r = .ok (.bl true) h' := by
  cases r with
  | ok d h' =>
    cases d with
    | bl b => cases b with
      | true => exact ⟨h', rfl⟩
      | false => cases h
    | _ => cases h
  | _ => cases h
/-- what law(script) promises -/
def spLaw (K : PySem.W.Frag) : Sp := fun vs H Q _ => ∃ (a : Addr) (ns : List Int), vs = [.ref a] ∧ FL K H a (ns.map V.int) ∧ ns.length ≤ 63 ∧ ∀ H', Q (.bl true) H'
theorem law_fl {K : PySem.W.Frag} {H : Hp} {a : Addr} {xs : List V} (o : L2.Only H) (h : SqL K H a xs) : FL K H a xs := by
  rcases h with (h | ⟨ob, h⟩) | h
  · rcases o a with e | ⟨ob, ys, e⟩
    · rw [e] at h; cases h
    · rw [e] at h; cases h
  · exact .inl ⟨ob, h⟩
  · exact .inr h
theorem kl_rvs {K : PySem.W.Frag} {ρ : Nat → Option Addr} {H : Hp} {a : Addr} {ns : List Int} (h : FL K H a (ns.map V.int)) : RV K ρ H (.kl (ns.map D.int)) (.ref a) := by
  unfold RV
  exact ⟨a, ns.map V.int, rfl, h, RVs.of_ints ns⟩
/-- a def that does what f says, for a law f that comes to True at every script -/
theorem law_sp {P : Program} {w : World} {K : PySem.W.Frag} {mg : Str → Option Value} {base : Heap} {G : Gd} {k nx : Nat} {f : Addr} {fd : FuncData} {ps : List Str} {g : List D → N D} (hK : G.K = K) (F : FnOk P w K mg base (L2.CX P w) k f fd ps (spN G 1 g)) (hp : ps.length = 1)
    (h1 : ∀ n a, rho0 G.pins n = some a → n < nx) (h2 : ∀ p ∈ G.pins, rho0 G.pins p.1 = some p.2) (tr : ∀ ns : List Int, ns.length ≤ 63 → isTrueN (g [.kl (ns.map D.int)] ⟨nx, [], top⟩) = true) : FnOk P w K mg base (L2.CX P w) k f fd ps (spLaw K) := by
  have imp : ∀ vs H Q E, spLaw K vs H Q E → spN G 1 g vs H Q E := fun vs H Q E ⟨a, ns, ev, hf, hl, q⟩ => by
    subst ev
    obtain ⟨h', e⟩ := isTrueN_eq (tr ns hl)
    refine ⟨rho0 G.pins, ⟨nx, [], top⟩, [.kl (ns.map D.int)], start_rh h1 h2, .cons (kl_rvs (by rw [hK]; exact hf)) .nil, rfl, ?_⟩
    rw [e]
    exact fun ρ' v H' l r z => by
      unfold RV at z
      subst z
      exact q H'
  exact ⟨fun vs H Q E h => F.len vs H Q E (imp vs H Q E h), fun A outer s H args us vs Q E hr e0 b r h => F.run A outer s H args us vs Q E hr e0 b r (imp vs H Q E h)⟩
end
end Eng
set_option maxRecDepth 100000
set_option maxHeartbeats 4000000
namespace Eng
open PySem PySem.Spec PyProof.Rows L2
def tp (i : Nat) : Stmt := PySem.Challenge.pw_stairlaid_k51_cells_and_spaces_by_hand_a.main.body.getD i (.Pass ⟨0, 0, 0, 0⟩)

structure Fx (P : Program) (w : World) (K : PySem.W.Frag) (mg : Str → Option Value) (G : Gd) where
  hK : G.K = K
  hS : G.SO = SetDO P w
  m_LookupError : mg "LookupError" = none
  m_ValueError : mg "ValueError" = none
  m_abs : mg "abs" = none
  m_all : mg "all" = none
  m_bool : mg "bool" = none
  m_enumerate : mg "enumerate" = none
  m_int : mg "int" = none
  m_isinstance : mg "isinstance" = none
  m_len : mg "len" = none
  m_list : mg "list" = none
  m_max : mg "max" = none
  m_min : mg "min" = none
  m_range : mg "range" = none
  m_set : mg "set" = none
  m_sorted : mg "sorted" = none
  m_str : mg "str" = none
  m_tuple : mg "tuple" = none
  m_type : mg "type" = none
  m_zip : mg "zip" = none
  i_NoCell : Addr
  x_NoCell : XF1 xbLE K mg G 0 "NoCell" "cell" i_NoCell
  x_Unfit : XF0 xbVE K mg G 1 "Unfit"
  kit_NoCell_LookupError : PySem.W.kitOne K (.ref (G.xc 0)) (.type "LookupError") = some true
  kit_Unfit_ValueError : PySem.W.kitOne K (.ref (G.xc 1)) (.type "ValueError") = some true
  exm : ∀ k c, k < 2 → c < 2 → PySem.W.exmOne K (.ref (G.xc k)) (.ref (G.xc c)) = some (Nat.beq k c)
  v_span : FnV mg G 0 "span"
  v_borders : FnV mg G 1 "borders"
  v_mirrored : FnV mg G 2 "mirrored"
  v_half_turned : FnV mg G 3 "half_turned"
  v_stair_mirrored : FnV mg G 4 "stair_mirrored"
  v_stair_half_turned : FnV mg G 5 "stair_half_turned"
  v_diagonal : FnV mg G 6 "diagonal"
  v_can_grow : FnV mg G 7 "can_grow"
  v_grown : FnV mg G 8 "grown"
  v_shrunk : FnV mg G 9 "shrunk"
  v_shifted : FnV mg G 10 "shifted"
  v_alike : FnV mg G 11 "alike"
  v_stair_shifted : FnV mg G 12 "stair_shifted"
  v_laying_shifted : FnV mg G 13 "laying_shifted"
  v_laying_mirrored : FnV mg G 14 "laying_mirrored"
  v_laying_half_turned : FnV mg G 15 "laying_half_turned"
/-! ### _copied -/
abbrev d__copied : Stmt := tp 1
def b__copied (rec : List D → N D) : Sf :=
  (nSeq (nIf (nTest (nCall gIsi (nCons (nVar 0) (nCons (nC (.ty "list")) nNil)))) (nRet (nLc (nV (nVar 0)) (.nm 1) nYes (nCallD 1 rec [] (nCons (nVar 1) nNil)) [1])) nSkip) (nSeq (nIf (nTest (nCall gIsi (nCons (nVar 0) (nCons (nC (.ty "tuple")) nNil)))) (nRet (nCall gTupL (nCons (nLc (nV (nVar 0)) (.nm 1) nYes (nCallD 1 rec [] (nCons (nVar 1) nNil)) [1]) nNil))) nSkip) (nRet (nVar 0))))
def f__copied : Nat → List D → N D
  | 0 => fun _ _ => .no
  | n + 1 => nDef 2 (b__copied (f__copied n))
theorem sc__copied : FnScope ["value", "item"] ["value"] (defScope d__copied) := ⟨rfl, rfl, rfl, by decide +kernel, rfl, by decide +kernel, by decide +kernel⟩
theorem ok__copied {P : Program} {w : World} {K : PySem.W.Frag} {mg : Str → Option Value} {base : Heap} {f : Addr} {fd : FuncData} {G : Gd} (T : Fx P w K mg G) (F : FunA K "_copied" "_copied" d__copied f fd) {k : Nat} {rec : List D → N D}
    (C__copied : CalN P w K mg base G "_copied" k 1 rec []) :
    FnOk P w K mg base (L2.CX P w) (k + 1) f fd ["value"] (spN G 1 (nDef 2 (b__copied rec))) :=
  ndef_ok (G := G) F sc__copied rfl rfl fun cdv A outer s H E hr => by
    have o := okDef (G := G) (mg := mg) (base := base) (N := ["value", "item"]) (qual := "_copied") (sc := defScope d__copied) (outer := outer) (H := H) (E := E) T.hK T.hS hr
    have nd := (sc__copied).nd
    exact (ns_cons (n_if (nt_of (n_isi o (by rfl) T.m_isinstance (na_cons (n_var (pv 0)) (na_cons (n_tyn (T := "list") (by rfl) T.m_list (by decide +kernel)) na_nil)))) (ns_one (n_ret (n_lc (.nm 1) o.K rfl (pe_lc (own := [("item", 1)]) (g := Tgt.tg _ (.nm 1)) o.calm nd (ni_val o.K (n_var (pv 0))) (blkOk_by (N := ["value", "item"]) (sc := defScope d__copied) (by decide +kernel)) (fun _ _ _ _ _ => (pg_name (i := 1) nd rfl (by first | exact .inl rfl | exact .inr rfl))) (fun _ _ _ _ _ => nts_nil) (fun _ _ _ _ _ => (n_cal C__copied (okBlkN o).tk (hr.mono (by omega)) (by rfl) (na_cons (n_var (pv 1)) na_nil))))))) ns_nil) (ns_cons (n_if (nt_of (n_isi o (by rfl) T.m_isinstance (na_cons (n_var (pv 0)) (na_cons (n_tyn (T := "tuple") (by rfl) T.m_tuple (by decide +kernel)) na_nil)))) (ns_one (n_ret (n_tuple o (by rfl) T.m_tuple (na_cons (n_lc (.nm 1) o.K rfl (pe_lc (own := [("item", 1)]) (g := Tgt.tg _ (.nm 1)) o.calm nd (ni_val o.K (n_var (pv 0))) (blkOk_by (N := ["value", "item"]) (sc := defScope d__copied) (by decide +kernel)) (fun _ _ _ _ _ => (pg_name (i := 1) nd rfl (by first | exact .inl rfl | exact .inr rfl))) (fun _ _ _ _ _ => nts_nil) (fun _ _ _ _ _ => (n_cal C__copied (okBlkN o).tk (hr.mono (by omega)) (by rfl) (na_cons (n_var (pv 1)) na_nil))))) na_nil)))) ns_nil) (ns_one (n_ret (n_var (pv 0))))))
/-! ### NoCell.__init__ -/
abbrev d_init_NoCell : Stmt := clsAt (tp 2) 0
def fe_NoCell : Env → N D := (nCallD 1 (f__copied 6) [] (nCons (nVar 1) nNil))
theorem sc_init_NoCell : FnScope ["self", "cell"] ["self", "cell"] (defScope d_init_NoCell) := ⟨rfl, rfl, rfl, by decide +kernel, rfl, by decide +kernel, by decide +kernel⟩
theorem ok_init_NoCell {P : Program} {w : World} {K : PySem.W.Frag} {mg : Str → Option Value} {base : Heap} {f : Addr} {fd : FuncData} {G : Gd} (T : Fx P w K mg G) (F : FunA K "__init__" "NoCell.__init__" d_init_NoCell f fd) (C__copied : CalN P w K mg base G "_copied" 6 1 (f__copied 6) []) :
    FnOk P w K mg base (L2.CX P w) 7 f fd ["self", "cell"] (spI G 0 "cell" fe_NoCell) :=
  init_ok (G := G) F sc_init_NoCell rfl rfl T.hK T.x_NoCell.cl T.x_NoCell.no fun cdv A outer s H E hr => by
    have o := okDef (G := G) (mg := mg) (base := base) (N := ["self", "cell"]) (qual := "NoCell.__init__") (sc := defScope d_init_NoCell) (outer := outer) (H := H) (E := E) T.hK T.hS hr
    have o0 : OkN _ G W0 := ⟨o.K, o.calm, o.so, o.hu, takes0, o.po⟩
    exact pss_one (ps_ostB (pv 0) (n_cal C__copied o0.tk (hr.mono (by omega)) (by rfl) (na_cons (n_var (pv 1)) na_nil)))
/-! ### is_number -/
abbrev d_is_number : Stmt := tp 6
def b_is_number : Sf :=
  (nRet (nOp gIsT (nCall gType (nCons (nVar 0) nNil)) (nC (.ty "int"))))
def f_is_number : List D → N D := nDef 1 b_is_number
theorem sc_is_number : FnScope ["value"] ["value"] (defScope d_is_number) := ⟨rfl, rfl, rfl, by decide +kernel, rfl, by decide +kernel, by decide +kernel⟩
theorem ok_is_number {P : Program} {w : World} {K : PySem.W.Frag} {mg : Str → Option Value} {base : Heap} {f : Addr} {fd : FuncData} {G : Gd} (T : Fx P w K mg G) (F : FunA K "is_number" "is_number" d_is_number f fd)
     :
    FnOk P w K mg base (L2.CX P w) 1 f fd ["value"] (spN G 1 (nDef 1 b_is_number)) :=
  ndef_ok (G := G) F sc_is_number rfl rfl fun cdv A outer s H E hr => by
    have o := okDef (G := G) (mg := mg) (base := base) (N := ["value"]) (qual := "is_number") (sc := defScope d_is_number) (outer := outer) (H := H) (E := E) T.hK T.hS hr
    have nd := (sc_is_number).nd
    exact (ns_one (n_ret (nv_isT (n_type o (by rfl) T.m_type (na_cons (n_var (pv 0)) na_nil)) (n_tyn (T := "int") (by rfl) T.m_int (by decide +kernel)))))
/-! ### is_pair -/
abbrev d_is_pair : Stmt := tp 7
def b_is_pair : Sf :=
  (nRet (nAndV (nOp gIsT (nCall gType (nCons (nVar 0) nNil)) (nC (.ty "tuple"))) (nAndV (nOp (eqG true) (nCall gLenU (nCons (nVar 0) nNil)) (nC (.int 2))) (nAndV (nCallD 1 f_is_number [] (nCons (nOp gIx (nVar 0) (nC (.int 0))) nNil)) (nCallD 1 f_is_number [] (nCons (nOp gIx (nVar 0) (nC (.int 1))) nNil))))))
def f_is_pair : List D → N D := nDef 1 b_is_pair
theorem sc_is_pair : FnScope ["value"] ["value"] (defScope d_is_pair) := ⟨rfl, rfl, rfl, by decide +kernel, rfl, by decide +kernel, by decide +kernel⟩
theorem ok_is_pair {P : Program} {w : World} {K : PySem.W.Frag} {mg : Str → Option Value} {base : Heap} {f : Addr} {fd : FuncData} {G : Gd} (T : Fx P w K mg G) (F : FunA K "is_pair" "is_pair" d_is_pair f fd)
    (C_is_number : CalN P w K mg base G "is_number" 1 1 f_is_number []) :
    FnOk P w K mg base (L2.CX P w) 2 f fd ["value"] (spN G 1 (nDef 1 b_is_pair)) :=
  ndef_ok (G := G) F sc_is_pair rfl rfl fun cdv A outer s H E hr => by
    have o := okDef (G := G) (mg := mg) (base := base) (N := ["value"]) (qual := "is_pair") (sc := defScope d_is_pair) (outer := outer) (H := H) (E := E) T.hK T.hS hr
    have nd := (sc_is_pair).nd
    exact (ns_one (n_ret (n_and (nv_isT (n_type o (by rfl) T.m_type (na_cons (n_var (pv 0)) na_nil)) (n_tyn (T := "tuple") (by rfl) T.m_tuple (by decide +kernel))) (n_and (nv_eq o (n_len o (by rfl) T.m_len (na_cons (n_var (pv 0)) na_nil)) n_int) (n_and (n_cal C_is_number o.tk (hr.mono (by omega)) (by rfl) (na_cons (n_ix o.K (n_var (pv 0)) n_int (fun _ _ => rfl)) na_nil)) (n_one (n_cal C_is_number o.tk (hr.mono (by omega)) (by rfl) (na_cons (n_ix o.K (n_var (pv 0)) n_int (fun _ _ => rfl)) na_nil))))))))
/-! ### is_ascending -/
abbrev d_is_ascending : Stmt := tp 8
def b_is_ascending : Sf :=
  (nRet (nCall gAll (nCons (nLc (nZip (nCons (nVar 0) (nCons (nSl (nVar 0) (nP (nC (.int 1))) nNoP) nNil))) (.tp [(.nm 1), (.nm 2)]) nYes (nOp gLt (nVar 1) (nVar 2)) [1, 2]) nNil)))
def f_is_ascending : List D → N D := nDef 3 b_is_ascending
theorem sc_is_ascending : FnScope ["values", "low", "high"] ["values"] (defScope d_is_ascending) := ⟨rfl, rfl, rfl, by decide +kernel, rfl, by decide +kernel, by decide +kernel⟩
theorem ok_is_ascending {P : Program} {w : World} {K : PySem.W.Frag} {mg : Str → Option Value} {base : Heap} {f : Addr} {fd : FuncData} {G : Gd} (T : Fx P w K mg G) (F : FunA K "is_ascending" "is_ascending" d_is_ascending f fd)
     :
    FnOk P w K mg base (L2.CX P w) 1 f fd ["values"] (spN G 1 (nDef 3 b_is_ascending)) :=
  ndef_ok (G := G) F sc_is_ascending rfl rfl fun cdv A outer s H E hr => by
    have o := okDef (G := G) (mg := mg) (base := base) (N := ["values", "low", "high"]) (qual := "is_ascending") (sc := defScope d_is_ascending) (outer := outer) (H := H) (E := E) T.hK T.hS hr
    have nd := (sc_is_ascending).nd
    exact (ns_one (n_ret (n_all o (by rfl) T.m_all (na_cons (n_lc (.tp [(.nm 1), (.nm 2)]) o.K rfl (pe_lc (own := [("low", 1), ("high", 2)]) (g := Tgt.tg _ (.tp [(.nm 1), (.nm 2)])) o.calm nd (ni_zip o.K (by rfl) T.m_zip (na_cons (n_var (pv 0)) (na_cons (n_slice o.K (n_var (pv 0)) (np_some n_int) np_no) na_nil))) (blkOk_by (N := ["values", "low", "high"]) (sc := defScope d_is_ascending) (by decide +kernel)) (fun _ _ _ _ _ => (pg_tup (okBlkN o).calm (pgs_cons (pg_name (i := 1) nd rfl (by first | exact .inl rfl | exact .inr rfl)) (pgs_cons (pg_name (i := 2) nd rfl (by first | exact .inl rfl | exact .inr rfl)) pgs_nil)))) (fun _ _ _ _ _ => nts_nil) (fun _ _ _ _ _ => (nv_lt (okBlkN o) (n_var (pv 1)) (n_var (pv 2)))))) na_nil))))
/-! ### is_pair_set -/
abbrev d_is_pair_set : Stmt := tp 9
def b_is_pair_set : Sf :=
  (nRet (nAndV (nOp gIsT (nCall gType (nCons (nVar 0) nNil)) (nC (.ty "tuple"))) (nAndV (nCall gAll (nCons (nLc (nV (nVar 0)) (.nm 1) nYes (nCallD 1 f_is_pair [] (nCons (nVar 1) nNil)) [1]) nNil)) (nCallD 1 f_is_ascending [] (nCons (nVar 0) nNil)))))
def f_is_pair_set : List D → N D := nDef 2 b_is_pair_set
theorem sc_is_pair_set : FnScope ["value", "item"] ["value"] (defScope d_is_pair_set) := ⟨rfl, rfl, rfl, by decide +kernel, rfl, by decide +kernel, by decide +kernel⟩
theorem ok_is_pair_set {P : Program} {w : World} {K : PySem.W.Frag} {mg : Str → Option Value} {base : Heap} {f : Addr} {fd : FuncData} {G : Gd} (T : Fx P w K mg G) (F : FunA K "is_pair_set" "is_pair_set" d_is_pair_set f fd)
    (C_is_ascending : CalN P w K mg base G "is_ascending" 1 1 f_is_ascending []) (C_is_pair : CalN P w K mg base G "is_pair" 2 1 f_is_pair []) :
    FnOk P w K mg base (L2.CX P w) 3 f fd ["value"] (spN G 1 (nDef 2 b_is_pair_set)) :=
  ndef_ok (G := G) F sc_is_pair_set rfl rfl fun cdv A outer s H E hr => by
    have o := okDef (G := G) (mg := mg) (base := base) (N := ["value", "item"]) (qual := "is_pair_set") (sc := defScope d_is_pair_set) (outer := outer) (H := H) (E := E) T.hK T.hS hr
    have nd := (sc_is_pair_set).nd
    exact (ns_one (n_ret (n_and (nv_isT (n_type o (by rfl) T.m_type (na_cons (n_var (pv 0)) na_nil)) (n_tyn (T := "tuple") (by rfl) T.m_tuple (by decide +kernel))) (n_and (n_all o (by rfl) T.m_all (na_cons (n_lc (.nm 1) o.K rfl (pe_lc (own := [("item", 1)]) (g := Tgt.tg _ (.nm 1)) o.calm nd (ni_val o.K (n_var (pv 0))) (blkOk_by (N := ["value", "item"]) (sc := defScope d_is_pair_set) (by decide +kernel)) (fun _ _ _ _ _ => (pg_name (i := 1) nd rfl (by first | exact .inl rfl | exact .inr rfl))) (fun _ _ _ _ _ => nts_nil) (fun _ _ _ _ _ => (n_cal C_is_pair (okBlkN o).tk (hr.mono (by omega)) (by rfl) (na_cons (n_var (pv 1)) na_nil))))) na_nil)) (n_one (n_cal C_is_ascending o.tk (hr.mono (by omega)) (by rfl) (na_cons (n_var (pv 0)) na_nil)))))))
/-! ### frozen -/
abbrev d_frozen : Stmt := tp 10
def b_frozen (rec : List D → N D) : Sf :=
  (nSeq (nIf (nOr (nTest (nOp (eqG true) (nVar 1) (nC (.int 0)))) (nNot (nTest (nCall gIsi (nCons (nVar 0) (nCons (nCall mTup (nCons (nC (.ty "list")) (nCons (nC (.ty "tuple")) nNil))) nNil)))))) (nRet (nVar 0)) nSkip) (nRet (nCall gTupL (nCons (nLc (nV (nVar 0)) (.nm 2) nYes (nCallD 2 rec [] (nCons (nVar 2) (nCons (nOp gSub (nVar 1) (nC (.int 1))) nNil))) [2]) nNil))))
def f_frozen : Nat → List D → N D
  | 0 => fun _ _ => .no
  | n + 1 => nDef 3 (b_frozen (f_frozen n))
theorem sc_frozen : FnScope ["value", "levels", "item"] ["value", "levels"] (defScope d_frozen) := ⟨rfl, rfl, rfl, by decide +kernel, rfl, by decide +kernel, by decide +kernel⟩
theorem ok_frozen {P : Program} {w : World} {K : PySem.W.Frag} {mg : Str → Option Value} {base : Heap} {f : Addr} {fd : FuncData} {G : Gd} (T : Fx P w K mg G) (F : FunA K "frozen" "frozen" d_frozen f fd) {k : Nat} {rec : List D → N D}
    (C_frozen : CalN P w K mg base G "frozen" k 2 rec []) :
    FnOk P w K mg base (L2.CX P w) (k + 1) f fd ["value", "levels"] (spN G 2 (nDef 3 (b_frozen rec))) :=
  ndef_ok (G := G) F sc_frozen rfl rfl fun cdv A outer s H E hr => by
    have o := okDef (G := G) (mg := mg) (base := base) (N := ["value", "levels", "item"]) (qual := "frozen") (sc := defScope d_frozen) (outer := outer) (H := H) (E := E) T.hK T.hS hr
    have nd := (sc_frozen).nd
    exact (ns_cons (n_if (PW.pt (nw_or (nc_eq o (n_var (pv 1)) n_int) (nw_or1 (nt_not (nt_of (n_isi o (by rfl) T.m_isinstance (na_cons (n_var (pv 0)) (na_cons (n_tup (na_cons (n_tyn (T := "list") (by rfl) T.m_list (by decide +kernel)) (na_cons (n_tyn (T := "tuple") (by rfl) T.m_tuple (by decide +kernel)) na_nil))) na_nil)))))))) (ns_one (n_ret (n_var (pv 0)))) ns_nil) (ns_one (n_ret (n_tuple o (by rfl) T.m_tuple (na_cons (n_lc (.nm 2) o.K rfl (pe_lc (own := [("item", 2)]) (g := Tgt.tg _ (.nm 2)) o.calm nd (ni_val o.K (n_var (pv 0))) (blkOk_by (N := ["value", "levels", "item"]) (sc := defScope d_frozen) (by decide +kernel)) (fun _ _ _ _ _ => (pg_name (i := 2) nd rfl (by first | exact .inl rfl | exact .inr rfl))) (fun _ _ _ _ _ => nts_nil) (fun _ _ _ _ _ => (n_cal C_frozen (okBlkN o).tk (hr.mono (by omega)) (by rfl) (na_cons (n_var (pv 2)) (na_cons (n_sub (n_var (pv 1)) n_int) na_nil)))))) na_nil)))))
/-! ### _hang_together -/
abbrev d__hang_together : Stmt := tp 13
def b__hang_together : Sf :=
  (nSeq (nSet 1 (nCall gSetQ (nCons (nVar 0) nNil))) (nSeq (nExpr (nMt mtDisc isS (nVar 1) (nCons (nOp gIx (nVar 0) (nC (.int 0))) nNil))) (nSeq (nSet 2 (nCall mLst (nCons (nOp gIx (nVar 0) (nC (.int 0))) nNil))) (nSeq (nWhile (nTru (nVar 2)) (nSeq (nAsg (nMt0 mtPop isL (nVar 2)) (gT 2 (gsC (gN 3) (gsC (gN 4) gsN)))) (nFor (nV (nCall mTup (nCons (nCall mTup (nCons (nOp gSub (nVar 3) (nC (.int 1))) (nCons (nVar 4) nNil))) (nCons (nCall mTup (nCons (nOp gAdd (nVar 3) (nC (.int 1))) (nCons (nVar 4) nNil))) (nCons (nCall mTup (nCons (nVar 3) (nCons (nOp gSub (nVar 4) (nC (.int 1))) nNil))) (nCons (nCall mTup (nCons (nVar 3) (nCons (nOp gAdd (nVar 4) (nC (.int 1))) nNil))) nNil)))))) (gN 5) (nIf (nTest (nOp gInU (nVar 5) (nVar 1))) (nSeq (nExpr (nMt mtDisc isS (nVar 1) (nCons (nVar 5) nNil))) (nExpr (nMt mtA isL (nVar 2) (nCons (nVar 5) nNil)))) nSkip))) 100000) (nRet (nOp (eqG true) (nCall gLenU (nCons (nVar 1) nNil)) (nC (.int 0))))))))
def f__hang_together : List D → N D := nDef 6 b__hang_together
theorem sc__hang_together : FnScope ["cells", "left", "reached", "x", "y", "beside"] ["cells"] (defScope d__hang_together) := ⟨rfl, rfl, rfl, by decide +kernel, rfl, by decide +kernel, by decide +kernel⟩
theorem ok__hang_together {P : Program} {w : World} {K : PySem.W.Frag} {mg : Str → Option Value} {base : Heap} {f : Addr} {fd : FuncData} {G : Gd} (T : Fx P w K mg G) (F : FunA K "_hang_together" "_hang_together" d__hang_together f fd)
     :
    FnOk P w K mg base (L2.CX P w) 1 f fd ["cells"] (spN G 1 (nDef 6 b__hang_together)) :=
  ndef_ok (G := G) F sc__hang_together rfl rfl fun cdv A outer s H E hr => by
    have o := okDef (G := G) (mg := mg) (base := base) (N := ["cells", "left", "reached", "x", "y", "beside"]) (qual := "_hang_together") (sc := defScope d__hang_together) (outer := outer) (H := H) (E := E) T.hK T.hS hr
    have nd := (sc__hang_together).nd
    exact (ns_cons (n_set (i := 1) (fun _ h => ps_set nd rfl (by first | exact .inl rfl | exact .inr rfl) h) (n_setB o (by rfl) T.m_set (na_cons (n_var (pv 0)) na_nil))) (ns_cons (n_expr (n_disc o.K o.so o.u2 (n_var (pv 1)) (n_ix o.K (n_var (pv 0)) n_int (fun _ _ => rfl)))) (ns_cons (n_set (i := 2) (fun _ h => ps_set nd rfl (by first | exact .inl rfl | exact .inr rfl) h) (n_lst (na_cons (n_ix o.K (n_var (pv 0)) n_int (fun _ _ => rfl)) na_nil))) (ns_cons (n_while 100000 o.po (nt_truth o.K (n_var (pv 2))) (ns_cons (n_asg (n_pop o.K (n_var (pv 2))) (g_tup o.K.symm o.calm (gs_cons (g_name (pg_name (i := 3) nd rfl (by first | exact .inl rfl | exact .inr rfl))) (gs_cons (g_name (pg_name (i := 4) nd rfl (by first | exact .inl rfl | exact .inr rfl))) gs_nil)))) (ns_one (n_for o.po o.calm (ni_val o.K (n_tup (na_cons (n_tup (na_cons (n_sub (n_var (pv 3)) n_int) (na_cons (n_var (pv 4)) na_nil))) (na_cons (n_tup (na_cons (n_add o (n_var (pv 3)) n_int) (na_cons (n_var (pv 4)) na_nil))) (na_cons (n_tup (na_cons (n_var (pv 3)) (na_cons (n_sub (n_var (pv 4)) n_int) na_nil))) (na_cons (n_tup (na_cons (n_var (pv 3)) (na_cons (n_add o (n_var (pv 4)) n_int) na_nil))) na_nil)))))) (g_name (pg_name (i := 5) nd rfl (by first | exact .inl rfl | exact .inr rfl))) (ns_one (n_if (nt_inU o (n_var (pv 5)) (n_var (pv 1))) (ns_cons (n_expr (n_disc o.K o.so o.u2 (n_var (pv 1)) (n_var (pv 5)))) (ns_one (n_expr (n_append o.K (n_var (pv 2)) (n_var (pv 5)))))) ns_nil)))))) (ns_one (n_ret (nv_eq o (n_len o (by rfl) T.m_len (na_cons (n_var (pv 1)) na_nil)) n_int)))))))
/-! ### _collar -/
abbrev d__collar : Stmt := tp 14
def b__collar : Sf :=
  (nSeq (nSet 1 (nCall gSetQ (nCons (nVar 0) nNil))) (nSeq (nSet 2 nNewT) (nSeq (nFor (nV (nVar 0)) (gT 2 (gsC (gN 3) (gsC (gN 4) gsN))) (nFor (nV (nCall mTup (nCons (nOp gSub (nVar 3) (nC (.int 1))) (nCons (nVar 3) (nCons (nOp gAdd (nVar 3) (nC (.int 1))) nNil))))) (gN 5) (nFor (nV (nCall mTup (nCons (nOp gSub (nVar 4) (nC (.int 1))) (nCons (nVar 4) (nCons (nOp gAdd (nVar 4) (nC (.int 1))) nNil))))) (gN 6) (nIf (nTest (nOp gNotInU (nCall mTup (nCons (nVar 5) (nCons (nVar 6) nNil))) (nVar 1))) (nAsg (nC (.bl true)) (nSubD (nVar 2) (nCall mTup (nCons (nVar 5) (nCons (nVar 6) nNil))))) nSkip)))) (nRet (nCall gList (nCons (nVar 2) nNil))))))
def f__collar : List D → N D := nDef 7 b__collar
theorem sc__collar : FnScope ["cells", "own", "around", "x", "y", "near", "level"] ["cells"] (defScope d__collar) := ⟨rfl, rfl, rfl, by decide +kernel, rfl, by decide +kernel, by decide +kernel⟩
theorem ok__collar {P : Program} {w : World} {K : PySem.W.Frag} {mg : Str → Option Value} {base : Heap} {f : Addr} {fd : FuncData} {G : Gd} (T : Fx P w K mg G) (F : FunA K "_collar" "_collar" d__collar f fd)
     :
    FnOk P w K mg base (L2.CX P w) 1 f fd ["cells"] (spN G 1 (nDef 7 b__collar)) :=
  ndef_ok (G := G) F sc__collar rfl rfl fun cdv A outer s H E hr => by
    have o := okDef (G := G) (mg := mg) (base := base) (N := ["cells", "own", "around", "x", "y", "near", "level"]) (qual := "_collar") (sc := defScope d__collar) (outer := outer) (H := H) (E := E) T.hK T.hS hr
    have nd := (sc__collar).nd
    exact (ns_cons (n_set (i := 1) (fun _ h => ps_set nd rfl (by first | exact .inl rfl | exact .inr rfl) h) (n_setB o (by rfl) T.m_set (na_cons (n_var (pv 0)) na_nil))) (ns_cons (n_set (i := 2) (fun _ h => ps_set nd rfl (by first | exact .inl rfl | exact .inr rfl) h) n_newT) (ns_cons (n_for o.po o.calm (ni_val o.K (n_var (pv 0))) (g_tup o.K.symm o.calm (gs_cons (g_name (pg_name (i := 3) nd rfl (by first | exact .inl rfl | exact .inr rfl))) (gs_cons (g_name (pg_name (i := 4) nd rfl (by first | exact .inl rfl | exact .inr rfl))) gs_nil))) (ns_one (n_for o.po o.calm (ni_val o.K (n_tup (na_cons (n_sub (n_var (pv 3)) n_int) (na_cons (n_var (pv 3)) (na_cons (n_add o (n_var (pv 3)) n_int) na_nil))))) (g_name (pg_name (i := 5) nd rfl (by first | exact .inl rfl | exact .inr rfl))) (ns_one (n_for o.po o.calm (ni_val o.K (n_tup (na_cons (n_sub (n_var (pv 4)) n_int) (na_cons (n_var (pv 4)) (na_cons (n_add o (n_var (pv 4)) n_int) na_nil))))) (g_name (pg_name (i := 6) nd rfl (by first | exact .inl rfl | exact .inr rfl))) (ns_one (n_if (nt_notInU o (n_tup (na_cons (n_var (pv 5)) (na_cons (n_var (pv 6)) na_nil))) (n_var (pv 1))) (ns_one (n_asg n_bl (ng_subo o (n_var (pv 2)) (n_tup (na_cons (n_var (pv 5)) (na_cons (n_var (pv 6)) na_nil)))))) ns_nil))))))) (ns_one (n_ret (n_list o (by rfl) T.m_list (na_cons (n_var (pv 2)) na_nil)))))))
/-! ### is_floor -/
abbrev d_is_floor : Stmt := tp 12
def b_is_floor : Sf :=
  (nSeq (nIf (nOr (nNot (nTest (nCallD 1 f_is_pair_set [] (nCons (nVar 0) nNil)))) (nTest (nOp (eqG true) (nCall gLenU (nCons (nVar 0) nNil)) (nC (.int 0))))) (nRet (nC (.bl false))) nSkip) (nRet (nAndV (nCallD 1 f__hang_together [] (nCons (nVar 0) nNil)) (nCallD 1 f__hang_together [] (nCons (nCallD 1 f__collar [] (nCons (nVar 0) nNil)) nNil)))))
def f_is_floor : List D → N D := nDef 1 b_is_floor
theorem sc_is_floor : FnScope ["thing"] ["thing"] (defScope d_is_floor) := ⟨rfl, rfl, rfl, by decide +kernel, rfl, by decide +kernel, by decide +kernel⟩
theorem ok_is_floor {P : Program} {w : World} {K : PySem.W.Frag} {mg : Str → Option Value} {base : Heap} {f : Addr} {fd : FuncData} {G : Gd} (T : Fx P w K mg G) (F : FunA K "is_floor" "is_floor" d_is_floor f fd)
    (C__collar : CalN P w K mg base G "_collar" 1 1 f__collar []) (C__hang_together : CalN P w K mg base G "_hang_together" 1 1 f__hang_together []) (C_is_pair_set : CalN P w K mg base G "is_pair_set" 3 1 f_is_pair_set []) :
    FnOk P w K mg base (L2.CX P w) 4 f fd ["thing"] (spN G 1 (nDef 1 b_is_floor)) :=
  ndef_ok (G := G) F sc_is_floor rfl rfl fun cdv A outer s H E hr => by
    have o := okDef (G := G) (mg := mg) (base := base) (N := ["thing"]) (qual := "is_floor") (sc := defScope d_is_floor) (outer := outer) (H := H) (E := E) T.hK T.hS hr
    have nd := (sc_is_floor).nd
    exact (ns_cons (n_if (PW.pt (nw_or (nt_not (nt_of (n_cal C_is_pair_set o.tk (hr.mono (by omega)) (by rfl) (na_cons (n_var (pv 0)) na_nil)))) (nw_or1 (nc_eq o (n_len o (by rfl) T.m_len (na_cons (n_var (pv 0)) na_nil)) n_int)))) (ns_one (n_ret n_bl)) ns_nil) (ns_one (n_ret (n_and (n_cal C__hang_together o.tk (hr.mono (by omega)) (by rfl) (na_cons (n_var (pv 0)) na_nil)) (n_one (n_cal C__hang_together o.tk (hr.mono (by omega)) (by rfl) (na_cons (n_cal C__collar o.tk (hr.mono (by omega)) (by rfl) (na_cons (n_var (pv 0)) na_nil)) na_nil)))))))
/-! ### fit_floor -/
abbrev d_fit_floor : Stmt := tp 15
def b_fit_floor : Sf :=
  (nSeq (nSet 1 (nCallD 2 (f_frozen 13) [.int 12] (nCons (nVar 0) nNil))) (nSeq (nIf (nNot (nTest (nCallD 1 f_is_floor [] (nCons (nVar 1) nNil)))) (nRaise 1) nSkip) (nRet (nVar 1))))
def f_fit_floor : List D → N D := nDef 2 b_fit_floor
theorem sc_fit_floor : FnScope ["floor", "own"] ["floor"] (defScope d_fit_floor) := ⟨rfl, rfl, rfl, by decide +kernel, rfl, by decide +kernel, by decide +kernel⟩
theorem ok_fit_floor {P : Program} {w : World} {K : PySem.W.Frag} {mg : Str → Option Value} {base : Heap} {f : Addr} {fd : FuncData} {G : Gd} (T : Fx P w K mg G) (F : FunA K "fit_floor" "fit_floor" d_fit_floor f fd)
    (C_frozend : CalN P w K mg base G "frozen" 13 2 (f_frozen 13) [.int 12]) (C_is_floor : CalN P w K mg base G "is_floor" 4 1 f_is_floor []) :
    FnOk P w K mg base (L2.CX P w) 14 f fd ["floor"] (spN G 1 (nDef 2 b_fit_floor)) :=
  ndef_ok (G := G) F sc_fit_floor rfl rfl fun cdv A outer s H E hr => by
    have o := okDef (G := G) (mg := mg) (base := base) (N := ["floor", "own"]) (qual := "fit_floor") (sc := defScope d_fit_floor) (outer := outer) (H := H) (E := E) T.hK T.hS hr
    have nd := (sc_fit_floor).nd
    exact (ns_cons (n_set (i := 1) (fun _ h => ps_set nd rfl (by first | exact .inl rfl | exact .inr rfl) h) (n_cal C_frozend o.tk (hr.mono (by omega)) (by rfl) (na_cons (n_var (pv 0)) na_nil))) (ns_cons (n_if (nt_not (nt_of (n_cal C_is_floor o.tk (hr.mono (by omega)) (by rfl) (na_cons (n_var (pv 1)) na_nil)))) (ns_one (n_raise0 (xbVE).F T.x_Unfit.xi T.x_Unfit.g T.x_Unfit.kp T.x_Unfit.ex T.x_Unfit.ty o (by rfl))) ns_nil) (ns_one (n_ret (n_var (pv 1))))))
/-! ### diagonal -/
abbrev d_diagonal : Stmt := tp 16
def b_diagonal : Sf :=
  (nRet (nCall gTupL (nCons (nLc (nV (nCallD 1 f_fit_floor [] (nCons (nVar 0) nNil))) (.tp [(.nm 2), (.nm 3)]) (nTest (nOp (eqG true) (nOp gAdd (nVar 2) (nVar 3)) (nVar 1))) (nCall mTup (nCons (nVar 2) (nCons (nVar 3) nNil))) [2, 3]) nNil)))
def f_diagonal : List D → N D := nDef 4 b_diagonal
theorem sc_diagonal : FnScope ["floor", "number", "x", "y"] ["floor", "number"] (defScope d_diagonal) := ⟨rfl, rfl, rfl, by decide +kernel, rfl, by decide +kernel, by decide +kernel⟩
theorem ok_diagonal {P : Program} {w : World} {K : PySem.W.Frag} {mg : Str → Option Value} {base : Heap} {f : Addr} {fd : FuncData} {G : Gd} (T : Fx P w K mg G) (F : FunA K "diagonal" "diagonal" d_diagonal f fd)
    (C_fit_floor : CalN P w K mg base G "fit_floor" 14 1 f_fit_floor []) :
    FnOk P w K mg base (L2.CX P w) 15 f fd ["floor", "number"] (spN G 2 (nDef 4 b_diagonal)) :=
  ndef_ok (G := G) F sc_diagonal rfl rfl fun cdv A outer s H E hr => by
    have o := okDef (G := G) (mg := mg) (base := base) (N := ["floor", "number", "x", "y"]) (qual := "diagonal") (sc := defScope d_diagonal) (outer := outer) (H := H) (E := E) T.hK T.hS hr
    have nd := (sc_diagonal).nd
    exact (ns_one (n_ret (n_tuple o (by rfl) T.m_tuple (na_cons (n_lc (.tp [(.nm 2), (.nm 3)]) o.K rfl (pe_lc (own := [("x", 2), ("y", 3)]) (g := Tgt.tg _ (.tp [(.nm 2), (.nm 3)])) o.calm nd (ni_val o.K (n_cal C_fit_floor o.tk (hr.mono (by omega)) (by rfl) (na_cons (n_var (pv 0)) na_nil))) (blkOk_by (N := ["floor", "number", "x", "y"]) (sc := defScope d_diagonal) (by decide +kernel)) (fun _ _ _ _ _ => (pg_tup (okBlkN o).calm (pgs_cons (pg_name (i := 2) nd rfl (by first | exact .inl rfl | exact .inr rfl)) (pgs_cons (pg_name (i := 3) nd rfl (by first | exact .inl rfl | exact .inr rfl)) pgs_nil)))) (fun _ _ _ _ _ => (nts_one (nc_eq (okBlkN o) (n_add (okBlkN o) (n_var (pv 2)) (n_var (pv 3))) (n_var (pv 1))))) (fun _ _ _ _ _ => (n_tup (na_cons (n_var (pv 2)) (na_cons (n_var (pv 3)) na_nil)))))) na_nil))))
/-! ### span -/
abbrev d_span : Stmt := tp 17
def b_span : Sf :=
  (nSeq (nSet 1 (nLc (nV (nCallD 1 f_fit_floor [] (nCons (nVar 0) nNil))) (.tp [(.nm 2), (.nm 3)]) nYes (nOp gAdd (nVar 2) (nVar 3)) [2, 3])) (nRet (nCall mTup (nCons (nCall gMin (nCons (nVar 1) nNil)) (nCons (nCall gMax (nCons (nVar 1) nNil)) nNil)))))
def f_span : List D → N D := nDef 4 b_span
theorem sc_span : FnScope ["floor", "numbers", "x", "y"] ["floor"] (defScope d_span) := ⟨rfl, rfl, rfl, by decide +kernel, rfl, by decide +kernel, by decide +kernel⟩
theorem ok_span {P : Program} {w : World} {K : PySem.W.Frag} {mg : Str → Option Value} {base : Heap} {f : Addr} {fd : FuncData} {G : Gd} (T : Fx P w K mg G) (F : FunA K "span" "span" d_span f fd)
    (C_fit_floor : CalN P w K mg base G "fit_floor" 14 1 f_fit_floor []) :
    FnOk P w K mg base (L2.CX P w) 15 f fd ["floor"] (spN G 1 (nDef 4 b_span)) :=
  ndef_ok (G := G) F sc_span rfl rfl fun cdv A outer s H E hr => by
    have o := okDef (G := G) (mg := mg) (base := base) (N := ["floor", "numbers", "x", "y"]) (qual := "span") (sc := defScope d_span) (outer := outer) (H := H) (E := E) T.hK T.hS hr
    have nd := (sc_span).nd
    exact (ns_cons (n_setLc (i := 1) (.tp [(.nm 2), (.nm 3)]) o.K rfl (ps_setLc (i := 1) (own := [("x", 2), ("y", 3)]) (g := Tgt.tg _ (.tp [(.nm 2), (.nm 3)])) o.calm nd rfl rfl (by rfl) (ni_val o.K (n_cal C_fit_floor o.tk (hr.mono (by omega)) (by rfl) (na_cons (n_var (pv 0)) na_nil))) (blkOk_by (N := ["floor", "numbers", "x", "y"]) (sc := defScope d_span) (by decide +kernel)) (fun _ _ _ _ _ => (pg_tup (okBlkN o).calm (pgs_cons (pg_name (i := 2) nd rfl (by first | exact .inl rfl | exact .inr rfl)) (pgs_cons (pg_name (i := 3) nd rfl (by first | exact .inl rfl | exact .inr rfl)) pgs_nil)))) (fun _ _ _ _ _ => nts_nil) (fun _ _ _ _ _ => (n_add (okBlkN o) (n_var (pv 2)) (n_var (pv 3)))))) (ns_one (n_ret (n_tup (na_cons (n_min o (by rfl) T.m_min (na_cons (n_var (pv 1)) na_nil)) (na_cons (n_max o (by rfl) T.m_max (na_cons (n_var (pv 1)) na_nil)) na_nil))))))
/-! ### _larger -/
abbrev d__larger : Stmt := tp 20
def b__larger : Sf :=
  (nSeq (nIf (nOr (nNot (nTest (nCallD 1 f_is_pair [] (nCons (nVar 1) nNil)))) (nTest (nOp gInU (nVar 1) (nVar 0)))) (nRet (nC .non)) nSkip) (nSeq (nSet 2 (nCall gTupL (nCons (nCall gSortedU (nCons (nCall mLst (nStar (nVar 0) (nCons (nVar 1) nNil))) nNil)) nNil))) (nRet (nIfE (nTest (nCallD 1 f_is_floor [] (nCons (nVar 2) nNil))) (nVar 2) (nC .non)))))
def f__larger : List D → N D := nDef 3 b__larger
theorem sc__larger : FnScope ["floor", "cell", "cells"] ["floor", "cell"] (defScope d__larger) := ⟨rfl, rfl, rfl, by decide +kernel, rfl, by decide +kernel, by decide +kernel⟩
theorem ok__larger {P : Program} {w : World} {K : PySem.W.Frag} {mg : Str → Option Value} {base : Heap} {f : Addr} {fd : FuncData} {G : Gd} (T : Fx P w K mg G) (F : FunA K "_larger" "_larger" d__larger f fd)
    (C_is_floor : CalN P w K mg base G "is_floor" 4 1 f_is_floor []) (C_is_pair : CalN P w K mg base G "is_pair" 2 1 f_is_pair []) :
    FnOk P w K mg base (L2.CX P w) 5 f fd ["floor", "cell"] (spN G 2 (nDef 3 b__larger)) :=
  ndef_ok (G := G) F sc__larger rfl rfl fun cdv A outer s H E hr => by
    have o := okDef (G := G) (mg := mg) (base := base) (N := ["floor", "cell", "cells"]) (qual := "_larger") (sc := defScope d__larger) (outer := outer) (H := H) (E := E) T.hK T.hS hr
    have nd := (sc__larger).nd
    exact (ns_cons (n_if (PW.pt (nw_or (nt_not (nt_of (n_cal C_is_pair o.tk (hr.mono (by omega)) (by rfl) (na_cons (n_var (pv 1)) na_nil)))) (nw_or1 (nt_inU o (n_var (pv 1)) (n_var (pv 0)))))) (ns_one (n_ret n_non)) ns_nil) (ns_cons (n_set (i := 2) (fun _ h => ps_set nd rfl (by first | exact .inl rfl | exact .inr rfl) h) (n_tuple o (by rfl) T.m_tuple (na_cons (n_sorted o (by rfl) T.m_sorted (na_cons (n_lst (na_star o.K (n_var (pv 0)) (na_cons (n_var (pv 1)) na_nil))) na_nil)) na_nil))) (ns_one (n_ret (n_ifExp (nt_of (n_cal C_is_floor o.tk (hr.mono (by omega)) (by rfl) (na_cons (n_var (pv 2)) na_nil))) (n_var (pv 2)) n_non)))))
/-! ### can_grow -/
abbrev d_can_grow : Stmt := tp 18
def b_can_grow : Sf :=
  (nRet (nOp (gIsN true) (nCallD 2 f__larger [] (nCons (nCallD 1 f_fit_floor [] (nCons (nVar 0) nNil)) (nCons (nCallD 2 (f_frozen 13) [.int 12] (nCons (nVar 1) nNil)) nNil))) (nC .non)))
def f_can_grow : List D → N D := nDef 2 b_can_grow
theorem sc_can_grow : FnScope ["floor", "cell"] ["floor", "cell"] (defScope d_can_grow) := ⟨rfl, rfl, rfl, by decide +kernel, rfl, by decide +kernel, by decide +kernel⟩
theorem ok_can_grow {P : Program} {w : World} {K : PySem.W.Frag} {mg : Str → Option Value} {base : Heap} {f : Addr} {fd : FuncData} {G : Gd} (T : Fx P w K mg G) (F : FunA K "can_grow" "can_grow" d_can_grow f fd)
    (C__larger : CalN P w K mg base G "_larger" 5 2 f__larger []) (C_fit_floor : CalN P w K mg base G "fit_floor" 14 1 f_fit_floor []) (C_frozend : CalN P w K mg base G "frozen" 13 2 (f_frozen 13) [.int 12]) :
    FnOk P w K mg base (L2.CX P w) 15 f fd ["floor", "cell"] (spN G 2 (nDef 2 b_can_grow)) :=
  ndef_ok (G := G) F sc_can_grow rfl rfl fun cdv A outer s H E hr => by
    have o := okDef (G := G) (mg := mg) (base := base) (N := ["floor", "cell"]) (qual := "can_grow") (sc := defScope d_can_grow) (outer := outer) (H := H) (E := E) T.hK T.hS hr
    have nd := (sc_can_grow).nd
    exact (ns_one (n_ret (nv_notN (n_cal C__larger o.tk (hr.mono (by omega)) (by rfl) (na_cons (n_cal C_fit_floor o.tk (hr.mono (by omega)) (by rfl) (na_cons (n_var (pv 0)) na_nil)) (na_cons (n_cal C_frozend o.tk (hr.mono (by omega)) (by rfl) (na_cons (n_var (pv 1)) na_nil)) na_nil))) n_non)))
/-! ### grown -/
abbrev d_grown : Stmt := tp 19
def b_grown : Sf :=
  (nSeq (nSet 2 (nCallD 2 f__larger [] (nCons (nCallD 1 f_fit_floor [] (nCons (nVar 0) nNil)) (nCons (nCallD 2 (f_frozen 13) [.int 12] (nCons (nVar 1) nNil)) nNil)))) (nSeq (nIf (nTest (nOp (gIsN false) (nVar 2) (nC .non))) (nRaise 1) nSkip) (nRet (nVar 2))))
def f_grown : List D → N D := nDef 3 b_grown
theorem sc_grown : FnScope ["floor", "cell", "larger"] ["floor", "cell"] (defScope d_grown) := ⟨rfl, rfl, rfl, by decide +kernel, rfl, by decide +kernel, by decide +kernel⟩
theorem ok_grown {P : Program} {w : World} {K : PySem.W.Frag} {mg : Str → Option Value} {base : Heap} {f : Addr} {fd : FuncData} {G : Gd} (T : Fx P w K mg G) (F : FunA K "grown" "grown" d_grown f fd)
    (C__larger : CalN P w K mg base G "_larger" 5 2 f__larger []) (C_fit_floor : CalN P w K mg base G "fit_floor" 14 1 f_fit_floor []) (C_frozend : CalN P w K mg base G "frozen" 13 2 (f_frozen 13) [.int 12]) :
    FnOk P w K mg base (L2.CX P w) 15 f fd ["floor", "cell"] (spN G 2 (nDef 3 b_grown)) :=
  ndef_ok (G := G) F sc_grown rfl rfl fun cdv A outer s H E hr => by
    have o := okDef (G := G) (mg := mg) (base := base) (N := ["floor", "cell", "larger"]) (qual := "grown") (sc := defScope d_grown) (outer := outer) (H := H) (E := E) T.hK T.hS hr
    have nd := (sc_grown).nd
    exact (ns_cons (n_set (i := 2) (fun _ h => ps_set nd rfl (by first | exact .inl rfl | exact .inr rfl) h) (n_cal C__larger o.tk (hr.mono (by omega)) (by rfl) (na_cons (n_cal C_fit_floor o.tk (hr.mono (by omega)) (by rfl) (na_cons (n_var (pv 0)) na_nil)) (na_cons (n_cal C_frozend o.tk (hr.mono (by omega)) (by rfl) (na_cons (n_var (pv 1)) na_nil)) na_nil)))) (ns_cons (n_if (nc_isN (n_var (pv 2)) n_non) (ns_one (n_raise0 (xbVE).F T.x_Unfit.xi T.x_Unfit.g T.x_Unfit.kp T.x_Unfit.ex T.x_Unfit.ty o (by rfl))) ns_nil) (ns_one (n_ret (n_var (pv 2))))))
/-! ### shrunk -/
abbrev d_shrunk : Stmt := tp 21
def b_shrunk : Sf :=
  (nSeq (nAsg (nCall mTup (nCons (nCallD 1 f_fit_floor [] (nCons (nVar 0) nNil)) (nCons (nCallD 2 (f_frozen 13) [.int 12] (nCons (nVar 1) nNil)) nNil))) (gT 2 (gsC (gN 2) (gsC (gN 3) gsN)))) (nSeq (nIf (nOr (nNot (nTest (nCallD 1 f_is_pair [] (nCons (nVar 3) nNil)))) (nTest (nOp gNotInU (nVar 3) (nVar 2)))) (nRaiseI 0 "cell" fe_NoCell (nVar 3)) nSkip) (nRet (nCallD 1 f_fit_floor [] (nCons (nLc (nV (nVar 2)) (.nm 4) (nTest (nOp (eqG false) (nVar 4) (nVar 3))) (nVar 4) [4]) nNil)))))
def f_shrunk : List D → N D := nDef 5 b_shrunk
theorem sc_shrunk : FnScope ["floor", "cell", "own", "gone", "left"] ["floor", "cell"] (defScope d_shrunk) := ⟨rfl, rfl, rfl, by decide +kernel, rfl, by decide +kernel, by decide +kernel⟩
theorem ok_shrunk {P : Program} {w : World} {K : PySem.W.Frag} {mg : Str → Option Value} {base : Heap} {f : Addr} {fd : FuncData} {G : Gd} (T : Fx P w K mg G) (F : FunA K "shrunk" "shrunk" d_shrunk f fd)
    (C_fit_floor : CalN P w K mg base G "fit_floor" 14 1 f_fit_floor []) (C_frozend : CalN P w K mg base G "frozen" 13 2 (f_frozen 13) [.int 12]) (C_is_pair : CalN P w K mg base G "is_pair" 2 1 f_is_pair []) (I_NoCell : IniN P w K mg base G 7 0 "cell" fe_NoCell T.i_NoCell) :
    FnOk P w K mg base (L2.CX P w) 15 f fd ["floor", "cell"] (spN G 2 (nDef 5 b_shrunk)) :=
  ndef_ok (G := G) F sc_shrunk rfl rfl fun cdv A outer s H E hr => by
    have o := okDef (G := G) (mg := mg) (base := base) (N := ["floor", "cell", "own", "gone", "left"]) (qual := "shrunk") (sc := defScope d_shrunk) (outer := outer) (H := H) (E := E) T.hK T.hS hr
    have nd := (sc_shrunk).nd
    exact (ns_cons (n_asg (n_tup (na_cons (n_cal C_fit_floor o.tk (hr.mono (by omega)) (by rfl) (na_cons (n_var (pv 0)) na_nil)) (na_cons (n_cal C_frozend o.tk (hr.mono (by omega)) (by rfl) (na_cons (n_var (pv 1)) na_nil)) na_nil))) (g_tup o.K.symm o.calm (gs_cons (g_name (pg_name (i := 2) nd rfl (by first | exact .inl rfl | exact .inr rfl))) (gs_cons (g_name (pg_name (i := 3) nd rfl (by first | exact .inl rfl | exact .inr rfl))) gs_nil)))) (ns_cons (n_if (PW.pt (nw_or (nt_not (nt_of (n_cal C_is_pair o.tk (hr.mono (by omega)) (by rfl) (na_cons (n_var (pv 3)) na_nil)))) (nw_or1 (nt_notInU o (n_var (pv 3)) (n_var (pv 2)))))) (ns_one (n_raiseI T.x_NoCell.cl T.x_NoCell.iC T.x_NoCell.tI I_NoCell.ok (hr.mono (by omega)) I_NoCell.b o (by rfl) T.x_NoCell.g (n_var (pv 3)))) ns_nil) (ns_one (n_ret (n_cal C_fit_floor o.tk (hr.mono (by omega)) (by rfl) (na_cons (n_lc (.nm 4) o.K rfl (pe_lc (own := [("left", 4)]) (g := Tgt.tg _ (.nm 4)) o.calm nd (ni_val o.K (n_var (pv 2))) (blkOk_by (N := ["floor", "cell", "own", "gone", "left"]) (sc := defScope d_shrunk) (by decide +kernel)) (fun _ _ _ _ _ => (pg_name (i := 4) nd rfl (by first | exact .inl rfl | exact .inr rfl))) (fun _ _ _ _ _ => (nts_one (nc_ne (okBlkN o) (n_var (pv 4)) (n_var (pv 3))))) (fun _ _ _ _ _ => (n_var (pv 4))))) na_nil))))))
/-! ### borders -/
abbrev d_borders : Stmt := tp 22
def b_borders : Sf :=
  (nSeq (nSet 1 (nCallD 1 f_fit_floor [] (nCons (nVar 0) nNil))) (nRet (nCall gTupL (nCons (nCall gSortedU (nCons (nLc (nV (nCallD 1 f__collar [] (nCons (nVar 1) nNil))) (.nm 2) (nTest (nOp (gIsN true) (nCallD 2 f__larger [] (nCons (nVar 1) (nCons (nVar 2) nNil))) (nC .non))) (nVar 2) [2]) nNil)) nNil))))
def f_borders : List D → N D := nDef 3 b_borders
theorem sc_borders : FnScope ["floor", "own", "cell"] ["floor"] (defScope d_borders) := ⟨rfl, rfl, rfl, by decide +kernel, rfl, by decide +kernel, by decide +kernel⟩
theorem ok_borders {P : Program} {w : World} {K : PySem.W.Frag} {mg : Str → Option Value} {base : Heap} {f : Addr} {fd : FuncData} {G : Gd} (T : Fx P w K mg G) (F : FunA K "borders" "borders" d_borders f fd)
    (C__collar : CalN P w K mg base G "_collar" 1 1 f__collar []) (C__larger : CalN P w K mg base G "_larger" 5 2 f__larger []) (C_fit_floor : CalN P w K mg base G "fit_floor" 14 1 f_fit_floor []) :
    FnOk P w K mg base (L2.CX P w) 15 f fd ["floor"] (spN G 1 (nDef 3 b_borders)) :=
  ndef_ok (G := G) F sc_borders rfl rfl fun cdv A outer s H E hr => by
    have o := okDef (G := G) (mg := mg) (base := base) (N := ["floor", "own", "cell"]) (qual := "borders") (sc := defScope d_borders) (outer := outer) (H := H) (E := E) T.hK T.hS hr
    have nd := (sc_borders).nd
    exact (ns_cons (n_set (i := 1) (fun _ h => ps_set nd rfl (by first | exact .inl rfl | exact .inr rfl) h) (n_cal C_fit_floor o.tk (hr.mono (by omega)) (by rfl) (na_cons (n_var (pv 0)) na_nil))) (ns_one (n_ret (n_tuple o (by rfl) T.m_tuple (na_cons (n_sorted o (by rfl) T.m_sorted (na_cons (n_lc (.nm 2) o.K rfl (pe_lc (own := [("cell", 2)]) (g := Tgt.tg _ (.nm 2)) o.calm nd (ni_val o.K (n_cal C__collar o.tk (hr.mono (by omega)) (by rfl) (na_cons (n_var (pv 1)) na_nil))) (blkOk_by (N := ["floor", "own", "cell"]) (sc := defScope d_borders) (by decide +kernel)) (fun _ _ _ _ _ => (pg_name (i := 2) nd rfl (by first | exact .inl rfl | exact .inr rfl))) (fun _ _ _ _ _ => (nts_one (nc_notN (n_cal C__larger (okBlkN o).tk (hr.mono (by omega)) (by rfl) (na_cons (n_var (pv 1)) (na_cons (n_var (pv 2)) na_nil))) n_non))) (fun _ _ _ _ _ => (n_var (pv 2))))) na_nil)) na_nil)))))
/-! ### _are_steps -/
abbrev d__are_steps : Stmt := tp 25
def b__are_steps : Sf :=
  (nRet (nAndV (nOp gIsT (nCall gType (nCons (nVar 0) nNil)) (nC (.ty "tuple"))) (nCall gAll (nCons (nLc (nV (nVar 0)) (.nm 1) nYes (nAndV (nCallD 1 f_is_number [] (nCons (nVar 1) nNil)) (nOp gInU (nVar 1) (nCall mTup (nCons (nC (.int 0)) (nCons (nC (.int 1)) nNil))))) [1]) nNil))))
def f__are_steps : List D → N D := nDef 2 b__are_steps
theorem sc__are_steps : FnScope ["value", "step"] ["value"] (defScope d__are_steps) := ⟨rfl, rfl, rfl, by decide +kernel, rfl, by decide +kernel, by decide +kernel⟩
theorem ok__are_steps {P : Program} {w : World} {K : PySem.W.Frag} {mg : Str → Option Value} {base : Heap} {f : Addr} {fd : FuncData} {G : Gd} (T : Fx P w K mg G) (F : FunA K "_are_steps" "_are_steps" d__are_steps f fd)
    (C_is_number : CalN P w K mg base G "is_number" 1 1 f_is_number []) :
    FnOk P w K mg base (L2.CX P w) 2 f fd ["value"] (spN G 1 (nDef 2 b__are_steps)) :=
  ndef_ok (G := G) F sc__are_steps rfl rfl fun cdv A outer s H E hr => by
    have o := okDef (G := G) (mg := mg) (base := base) (N := ["value", "step"]) (qual := "_are_steps") (sc := defScope d__are_steps) (outer := outer) (H := H) (E := E) T.hK T.hS hr
    have nd := (sc__are_steps).nd
    exact (ns_one (n_ret (n_and (nv_isT (n_type o (by rfl) T.m_type (na_cons (n_var (pv 0)) na_nil)) (n_tyn (T := "tuple") (by rfl) T.m_tuple (by decide +kernel))) (n_one (n_all o (by rfl) T.m_all (na_cons (n_lc (.nm 1) o.K rfl (pe_lc (own := [("step", 1)]) (g := Tgt.tg _ (.nm 1)) o.calm nd (ni_val o.K (n_var (pv 0))) (blkOk_by (N := ["value", "step"]) (sc := defScope d__are_steps) (by decide +kernel)) (fun _ _ _ _ _ => (pg_name (i := 1) nd rfl (by first | exact .inl rfl | exact .inr rfl))) (fun _ _ _ _ _ => nts_nil) (fun _ _ _ _ _ => (n_and (n_cal C_is_number (okBlkN o).tk (hr.mono (by omega)) (by rfl) (na_cons (n_var (pv 1)) na_nil)) (n_one (n_inU (okBlkN o) (n_var (pv 1)) (n_tup (na_cons n_int (na_cons n_int na_nil))))))))) na_nil))))))
/-! ### is_stair -/
abbrev d_is_stair : Stmt := tp 24
def b_is_stair : Sf :=
  (nRet (nAndV (nOp gIsT (nCall gType (nCons (nVar 0) nNil)) (nC (.ty "tuple"))) (nAndV (nOp (eqG true) (nCall gLenU (nCons (nVar 0) nNil)) (nC (.int 2))) (nAndV (nCallD 1 f_is_pair [] (nCons (nOp gIx (nVar 0) (nC (.int 0))) nNil)) (nCallD 1 f__are_steps [] (nCons (nOp gIx (nVar 0) (nC (.int 1))) nNil))))))
def f_is_stair : List D → N D := nDef 1 b_is_stair
theorem sc_is_stair : FnScope ["thing"] ["thing"] (defScope d_is_stair) := ⟨rfl, rfl, rfl, by decide +kernel, rfl, by decide +kernel, by decide +kernel⟩
theorem ok_is_stair {P : Program} {w : World} {K : PySem.W.Frag} {mg : Str → Option Value} {base : Heap} {f : Addr} {fd : FuncData} {G : Gd} (T : Fx P w K mg G) (F : FunA K "is_stair" "is_stair" d_is_stair f fd)
    (C__are_steps : CalN P w K mg base G "_are_steps" 2 1 f__are_steps []) (C_is_pair : CalN P w K mg base G "is_pair" 2 1 f_is_pair []) :
    FnOk P w K mg base (L2.CX P w) 3 f fd ["thing"] (spN G 1 (nDef 1 b_is_stair)) :=
  ndef_ok (G := G) F sc_is_stair rfl rfl fun cdv A outer s H E hr => by
    have o := okDef (G := G) (mg := mg) (base := base) (N := ["thing"]) (qual := "is_stair") (sc := defScope d_is_stair) (outer := outer) (H := H) (E := E) T.hK T.hS hr
    have nd := (sc_is_stair).nd
    exact (ns_one (n_ret (n_and (nv_isT (n_type o (by rfl) T.m_type (na_cons (n_var (pv 0)) na_nil)) (n_tyn (T := "tuple") (by rfl) T.m_tuple (by decide +kernel))) (n_and (nv_eq o (n_len o (by rfl) T.m_len (na_cons (n_var (pv 0)) na_nil)) n_int) (n_and (n_cal C_is_pair o.tk (hr.mono (by omega)) (by rfl) (na_cons (n_ix o.K (n_var (pv 0)) n_int (fun _ _ => rfl)) na_nil)) (n_one (n_cal C__are_steps o.tk (hr.mono (by omega)) (by rfl) (na_cons (n_ix o.K (n_var (pv 0)) n_int (fun _ _ => rfl)) na_nil))))))))
/-! ### fit_stair -/
abbrev d_fit_stair : Stmt := tp 26
def b_fit_stair : Sf :=
  (nSeq (nSet 1 (nCallD 2 (f_frozen 13) [.int 12] (nCons (nVar 0) nNil))) (nSeq (nIf (nNot (nTest (nCallD 1 f_is_stair [] (nCons (nVar 1) nNil)))) (nRaise 1) nSkip) (nRet (nVar 1))))
def f_fit_stair : List D → N D := nDef 2 b_fit_stair
theorem sc_fit_stair : FnScope ["stair", "own"] ["stair"] (defScope d_fit_stair) := ⟨rfl, rfl, rfl, by decide +kernel, rfl, by decide +kernel, by decide +kernel⟩
theorem ok_fit_stair {P : Program} {w : World} {K : PySem.W.Frag} {mg : Str → Option Value} {base : Heap} {f : Addr} {fd : FuncData} {G : Gd} (T : Fx P w K mg G) (F : FunA K "fit_stair" "fit_stair" d_fit_stair f fd)
    (C_frozend : CalN P w K mg base G "frozen" 13 2 (f_frozen 13) [.int 12]) (C_is_stair : CalN P w K mg base G "is_stair" 3 1 f_is_stair []) :
    FnOk P w K mg base (L2.CX P w) 14 f fd ["stair"] (spN G 1 (nDef 2 b_fit_stair)) :=
  ndef_ok (G := G) F sc_fit_stair rfl rfl fun cdv A outer s H E hr => by
    have o := okDef (G := G) (mg := mg) (base := base) (N := ["stair", "own"]) (qual := "fit_stair") (sc := defScope d_fit_stair) (outer := outer) (H := H) (E := E) T.hK T.hS hr
    have nd := (sc_fit_stair).nd
    exact (ns_cons (n_set (i := 1) (fun _ h => ps_set nd rfl (by first | exact .inl rfl | exact .inr rfl) h) (n_cal C_frozend o.tk (hr.mono (by omega)) (by rfl) (na_cons (n_var (pv 0)) na_nil))) (ns_cons (n_if (nt_not (nt_of (n_cal C_is_stair o.tk (hr.mono (by omega)) (by rfl) (na_cons (n_var (pv 1)) na_nil)))) (ns_one (n_raise0 (xbVE).F T.x_Unfit.xi T.x_Unfit.g T.x_Unfit.kp T.x_Unfit.ex T.x_Unfit.ty o (by rfl))) ns_nil) (ns_one (n_ret (n_var (pv 1))))))
/-! ### _size -/
abbrev d__size : Stmt := tp 27
def b__size : Sf :=
  (nRet (nOp gAdd (nCall gLenU (nCons (nOp gIx (nVar 0) (nC (.int 1))) nNil)) (nC (.int 1))))
def f__size : List D → N D := nDef 1 b__size
theorem sc__size : FnScope ["stair"] ["stair"] (defScope d__size) := ⟨rfl, rfl, rfl, by decide +kernel, rfl, by decide +kernel, by decide +kernel⟩
theorem ok__size {P : Program} {w : World} {K : PySem.W.Frag} {mg : Str → Option Value} {base : Heap} {f : Addr} {fd : FuncData} {G : Gd} (T : Fx P w K mg G) (F : FunA K "_size" "_size" d__size f fd)
     :
    FnOk P w K mg base (L2.CX P w) 1 f fd ["stair"] (spN G 1 (nDef 1 b__size)) :=
  ndef_ok (G := G) F sc__size rfl rfl fun cdv A outer s H E hr => by
    have o := okDef (G := G) (mg := mg) (base := base) (N := ["stair"]) (qual := "_size") (sc := defScope d__size) (outer := outer) (H := H) (E := E) T.hK T.hS hr
    have nd := (sc__size).nd
    exact (ns_one (n_ret (n_add o (n_len o (by rfl) T.m_len (na_cons (n_ix o.K (n_var (pv 0)) n_int (fun _ _ => rfl)) na_nil)) n_int)))
/-! ### _cells -/
abbrev d__cells : Stmt := tp 29
def b__cells : Sf :=
  (nSeq (nAsg (nVar 0) (gT 2 (gsC (gT 2 (gsC (gN 1) (gsC (gN 2) gsN))) (gsC (gN 3) gsN)))) (nSeq (nSet 4 (nCall mLst (nCons (nCall mTup (nCons (nVar 1) (nCons (nVar 2) nNil))) nNil))) (nSeq (nFor (nV (nVar 3)) (gN 5) (nSeq (nAsg (nIfE (nTest (nOp (eqG true) (nVar 5) (nC (.int 1)))) (nCall mTup (nCons (nVar 1) (nCons (nOp gAdd (nVar 2) (nC (.int 1))) nNil))) (nCall mTup (nCons (nOp gAdd (nVar 1) (nC (.int 1))) (nCons (nVar 2) nNil)))) (gT 2 (gsC (gN 1) (gsC (gN 2) gsN)))) (nExpr (nMt mtA isL (nVar 4) (nCons (nCall mTup (nCons (nVar 1) (nCons (nVar 2) nNil))) nNil))))) (nRet (nVar 4)))))
def f__cells : List D → N D := nDef 6 b__cells
theorem sc__cells : FnScope ["stair", "x", "y", "steps", "cells", "step"] ["stair"] (defScope d__cells) := ⟨rfl, rfl, rfl, by decide +kernel, rfl, by decide +kernel, by decide +kernel⟩
theorem ok__cells {P : Program} {w : World} {K : PySem.W.Frag} {mg : Str → Option Value} {base : Heap} {f : Addr} {fd : FuncData} {G : Gd} (T : Fx P w K mg G) (F : FunA K "_cells" "_cells" d__cells f fd)
     :
    FnOk P w K mg base (L2.CX P w) 1 f fd ["stair"] (spN G 1 (nDef 6 b__cells)) :=
  ndef_ok (G := G) F sc__cells rfl rfl fun cdv A outer s H E hr => by
    have o := okDef (G := G) (mg := mg) (base := base) (N := ["stair", "x", "y", "steps", "cells", "step"]) (qual := "_cells") (sc := defScope d__cells) (outer := outer) (H := H) (E := E) T.hK T.hS hr
    have nd := (sc__cells).nd
    exact (ns_cons (n_asg (n_var (pv 0)) (g_tup o.K.symm o.calm (gs_cons (g_tup o.K.symm o.calm (gs_cons (g_name (pg_name (i := 1) nd rfl (by first | exact .inl rfl | exact .inr rfl))) (gs_cons (g_name (pg_name (i := 2) nd rfl (by first | exact .inl rfl | exact .inr rfl))) gs_nil))) (gs_cons (g_name (pg_name (i := 3) nd rfl (by first | exact .inl rfl | exact .inr rfl))) gs_nil)))) (ns_cons (n_set (i := 4) (fun _ h => ps_set nd rfl (by first | exact .inl rfl | exact .inr rfl) h) (n_lst (na_cons (n_tup (na_cons (n_var (pv 1)) (na_cons (n_var (pv 2)) na_nil))) na_nil))) (ns_cons (n_for o.po o.calm (ni_val o.K (n_var (pv 3))) (g_name (pg_name (i := 5) nd rfl (by first | exact .inl rfl | exact .inr rfl))) (ns_cons (n_asg (n_ifExp (nc_eq o (n_var (pv 5)) n_int) (n_tup (na_cons (n_var (pv 1)) (na_cons (n_add o (n_var (pv 2)) n_int) na_nil))) (n_tup (na_cons (n_add o (n_var (pv 1)) n_int) (na_cons (n_var (pv 2)) na_nil)))) (g_tup o.K.symm o.calm (gs_cons (g_name (pg_name (i := 1) nd rfl (by first | exact .inl rfl | exact .inr rfl))) (gs_cons (g_name (pg_name (i := 2) nd rfl (by first | exact .inl rfl | exact .inr rfl))) gs_nil)))) (ns_one (n_expr (n_append o.K (n_var (pv 4)) (n_tup (na_cons (n_var (pv 1)) (na_cons (n_var (pv 2)) na_nil)))))))) (ns_one (n_ret (n_var (pv 4)))))))
/-! ### cells_of -/
abbrev d_cells_of : Stmt := tp 28
def b_cells_of : Sf :=
  (nRet (nCall gTupL (nCons (nCallD 1 f__cells [] (nCons (nCallD 1 f_fit_stair [] (nCons (nVar 0) nNil)) nNil)) nNil)))
def f_cells_of : List D → N D := nDef 1 b_cells_of
theorem sc_cells_of : FnScope ["stair"] ["stair"] (defScope d_cells_of) := ⟨rfl, rfl, rfl, by decide +kernel, rfl, by decide +kernel, by decide +kernel⟩
theorem ok_cells_of {P : Program} {w : World} {K : PySem.W.Frag} {mg : Str → Option Value} {base : Heap} {f : Addr} {fd : FuncData} {G : Gd} (T : Fx P w K mg G) (F : FunA K "cells_of" "cells_of" d_cells_of f fd)
    (C__cells : CalN P w K mg base G "_cells" 1 1 f__cells []) (C_fit_stair : CalN P w K mg base G "fit_stair" 14 1 f_fit_stair []) :
    FnOk P w K mg base (L2.CX P w) 15 f fd ["stair"] (spN G 1 (nDef 1 b_cells_of)) :=
  ndef_ok (G := G) F sc_cells_of rfl rfl fun cdv A outer s H E hr => by
    have o := okDef (G := G) (mg := mg) (base := base) (N := ["stair"]) (qual := "cells_of") (sc := defScope d_cells_of) (outer := outer) (H := H) (E := E) T.hK T.hS hr
    have nd := (sc_cells_of).nd
    exact (ns_one (n_ret (n_tuple o (by rfl) T.m_tuple (na_cons (n_cal C__cells o.tk (hr.mono (by omega)) (by rfl) (na_cons (n_cal C_fit_stair o.tk (hr.mono (by omega)) (by rfl) (na_cons (n_var (pv 0)) na_nil)) na_nil)) na_nil))))
/-! ### _are_stairs -/
abbrev d__are_stairs : Stmt := tp 30
def b__are_stairs : Sf :=
  (nSeq (nIf (nOr (nTest (nOp gNotT (nCall gType (nCons (nVar 0) nNil)) (nC (.ty "tuple")))) (nNot (nTest (nCall gAll (nCons (nLc (nV (nVar 0)) (.nm 2) nYes (nCallD 1 f_is_stair [] (nCons (nVar 2) nNil)) [2]) nNil))))) (nRet (nC (.bl false))) nSkip) (nRet (nAndV (nCallD 1 f_is_ascending [] (nCons (nVar 0) nNil)) (nCall gAll (nCons (nLc (nV (nVar 0)) (.nm 3) nYes (nOp (eqG true) (nCallD 1 f__size [] (nCons (nVar 3) nNil)) (nVar 1)) [3]) nNil)))))
def f__are_stairs : List D → N D := nDef 4 b__are_stairs
theorem sc__are_stairs : FnScope ["value", "size", "item", "stair"] ["value", "size"] (defScope d__are_stairs) := ⟨rfl, rfl, rfl, by decide +kernel, rfl, by decide +kernel, by decide +kernel⟩
theorem ok__are_stairs {P : Program} {w : World} {K : PySem.W.Frag} {mg : Str → Option Value} {base : Heap} {f : Addr} {fd : FuncData} {G : Gd} (T : Fx P w K mg G) (F : FunA K "_are_stairs" "_are_stairs" d__are_stairs f fd)
    (C__size : CalN P w K mg base G "_size" 1 1 f__size []) (C_is_ascending : CalN P w K mg base G "is_ascending" 1 1 f_is_ascending []) (C_is_stair : CalN P w K mg base G "is_stair" 3 1 f_is_stair []) :
    FnOk P w K mg base (L2.CX P w) 4 f fd ["value", "size"] (spN G 2 (nDef 4 b__are_stairs)) :=
  ndef_ok (G := G) F sc__are_stairs rfl rfl fun cdv A outer s H E hr => by
    have o := okDef (G := G) (mg := mg) (base := base) (N := ["value", "size", "item", "stair"]) (qual := "_are_stairs") (sc := defScope d__are_stairs) (outer := outer) (H := H) (E := E) T.hK T.hS hr
    have nd := (sc__are_stairs).nd
    exact (ns_cons (n_if (PW.pt (nw_or (nc_notT (n_type o (by rfl) T.m_type (na_cons (n_var (pv 0)) na_nil)) (n_tyn (T := "tuple") (by rfl) T.m_tuple (by decide +kernel))) (nw_or1 (nt_not (nt_of (n_all o (by rfl) T.m_all (na_cons (n_lc (.nm 2) o.K rfl (pe_lc (own := [("item", 2)]) (g := Tgt.tg _ (.nm 2)) o.calm nd (ni_val o.K (n_var (pv 0))) (blkOk_by (N := ["value", "size", "item", "stair"]) (sc := defScope d__are_stairs) (by decide +kernel)) (fun _ _ _ _ _ => (pg_name (i := 2) nd rfl (by first | exact .inl rfl | exact .inr rfl))) (fun _ _ _ _ _ => nts_nil) (fun _ _ _ _ _ => (n_cal C_is_stair (okBlkN o).tk (hr.mono (by omega)) (by rfl) (na_cons (n_var (pv 2)) na_nil))))) na_nil))))))) (ns_one (n_ret n_bl)) ns_nil) (ns_one (n_ret (n_and (n_cal C_is_ascending o.tk (hr.mono (by omega)) (by rfl) (na_cons (n_var (pv 0)) na_nil)) (n_one (n_all o (by rfl) T.m_all (na_cons (n_lc (.nm 3) o.K rfl (pe_lc (own := [("stair", 3)]) (g := Tgt.tg _ (.nm 3)) o.calm nd (ni_val o.K (n_var (pv 0))) (blkOk_by (N := ["value", "size", "item", "stair"]) (sc := defScope d__are_stairs) (by decide +kernel)) (fun _ _ _ _ _ => (pg_name (i := 3) nd rfl (by first | exact .inl rfl | exact .inr rfl))) (fun _ _ _ _ _ => nts_nil) (fun _ _ _ _ _ => (nv_eq (okBlkN o) (n_cal C__size (okBlkN o).tk (hr.mono (by omega)) (by rfl) (na_cons (n_var (pv 3)) na_nil)) (n_var (pv 1)))))) na_nil)))))))
/-! ### _cells_of_all -/
abbrev d__cells_of_all : Stmt := tp 31
def b__cells_of_all : Sf :=
  (nRet (nCall gTupL (nCons (nCall gSortedU (nCons (nLc2 (nV (nVar 0)) (.nm 1) nYes (nV (nCallD 1 f__cells [] (nCons (nVar 1) nNil))) (.nm 2) nYes (nVar 2) [1, 2] [2]) nNil)) nNil)))
def f__cells_of_all : List D → N D := nDef 3 b__cells_of_all
theorem sc__cells_of_all : FnScope ["stairs", "stair", "cell"] ["stairs"] (defScope d__cells_of_all) := ⟨rfl, rfl, rfl, by decide +kernel, rfl, by decide +kernel, by decide +kernel⟩
theorem ok__cells_of_all {P : Program} {w : World} {K : PySem.W.Frag} {mg : Str → Option Value} {base : Heap} {f : Addr} {fd : FuncData} {G : Gd} (T : Fx P w K mg G) (F : FunA K "_cells_of_all" "_cells_of_all" d__cells_of_all f fd)
    (C__cells : CalN P w K mg base G "_cells" 1 1 f__cells []) :
    FnOk P w K mg base (L2.CX P w) 2 f fd ["stairs"] (spN G 1 (nDef 3 b__cells_of_all)) :=
  ndef_ok (G := G) F sc__cells_of_all rfl rfl fun cdv A outer s H E hr => by
    have o := okDef (G := G) (mg := mg) (base := base) (N := ["stairs", "stair", "cell"]) (qual := "_cells_of_all") (sc := defScope d__cells_of_all) (outer := outer) (H := H) (E := E) T.hK T.hS hr
    have nd := (sc__cells_of_all).nd
    exact (ns_one (n_ret (n_tuple o (by rfl) T.m_tuple (na_cons (n_sorted o (by rfl) T.m_sorted (na_cons (n_lc2 (vs1 := [2]) (.nm 1) (.nm 2) o.K rfl rfl (pe_lc2 (own := [("stair", 1), ("cell", 2)]) (g := Tgt.tg _ (.nm 1)) (g1 := Tgt.tg _ (.nm 2)) o.calm nd (ni_val o.K (n_var (pv 0))) (blkOk_by (N := ["stairs", "stair", "cell"]) (sc := defScope d__cells_of_all) (by decide +kernel)) (by decide) (fun _ _ _ _ _ => (pg_name (i := 1) nd rfl (by first | exact .inl rfl | exact .inr rfl))) (fun _ _ _ _ _ => nts_nil) (fun _ _ _ _ _ => (ni_val (okBlkN o).K (n_cal C__cells (okBlkN o).tk (hr.mono (by omega)) (by rfl) (na_cons (n_var (pv 1)) na_nil)))) (fun _ _ _ _ _ => (pg_name (i := 2) nd rfl (by first | exact .inl rfl | exact .inr rfl))) (fun _ _ _ _ _ => nts_nil) (fun _ _ _ _ _ => (n_var (pv 2))))) na_nil)) na_nil))))
/-! ### fit_laying -/
abbrev d_fit_laying : Stmt := tp 32
def b_fit_laying : Sf :=
  (nSeq (nSet 1 (nCallD 2 (f_frozen 13) [.int 12] (nCons (nVar 0) nNil))) (nSeq (nIf (nOr (nTest (nOp gNotT (nCall gType (nCons (nVar 1) nNil)) (nC (.ty "tuple")))) (nOr (nTest (nOp (eqG true) (nCall gLenU (nCons (nVar 1) nNil)) (nC (.int 0)))) (nNot (nTest (nCallD 1 f_is_stair [] (nCons (nOp gIx (nVar 1) (nC (.int 0))) nNil)))))) (nRaise 1) nSkip) (nSeq (nIf (nOr (nNot (nTest (nCallD 2 f__are_stairs [] (nCons (nVar 1) (nCons (nCallD 1 f__size [] (nCons (nOp gIx (nVar 1) (nC (.int 0))) nNil)) nNil))))) (nNot (nTest (nCallD 1 f_is_floor [] (nCons (nCallD 1 f__cells_of_all [] (nCons (nVar 1) nNil)) nNil))))) (nRaise 1) nSkip) (nRet (nVar 1)))))
def f_fit_laying : List D → N D := nDef 2 b_fit_laying
theorem sc_fit_laying : FnScope ["laying", "own"] ["laying"] (defScope d_fit_laying) := ⟨rfl, rfl, rfl, by decide +kernel, rfl, by decide +kernel, by decide +kernel⟩
theorem ok_fit_laying {P : Program} {w : World} {K : PySem.W.Frag} {mg : Str → Option Value} {base : Heap} {f : Addr} {fd : FuncData} {G : Gd} (T : Fx P w K mg G) (F : FunA K "fit_laying" "fit_laying" d_fit_laying f fd)
    (C__are_stairs : CalN P w K mg base G "_are_stairs" 4 2 f__are_stairs []) (C__cells_of_all : CalN P w K mg base G "_cells_of_all" 2 1 f__cells_of_all []) (C__size : CalN P w K mg base G "_size" 1 1 f__size []) (C_frozend : CalN P w K mg base G "frozen" 13 2 (f_frozen 13) [.int 12]) (C_is_floor : CalN P w K mg base G "is_floor" 4 1 f_is_floor []) (C_is_stair : CalN P w K mg base G "is_stair" 3 1 f_is_stair []) :
    FnOk P w K mg base (L2.CX P w) 14 f fd ["laying"] (spN G 1 (nDef 2 b_fit_laying)) :=
  ndef_ok (G := G) F sc_fit_laying rfl rfl fun cdv A outer s H E hr => by
    have o := okDef (G := G) (mg := mg) (base := base) (N := ["laying", "own"]) (qual := "fit_laying") (sc := defScope d_fit_laying) (outer := outer) (H := H) (E := E) T.hK T.hS hr
    have nd := (sc_fit_laying).nd
    exact (ns_cons (n_set (i := 1) (fun _ h => ps_set nd rfl (by first | exact .inl rfl | exact .inr rfl) h) (n_cal C_frozend o.tk (hr.mono (by omega)) (by rfl) (na_cons (n_var (pv 0)) na_nil))) (ns_cons (n_if (PW.pt (nw_or (nc_notT (n_type o (by rfl) T.m_type (na_cons (n_var (pv 1)) na_nil)) (n_tyn (T := "tuple") (by rfl) T.m_tuple (by decide +kernel))) (nw_or (nc_eq o (n_len o (by rfl) T.m_len (na_cons (n_var (pv 1)) na_nil)) n_int) (nw_or1 (nt_not (nt_of (n_cal C_is_stair o.tk (hr.mono (by omega)) (by rfl) (na_cons (n_ix o.K (n_var (pv 1)) n_int (fun _ _ => rfl)) na_nil)))))))) (ns_one (n_raise0 (xbVE).F T.x_Unfit.xi T.x_Unfit.g T.x_Unfit.kp T.x_Unfit.ex T.x_Unfit.ty o (by rfl))) ns_nil) (ns_cons (n_if (PW.pt (nw_or (nt_not (nt_of (n_cal C__are_stairs o.tk (hr.mono (by omega)) (by rfl) (na_cons (n_var (pv 1)) (na_cons (n_cal C__size o.tk (hr.mono (by omega)) (by rfl) (na_cons (n_ix o.K (n_var (pv 1)) n_int (fun _ _ => rfl)) na_nil)) na_nil))))) (nw_or1 (nt_not (nt_of (n_cal C_is_floor o.tk (hr.mono (by omega)) (by rfl) (na_cons (n_cal C__cells_of_all o.tk (hr.mono (by omega)) (by rfl) (na_cons (n_var (pv 1)) na_nil)) na_nil))))))) (ns_one (n_raise0 (xbVE).F T.x_Unfit.xi T.x_Unfit.g T.x_Unfit.kp T.x_Unfit.ex T.x_Unfit.ty o (by rfl))) ns_nil) (ns_one (n_ret (n_var (pv 1)))))))
/-! ### shifted -/
abbrev d_shifted : Stmt := tp 34
def b_shifted : Sf :=
  (nSeq (nSet 2 (nCallD 1 f_fit_floor [] (nCons (nVar 0) nNil))) (nSeq (nAsg (nVar 1) (gT 2 (gsC (gN 3) (gsC (gN 4) gsN)))) (nRet (nCall gTupL (nCons (nLc (nV (nVar 2)) (.tp [(.nm 5), (.nm 6)]) nYes (nCall mTup (nCons (nOp gAdd (nVar 5) (nVar 3)) (nCons (nOp gAdd (nVar 6) (nVar 4)) nNil))) [5, 6]) nNil)))))
def f_shifted : List D → N D := nDef 7 b_shifted
theorem sc_shifted : FnScope ["floor", "by", "own", "a", "b", "x", "y"] ["floor", "by"] (defScope d_shifted) := ⟨rfl, rfl, rfl, by decide +kernel, rfl, by decide +kernel, by decide +kernel⟩
theorem ok_shifted {P : Program} {w : World} {K : PySem.W.Frag} {mg : Str → Option Value} {base : Heap} {f : Addr} {fd : FuncData} {G : Gd} (T : Fx P w K mg G) (F : FunA K "shifted" "shifted" d_shifted f fd)
    (C_fit_floor : CalN P w K mg base G "fit_floor" 14 1 f_fit_floor []) :
    FnOk P w K mg base (L2.CX P w) 15 f fd ["floor", "by"] (spN G 2 (nDef 7 b_shifted)) :=
  ndef_ok (G := G) F sc_shifted rfl rfl fun cdv A outer s H E hr => by
    have o := okDef (G := G) (mg := mg) (base := base) (N := ["floor", "by", "own", "a", "b", "x", "y"]) (qual := "shifted") (sc := defScope d_shifted) (outer := outer) (H := H) (E := E) T.hK T.hS hr
    have nd := (sc_shifted).nd
    exact (ns_cons (n_set (i := 2) (fun _ h => ps_set nd rfl (by first | exact .inl rfl | exact .inr rfl) h) (n_cal C_fit_floor o.tk (hr.mono (by omega)) (by rfl) (na_cons (n_var (pv 0)) na_nil))) (ns_cons (n_asg (n_var (pv 1)) (g_tup o.K.symm o.calm (gs_cons (g_name (pg_name (i := 3) nd rfl (by first | exact .inl rfl | exact .inr rfl))) (gs_cons (g_name (pg_name (i := 4) nd rfl (by first | exact .inl rfl | exact .inr rfl))) gs_nil)))) (ns_one (n_ret (n_tuple o (by rfl) T.m_tuple (na_cons (n_lc (.tp [(.nm 5), (.nm 6)]) o.K rfl (pe_lc (own := [("x", 5), ("y", 6)]) (g := Tgt.tg _ (.tp [(.nm 5), (.nm 6)])) o.calm nd (ni_val o.K (n_var (pv 2))) (blkOk_by (N := ["floor", "by", "own", "a", "b", "x", "y"]) (sc := defScope d_shifted) (by decide +kernel)) (fun _ _ _ _ _ => (pg_tup (okBlkN o).calm (pgs_cons (pg_name (i := 5) nd rfl (by first | exact .inl rfl | exact .inr rfl)) (pgs_cons (pg_name (i := 6) nd rfl (by first | exact .inl rfl | exact .inr rfl)) pgs_nil)))) (fun _ _ _ _ _ => nts_nil) (fun _ _ _ _ _ => (n_tup (na_cons (n_add (okBlkN o) (n_var (pv 5)) (n_var (pv 3))) (na_cons (n_add (okBlkN o) (n_var (pv 6)) (n_var (pv 4))) na_nil)))))) na_nil))))))
/-! ### mirrored -/
abbrev d_mirrored : Stmt := tp 35
def b_mirrored : Sf :=
  (nRet (nCall gTupL (nCons (nCall gSortedU (nCons (nLc (nV (nCallD 1 f_fit_floor [] (nCons (nVar 0) nNil))) (.tp [(.nm 1), (.nm 2)]) nYes (nCall mTup (nCons (nVar 2) (nCons (nVar 1) nNil))) [1, 2]) nNil)) nNil)))
def f_mirrored : List D → N D := nDef 3 b_mirrored
theorem sc_mirrored : FnScope ["floor", "x", "y"] ["floor"] (defScope d_mirrored) := ⟨rfl, rfl, rfl, by decide +kernel, rfl, by decide +kernel, by decide +kernel⟩
theorem ok_mirrored {P : Program} {w : World} {K : PySem.W.Frag} {mg : Str → Option Value} {base : Heap} {f : Addr} {fd : FuncData} {G : Gd} (T : Fx P w K mg G) (F : FunA K "mirrored" "mirrored" d_mirrored f fd)
    (C_fit_floor : CalN P w K mg base G "fit_floor" 14 1 f_fit_floor []) :
    FnOk P w K mg base (L2.CX P w) 15 f fd ["floor"] (spN G 1 (nDef 3 b_mirrored)) :=
  ndef_ok (G := G) F sc_mirrored rfl rfl fun cdv A outer s H E hr => by
    have o := okDef (G := G) (mg := mg) (base := base) (N := ["floor", "x", "y"]) (qual := "mirrored") (sc := defScope d_mirrored) (outer := outer) (H := H) (E := E) T.hK T.hS hr
    have nd := (sc_mirrored).nd
    exact (ns_one (n_ret (n_tuple o (by rfl) T.m_tuple (na_cons (n_sorted o (by rfl) T.m_sorted (na_cons (n_lc (.tp [(.nm 1), (.nm 2)]) o.K rfl (pe_lc (own := [("x", 1), ("y", 2)]) (g := Tgt.tg _ (.tp [(.nm 1), (.nm 2)])) o.calm nd (ni_val o.K (n_cal C_fit_floor o.tk (hr.mono (by omega)) (by rfl) (na_cons (n_var (pv 0)) na_nil))) (blkOk_by (N := ["floor", "x", "y"]) (sc := defScope d_mirrored) (by decide +kernel)) (fun _ _ _ _ _ => (pg_tup (okBlkN o).calm (pgs_cons (pg_name (i := 1) nd rfl (by first | exact .inl rfl | exact .inr rfl)) (pgs_cons (pg_name (i := 2) nd rfl (by first | exact .inl rfl | exact .inr rfl)) pgs_nil)))) (fun _ _ _ _ _ => nts_nil) (fun _ _ _ _ _ => (n_tup (na_cons (n_var (pv 2)) (na_cons (n_var (pv 1)) na_nil)))))) na_nil)) na_nil))))
/-! ### half_turned -/
abbrev d_half_turned : Stmt := tp 36
def b_half_turned : Sf :=
  (nRet (nCall gTupL (nCons (nCall gSortedU (nCons (nLc (nV (nCallD 1 f_fit_floor [] (nCons (nVar 0) nNil))) (.tp [(.nm 1), (.nm 2)]) nYes (nCall mTup (nCons (nUn gNeg (nVar 1)) (nCons (nUn gNeg (nVar 2)) nNil))) [1, 2]) nNil)) nNil)))
def f_half_turned : List D → N D := nDef 3 b_half_turned
theorem sc_half_turned : FnScope ["floor", "x", "y"] ["floor"] (defScope d_half_turned) := ⟨rfl, rfl, rfl, by decide +kernel, rfl, by decide +kernel, by decide +kernel⟩
theorem ok_half_turned {P : Program} {w : World} {K : PySem.W.Frag} {mg : Str → Option Value} {base : Heap} {f : Addr} {fd : FuncData} {G : Gd} (T : Fx P w K mg G) (F : FunA K "half_turned" "half_turned" d_half_turned f fd)
    (C_fit_floor : CalN P w K mg base G "fit_floor" 14 1 f_fit_floor []) :
    FnOk P w K mg base (L2.CX P w) 15 f fd ["floor"] (spN G 1 (nDef 3 b_half_turned)) :=
  ndef_ok (G := G) F sc_half_turned rfl rfl fun cdv A outer s H E hr => by
    have o := okDef (G := G) (mg := mg) (base := base) (N := ["floor", "x", "y"]) (qual := "half_turned") (sc := defScope d_half_turned) (outer := outer) (H := H) (E := E) T.hK T.hS hr
    have nd := (sc_half_turned).nd
    exact (ns_one (n_ret (n_tuple o (by rfl) T.m_tuple (na_cons (n_sorted o (by rfl) T.m_sorted (na_cons (n_lc (.tp [(.nm 1), (.nm 2)]) o.K rfl (pe_lc (own := [("x", 1), ("y", 2)]) (g := Tgt.tg _ (.tp [(.nm 1), (.nm 2)])) o.calm nd (ni_val o.K (n_cal C_fit_floor o.tk (hr.mono (by omega)) (by rfl) (na_cons (n_var (pv 0)) na_nil))) (blkOk_by (N := ["floor", "x", "y"]) (sc := defScope d_half_turned) (by decide +kernel)) (fun _ _ _ _ _ => (pg_tup (okBlkN o).calm (pgs_cons (pg_name (i := 1) nd rfl (by first | exact .inl rfl | exact .inr rfl)) (pgs_cons (pg_name (i := 2) nd rfl (by first | exact .inl rfl | exact .inr rfl)) pgs_nil)))) (fun _ _ _ _ _ => nts_nil) (fun _ _ _ _ _ => (n_tup (na_cons (n_neg (n_var (pv 1))) (na_cons (n_neg (n_var (pv 2))) na_nil)))))) na_nil)) na_nil))))
/-! ### stair_shifted -/
abbrev d_stair_shifted : Stmt := tp 37
def b_stair_shifted : Sf :=
  (nSeq (nAsg (nCallD 1 f_fit_stair [] (nCons (nVar 0) nNil)) (gT 2 (gsC (gT 2 (gsC (gN 2) (gsC (gN 3) gsN))) (gsC (gN 4) gsN)))) (nSeq (nAsg (nVar 1) (gT 2 (gsC (gN 5) (gsC (gN 6) gsN)))) (nRet (nCall mTup (nCons (nCall mTup (nCons (nOp gAdd (nVar 2) (nVar 5)) (nCons (nOp gAdd (nVar 3) (nVar 6)) nNil))) (nCons (nVar 4) nNil))))))
def f_stair_shifted : List D → N D := nDef 7 b_stair_shifted
theorem sc_stair_shifted : FnScope ["stair", "by", "x", "y", "steps", "a", "b"] ["stair", "by"] (defScope d_stair_shifted) := ⟨rfl, rfl, rfl, by decide +kernel, rfl, by decide +kernel, by decide +kernel⟩
theorem ok_stair_shifted {P : Program} {w : World} {K : PySem.W.Frag} {mg : Str → Option Value} {base : Heap} {f : Addr} {fd : FuncData} {G : Gd} (T : Fx P w K mg G) (F : FunA K "stair_shifted" "stair_shifted" d_stair_shifted f fd)
    (C_fit_stair : CalN P w K mg base G "fit_stair" 14 1 f_fit_stair []) :
    FnOk P w K mg base (L2.CX P w) 15 f fd ["stair", "by"] (spN G 2 (nDef 7 b_stair_shifted)) :=
  ndef_ok (G := G) F sc_stair_shifted rfl rfl fun cdv A outer s H E hr => by
    have o := okDef (G := G) (mg := mg) (base := base) (N := ["stair", "by", "x", "y", "steps", "a", "b"]) (qual := "stair_shifted") (sc := defScope d_stair_shifted) (outer := outer) (H := H) (E := E) T.hK T.hS hr
    have nd := (sc_stair_shifted).nd
    exact (ns_cons (n_asg (n_cal C_fit_stair o.tk (hr.mono (by omega)) (by rfl) (na_cons (n_var (pv 0)) na_nil)) (g_tup o.K.symm o.calm (gs_cons (g_tup o.K.symm o.calm (gs_cons (g_name (pg_name (i := 2) nd rfl (by first | exact .inl rfl | exact .inr rfl))) (gs_cons (g_name (pg_name (i := 3) nd rfl (by first | exact .inl rfl | exact .inr rfl))) gs_nil))) (gs_cons (g_name (pg_name (i := 4) nd rfl (by first | exact .inl rfl | exact .inr rfl))) gs_nil)))) (ns_cons (n_asg (n_var (pv 1)) (g_tup o.K.symm o.calm (gs_cons (g_name (pg_name (i := 5) nd rfl (by first | exact .inl rfl | exact .inr rfl))) (gs_cons (g_name (pg_name (i := 6) nd rfl (by first | exact .inl rfl | exact .inr rfl))) gs_nil)))) (ns_one (n_ret (n_tup (na_cons (n_tup (na_cons (n_add o (n_var (pv 2)) (n_var (pv 5))) (na_cons (n_add o (n_var (pv 3)) (n_var (pv 6))) na_nil))) (na_cons (n_var (pv 4)) na_nil)))))))
/-! ### stair_mirrored -/
abbrev d_stair_mirrored : Stmt := tp 38
def b_stair_mirrored : Sf :=
  (nSeq (nAsg (nCallD 1 f_fit_stair [] (nCons (nVar 0) nNil)) (gT 2 (gsC (gT 2 (gsC (gN 1) (gsC (gN 2) gsN))) (gsC (gN 3) gsN)))) (nRet (nCall mTup (nCons (nCall mTup (nCons (nVar 2) (nCons (nVar 1) nNil))) (nCons (nCall gTupL (nCons (nLc (nV (nVar 3)) (.nm 4) nYes (nOp gSub (nC (.int 1)) (nVar 4)) [4]) nNil)) nNil)))))
def f_stair_mirrored : List D → N D := nDef 5 b_stair_mirrored
theorem sc_stair_mirrored : FnScope ["stair", "x", "y", "steps", "step"] ["stair"] (defScope d_stair_mirrored) := ⟨rfl, rfl, rfl, by decide +kernel, rfl, by decide +kernel, by decide +kernel⟩
theorem ok_stair_mirrored {P : Program} {w : World} {K : PySem.W.Frag} {mg : Str → Option Value} {base : Heap} {f : Addr} {fd : FuncData} {G : Gd} (T : Fx P w K mg G) (F : FunA K "stair_mirrored" "stair_mirrored" d_stair_mirrored f fd)
    (C_fit_stair : CalN P w K mg base G "fit_stair" 14 1 f_fit_stair []) :
    FnOk P w K mg base (L2.CX P w) 15 f fd ["stair"] (spN G 1 (nDef 5 b_stair_mirrored)) :=
  ndef_ok (G := G) F sc_stair_mirrored rfl rfl fun cdv A outer s H E hr => by
    have o := okDef (G := G) (mg := mg) (base := base) (N := ["stair", "x", "y", "steps", "step"]) (qual := "stair_mirrored") (sc := defScope d_stair_mirrored) (outer := outer) (H := H) (E := E) T.hK T.hS hr
    have nd := (sc_stair_mirrored).nd
    exact (ns_cons (n_asg (n_cal C_fit_stair o.tk (hr.mono (by omega)) (by rfl) (na_cons (n_var (pv 0)) na_nil)) (g_tup o.K.symm o.calm (gs_cons (g_tup o.K.symm o.calm (gs_cons (g_name (pg_name (i := 1) nd rfl (by first | exact .inl rfl | exact .inr rfl))) (gs_cons (g_name (pg_name (i := 2) nd rfl (by first | exact .inl rfl | exact .inr rfl))) gs_nil))) (gs_cons (g_name (pg_name (i := 3) nd rfl (by first | exact .inl rfl | exact .inr rfl))) gs_nil)))) (ns_one (n_ret (n_tup (na_cons (n_tup (na_cons (n_var (pv 2)) (na_cons (n_var (pv 1)) na_nil))) (na_cons (n_tuple o (by rfl) T.m_tuple (na_cons (n_lc (.nm 4) o.K rfl (pe_lc (own := [("step", 4)]) (g := Tgt.tg _ (.nm 4)) o.calm nd (ni_val o.K (n_var (pv 3))) (blkOk_by (N := ["stair", "x", "y", "steps", "step"]) (sc := defScope d_stair_mirrored) (by decide +kernel)) (fun _ _ _ _ _ => (pg_name (i := 4) nd rfl (by first | exact .inl rfl | exact .inr rfl))) (fun _ _ _ _ _ => nts_nil) (fun _ _ _ _ _ => (n_sub n_int (n_var (pv 4)))))) na_nil)) na_nil))))))
/-! ### stair_half_turned -/
abbrev d_stair_half_turned : Stmt := tp 39
def b_stair_half_turned : Sf :=
  (nSeq (nAsg (nOp gIx (nCallD 1 f_cells_of [] (nCons (nVar 0) nNil)) (nUn gNeg (nC (.int 1)))) (gT 2 (gsC (gN 1) (gsC (gN 2) gsN)))) (nRet (nCall mTup (nCons (nCall mTup (nCons (nUn gNeg (nVar 1)) (nCons (nUn gNeg (nVar 2)) nNil))) (nCons (nUn gRevT (nOp gIx (nCallD 1 f_fit_stair [] (nCons (nVar 0) nNil)) (nC (.int 1)))) nNil)))))
def f_stair_half_turned : List D → N D := nDef 3 b_stair_half_turned
theorem sc_stair_half_turned : FnScope ["stair", "x", "y"] ["stair"] (defScope d_stair_half_turned) := ⟨rfl, rfl, rfl, by decide +kernel, rfl, by decide +kernel, by decide +kernel⟩
theorem ok_stair_half_turned {P : Program} {w : World} {K : PySem.W.Frag} {mg : Str → Option Value} {base : Heap} {f : Addr} {fd : FuncData} {G : Gd} (T : Fx P w K mg G) (F : FunA K "stair_half_turned" "stair_half_turned" d_stair_half_turned f fd)
    (C_cells_of : CalN P w K mg base G "cells_of" 15 1 f_cells_of []) (C_fit_stair : CalN P w K mg base G "fit_stair" 14 1 f_fit_stair []) :
    FnOk P w K mg base (L2.CX P w) 16 f fd ["stair"] (spN G 1 (nDef 3 b_stair_half_turned)) :=
  ndef_ok (G := G) F sc_stair_half_turned rfl rfl fun cdv A outer s H E hr => by
    have o := okDef (G := G) (mg := mg) (base := base) (N := ["stair", "x", "y"]) (qual := "stair_half_turned") (sc := defScope d_stair_half_turned) (outer := outer) (H := H) (E := E) T.hK T.hS hr
    have nd := (sc_stair_half_turned).nd
    exact (ns_cons (n_asg (n_ix o.K (n_cal C_cells_of o.tk (hr.mono (by omega)) (by rfl) (na_cons (n_var (pv 0)) na_nil)) (n_neg n_int) (fun _ _ => rfl)) (g_tup o.K.symm o.calm (gs_cons (g_name (pg_name (i := 1) nd rfl (by first | exact .inl rfl | exact .inr rfl))) (gs_cons (g_name (pg_name (i := 2) nd rfl (by first | exact .inl rfl | exact .inr rfl))) gs_nil)))) (ns_one (n_ret (n_tup (na_cons (n_tup (na_cons (n_neg (n_var (pv 1))) (na_cons (n_neg (n_var (pv 2))) na_nil))) (na_cons (n_revT o.K (n_ix o.K (n_cal C_fit_stair o.tk (hr.mono (by omega)) (by rfl) (na_cons (n_var (pv 0)) na_nil)) n_int (fun _ _ => rfl))) na_nil))))))
/-! ### laying_shifted -/
abbrev d_laying_shifted : Stmt := tp 40
def b_laying_shifted : Sf :=
  (nRet (nCall gTupL (nCons (nLc (nV (nCallD 1 f_fit_laying [] (nCons (nVar 0) nNil))) (.nm 2) nYes (nCallD 2 f_stair_shifted [] (nCons (nVar 2) (nCons (nVar 1) nNil))) [2]) nNil)))
def f_laying_shifted : List D → N D := nDef 3 b_laying_shifted
theorem sc_laying_shifted : FnScope ["laying", "by", "stair"] ["laying", "by"] (defScope d_laying_shifted) := ⟨rfl, rfl, rfl, by decide +kernel, rfl, by decide +kernel, by decide +kernel⟩
theorem ok_laying_shifted {P : Program} {w : World} {K : PySem.W.Frag} {mg : Str → Option Value} {base : Heap} {f : Addr} {fd : FuncData} {G : Gd} (T : Fx P w K mg G) (F : FunA K "laying_shifted" "laying_shifted" d_laying_shifted f fd)
    (C_fit_laying : CalN P w K mg base G "fit_laying" 14 1 f_fit_laying []) (C_stair_shifted : CalN P w K mg base G "stair_shifted" 15 2 f_stair_shifted []) :
    FnOk P w K mg base (L2.CX P w) 16 f fd ["laying", "by"] (spN G 2 (nDef 3 b_laying_shifted)) :=
  ndef_ok (G := G) F sc_laying_shifted rfl rfl fun cdv A outer s H E hr => by
    have o := okDef (G := G) (mg := mg) (base := base) (N := ["laying", "by", "stair"]) (qual := "laying_shifted") (sc := defScope d_laying_shifted) (outer := outer) (H := H) (E := E) T.hK T.hS hr
    have nd := (sc_laying_shifted).nd
    exact (ns_one (n_ret (n_tuple o (by rfl) T.m_tuple (na_cons (n_lc (.nm 2) o.K rfl (pe_lc (own := [("stair", 2)]) (g := Tgt.tg _ (.nm 2)) o.calm nd (ni_val o.K (n_cal C_fit_laying o.tk (hr.mono (by omega)) (by rfl) (na_cons (n_var (pv 0)) na_nil))) (blkOk_by (N := ["laying", "by", "stair"]) (sc := defScope d_laying_shifted) (by decide +kernel)) (fun _ _ _ _ _ => (pg_name (i := 2) nd rfl (by first | exact .inl rfl | exact .inr rfl))) (fun _ _ _ _ _ => nts_nil) (fun _ _ _ _ _ => (n_cal C_stair_shifted (okBlkN o).tk (hr.mono (by omega)) (by rfl) (na_cons (n_var (pv 2)) (na_cons (n_var (pv 1)) na_nil)))))) na_nil))))
/-! ### laying_mirrored -/
abbrev d_laying_mirrored : Stmt := tp 41
def b_laying_mirrored : Sf :=
  (nRet (nCall gTupL (nCons (nCall gSortedU (nCons (nLc (nV (nCallD 1 f_fit_laying [] (nCons (nVar 0) nNil))) (.nm 1) nYes (nCallD 1 f_stair_mirrored [] (nCons (nVar 1) nNil)) [1]) nNil)) nNil)))
def f_laying_mirrored : List D → N D := nDef 2 b_laying_mirrored
theorem sc_laying_mirrored : FnScope ["laying", "stair"] ["laying"] (defScope d_laying_mirrored) := ⟨rfl, rfl, rfl, by decide +kernel, rfl, by decide +kernel, by decide +kernel⟩
theorem ok_laying_mirrored {P : Program} {w : World} {K : PySem.W.Frag} {mg : Str → Option Value} {base : Heap} {f : Addr} {fd : FuncData} {G : Gd} (T : Fx P w K mg G) (F : FunA K "laying_mirrored" "laying_mirrored" d_laying_mirrored f fd)
    (C_fit_laying : CalN P w K mg base G "fit_laying" 14 1 f_fit_laying []) (C_stair_mirrored : CalN P w K mg base G "stair_mirrored" 15 1 f_stair_mirrored []) :
    FnOk P w K mg base (L2.CX P w) 16 f fd ["laying"] (spN G 1 (nDef 2 b_laying_mirrored)) :=
  ndef_ok (G := G) F sc_laying_mirrored rfl rfl fun cdv A outer s H E hr => by
    have o := okDef (G := G) (mg := mg) (base := base) (N := ["laying", "stair"]) (qual := "laying_mirrored") (sc := defScope d_laying_mirrored) (outer := outer) (H := H) (E := E) T.hK T.hS hr
    have nd := (sc_laying_mirrored).nd
    exact (ns_one (n_ret (n_tuple o (by rfl) T.m_tuple (na_cons (n_sorted o (by rfl) T.m_sorted (na_cons (n_lc (.nm 1) o.K rfl (pe_lc (own := [("stair", 1)]) (g := Tgt.tg _ (.nm 1)) o.calm nd (ni_val o.K (n_cal C_fit_laying o.tk (hr.mono (by omega)) (by rfl) (na_cons (n_var (pv 0)) na_nil))) (blkOk_by (N := ["laying", "stair"]) (sc := defScope d_laying_mirrored) (by decide +kernel)) (fun _ _ _ _ _ => (pg_name (i := 1) nd rfl (by first | exact .inl rfl | exact .inr rfl))) (fun _ _ _ _ _ => nts_nil) (fun _ _ _ _ _ => (n_cal C_stair_mirrored (okBlkN o).tk (hr.mono (by omega)) (by rfl) (na_cons (n_var (pv 1)) na_nil))))) na_nil)) na_nil))))
/-! ### laying_half_turned -/
abbrev d_laying_half_turned : Stmt := tp 42
def b_laying_half_turned : Sf :=
  (nRet (nCall gTupL (nCons (nCall gSortedU (nCons (nLc (nV (nCallD 1 f_fit_laying [] (nCons (nVar 0) nNil))) (.nm 1) nYes (nCallD 1 f_stair_half_turned [] (nCons (nVar 1) nNil)) [1]) nNil)) nNil)))
def f_laying_half_turned : List D → N D := nDef 2 b_laying_half_turned
theorem sc_laying_half_turned : FnScope ["laying", "stair"] ["laying"] (defScope d_laying_half_turned) := ⟨rfl, rfl, rfl, by decide +kernel, rfl, by decide +kernel, by decide +kernel⟩
theorem ok_laying_half_turned {P : Program} {w : World} {K : PySem.W.Frag} {mg : Str → Option Value} {base : Heap} {f : Addr} {fd : FuncData} {G : Gd} (T : Fx P w K mg G) (F : FunA K "laying_half_turned" "laying_half_turned" d_laying_half_turned f fd)
    (C_fit_laying : CalN P w K mg base G "fit_laying" 14 1 f_fit_laying []) (C_stair_half_turned : CalN P w K mg base G "stair_half_turned" 16 1 f_stair_half_turned []) :
    FnOk P w K mg base (L2.CX P w) 17 f fd ["laying"] (spN G 1 (nDef 2 b_laying_half_turned)) :=
  ndef_ok (G := G) F sc_laying_half_turned rfl rfl fun cdv A outer s H E hr => by
    have o := okDef (G := G) (mg := mg) (base := base) (N := ["laying", "stair"]) (qual := "laying_half_turned") (sc := defScope d_laying_half_turned) (outer := outer) (H := H) (E := E) T.hK T.hS hr
    have nd := (sc_laying_half_turned).nd
    exact (ns_one (n_ret (n_tuple o (by rfl) T.m_tuple (na_cons (n_sorted o (by rfl) T.m_sorted (na_cons (n_lc (.nm 1) o.K rfl (pe_lc (own := [("stair", 1)]) (g := Tgt.tg _ (.nm 1)) o.calm nd (ni_val o.K (n_cal C_fit_laying o.tk (hr.mono (by omega)) (by rfl) (na_cons (n_var (pv 0)) na_nil))) (blkOk_by (N := ["laying", "stair"]) (sc := defScope d_laying_half_turned) (by decide +kernel)) (fun _ _ _ _ _ => (pg_name (i := 1) nd rfl (by first | exact .inl rfl | exact .inr rfl))) (fun _ _ _ _ _ => nts_nil) (fun _ _ _ _ _ => (n_cal C_stair_half_turned (okBlkN o).tk (hr.mono (by omega)) (by rfl) (na_cons (n_var (pv 1)) na_nil))))) na_nil)) na_nil))))
/-! ### _from_least -/
abbrev d__from_least : Stmt := tp 44
def b__from_least : Sf :=
  (nSeq (nAsg (nOp gIx (nVar 0) (nC (.int 0))) (gT 2 (gsC (gN 1) (gsC (gN 2) gsN)))) (nRet (nCallD 2 f_shifted [] (nCons (nVar 0) (nCons (nCall mTup (nCons (nUn gNeg (nVar 1)) (nCons (nUn gNeg (nVar 2)) nNil))) nNil)))))
def f__from_least : List D → N D := nDef 3 b__from_least
theorem sc__from_least : FnScope ["floor", "x", "y"] ["floor"] (defScope d__from_least) := ⟨rfl, rfl, rfl, by decide +kernel, rfl, by decide +kernel, by decide +kernel⟩
theorem ok__from_least {P : Program} {w : World} {K : PySem.W.Frag} {mg : Str → Option Value} {base : Heap} {f : Addr} {fd : FuncData} {G : Gd} (T : Fx P w K mg G) (F : FunA K "_from_least" "_from_least" d__from_least f fd)
    (C_shifted : CalN P w K mg base G "shifted" 15 2 f_shifted []) :
    FnOk P w K mg base (L2.CX P w) 16 f fd ["floor"] (spN G 1 (nDef 3 b__from_least)) :=
  ndef_ok (G := G) F sc__from_least rfl rfl fun cdv A outer s H E hr => by
    have o := okDef (G := G) (mg := mg) (base := base) (N := ["floor", "x", "y"]) (qual := "_from_least") (sc := defScope d__from_least) (outer := outer) (H := H) (E := E) T.hK T.hS hr
    have nd := (sc__from_least).nd
    exact (ns_cons (n_asg (n_ix o.K (n_var (pv 0)) n_int (fun _ _ => rfl)) (g_tup o.K.symm o.calm (gs_cons (g_name (pg_name (i := 1) nd rfl (by first | exact .inl rfl | exact .inr rfl))) (gs_cons (g_name (pg_name (i := 2) nd rfl (by first | exact .inl rfl | exact .inr rfl))) gs_nil)))) (ns_one (n_ret (n_cal C_shifted o.tk (hr.mono (by omega)) (by rfl) (na_cons (n_var (pv 0)) (na_cons (n_tup (na_cons (n_neg (n_var (pv 1))) (na_cons (n_neg (n_var (pv 2))) na_nil))) na_nil))))))
/-! ### alike -/
abbrev d_alike : Stmt := tp 43
def b_alike : Sf :=
  (nSeq (nPar2 2 3 (nCons (nCallD 1 f_fit_floor [] (nCons (nVar 0) nNil)) (nCons (nCallD 1 f_fit_floor [] (nCons (nVar 1) nNil)) nNil))) (nSeq (nSet 4 (nCall mLst (nCons (nVar 2) (nCons (nCallD 1 f_mirrored [] (nCons (nVar 2) nNil)) (nCons (nCallD 1 f_half_turned [] (nCons (nVar 2) nNil)) (nCons (nCallD 1 f_half_turned [] (nCons (nCallD 1 f_mirrored [] (nCons (nVar 2) nNil)) nNil)) nNil)))))) (nRet (nOp gInU (nCallD 1 f__from_least [] (nCons (nVar 3) nNil)) (nLc (nV (nVar 4)) (.nm 5) nYes (nCallD 1 f__from_least [] (nCons (nVar 5) nNil)) [5])))))
def f_alike : List D → N D := nDef 6 b_alike
theorem sc_alike : FnScope ["floor", "other", "own", "wanted", "forms", "form"] ["floor", "other"] (defScope d_alike) := ⟨rfl, rfl, rfl, by decide +kernel, rfl, by decide +kernel, by decide +kernel⟩
theorem ok_alike {P : Program} {w : World} {K : PySem.W.Frag} {mg : Str → Option Value} {base : Heap} {f : Addr} {fd : FuncData} {G : Gd} (T : Fx P w K mg G) (F : FunA K "alike" "alike" d_alike f fd)
    (C__from_least : CalN P w K mg base G "_from_least" 16 1 f__from_least []) (C_fit_floor : CalN P w K mg base G "fit_floor" 14 1 f_fit_floor []) (C_half_turned : CalN P w K mg base G "half_turned" 15 1 f_half_turned []) (C_mirrored : CalN P w K mg base G "mirrored" 15 1 f_mirrored []) :
    FnOk P w K mg base (L2.CX P w) 17 f fd ["floor", "other"] (spN G 2 (nDef 6 b_alike)) :=
  ndef_ok (G := G) F sc_alike rfl rfl fun cdv A outer s H E hr => by
    have o := okDef (G := G) (mg := mg) (base := base) (N := ["floor", "other", "own", "wanted", "forms", "form"]) (qual := "alike") (sc := defScope d_alike) (outer := outer) (H := H) (E := E) T.hK T.hS hr
    have nd := (sc_alike).nd
    exact (ns_cons (n_par2 (i := 2) (j := 3) o.calm nd rfl rfl (by decide) rfl rfl (na_cons (n_cal C_fit_floor o.tk (hr.mono (by omega)) (by rfl) (na_cons (n_var (pv 0)) na_nil)) (na_cons (n_cal C_fit_floor o.tk (hr.mono (by omega)) (by rfl) (na_cons (n_var (pv 1)) na_nil)) na_nil)) (by rfl)) (ns_cons (n_set (i := 4) (fun _ h => ps_set nd rfl (by first | exact .inl rfl | exact .inr rfl) h) (n_lst (na_cons (n_var (pv 2)) (na_cons (n_cal C_mirrored o.tk (hr.mono (by omega)) (by rfl) (na_cons (n_var (pv 2)) na_nil)) (na_cons (n_cal C_half_turned o.tk (hr.mono (by omega)) (by rfl) (na_cons (n_var (pv 2)) na_nil)) (na_cons (n_cal C_half_turned o.tk (hr.mono (by omega)) (by rfl) (na_cons (n_cal C_mirrored o.tk (hr.mono (by omega)) (by rfl) (na_cons (n_var (pv 2)) na_nil)) na_nil)) na_nil)))))) (ns_one (n_ret (n_inU o (n_cal C__from_least o.tk (hr.mono (by omega)) (by rfl) (na_cons (n_var (pv 3)) na_nil)) (n_lc (.nm 5) o.K rfl (pe_lc (own := [("form", 5)]) (g := Tgt.tg _ (.nm 5)) o.calm nd (ni_val o.K (n_var (pv 4))) (blkOk_by (N := ["floor", "other", "own", "wanted", "forms", "form"]) (sc := defScope d_alike) (by decide +kernel)) (fun _ _ _ _ _ => (pg_name (i := 5) nd rfl (by first | exact .inl rfl | exact .inr rfl))) (fun _ _ _ _ _ => nts_nil) (fun _ _ _ _ _ => (n_cal C__from_least (okBlkN o).tk (hr.mono (by omega)) (by rfl) (na_cons (n_var (pv 5)) na_nil))))))))))
/-! ### _law_box -/
abbrev d__law_box : Stmt := tp 46
def b__law_box : Sf :=
  (nSeq (nSet 2 (nIfE (nTest (nOp gLt (nVar 1) (nCall gLenU (nCons (nVar 0) nNil)))) (nOp gIx (nVar 0) (nVar 1)) (nC (.int 0)))) (nRet (nCall mLst (nCons (nOp gMulU (nCall gAbs (nCons (nVar 2) nNil)) (nCall gInt (nCons (nOp gGe (nCall gAbs (nCons (nVar 2) nNil)) (nOp gPow (nC (.int 10)) (nC (.int 18)))) nNil))) (nCons (nOp gAdd (nOp gAdd (nOp gMod (nCall gInt (nCons (nVar 2) nNil)) (nC (.int 2305843009213693951))) (nOp gMulU (nC (.int 39373)) (nVar 1))) (nC (.int 3175051))) (nCons (nC (.int 0)) nNil))))))
def f__law_box : List D → N D := nDef 3 b__law_box
theorem sc__law_box : FnScope ["script", "k", "bit_so"] ["script", "k"] (defScope d__law_box) := ⟨rfl, rfl, rfl, by decide +kernel, rfl, by decide +kernel, by decide +kernel⟩
theorem ok__law_box {P : Program} {w : World} {K : PySem.W.Frag} {mg : Str → Option Value} {base : Heap} {f : Addr} {fd : FuncData} {G : Gd} (T : Fx P w K mg G) (F : FunA K "_law_box" "_law_box" d__law_box f fd)
     :
    FnOk P w K mg base (L2.CX P w) 1 f fd ["script", "k"] (spN G 2 (nDef 3 b__law_box)) :=
  ndef_ok (G := G) F sc__law_box rfl rfl fun cdv A outer s H E hr => by
    have o := okDef (G := G) (mg := mg) (base := base) (N := ["script", "k", "bit_so"]) (qual := "_law_box") (sc := defScope d__law_box) (outer := outer) (H := H) (E := E) T.hK T.hS hr
    have nd := (sc__law_box).nd
    exact (ns_cons (n_set (i := 2) (fun _ h => ps_set nd rfl (by first | exact .inl rfl | exact .inr rfl) h) (n_ifExp (nc_lt o (n_var (pv 1)) (n_len o (by rfl) T.m_len (na_cons (n_var (pv 0)) na_nil))) (n_ix o.K (n_var (pv 0)) (n_var (pv 1)) (fun _ _ => rfl)) n_int)) (ns_one (n_ret (n_lst (na_cons (n_mulU o (n_abs o (by rfl) T.m_abs (na_cons (n_var (pv 2)) na_nil)) (n_int1 o (by rfl) T.m_int (na_cons (nv_ge (n_abs o (by rfl) T.m_abs (na_cons (n_var (pv 2)) na_nil)) (n_pow n_int n_int)) na_nil))) (na_cons (n_add o (n_add o (n_mod (n_int1 o (by rfl) T.m_int (na_cons (n_var (pv 2)) na_nil)) n_int) (n_mulU o n_int (n_var (pv 1)))) n_int) (na_cons n_int na_nil)))))))
/-! ### _law_take -/
abbrev d__law_take : Stmt := tp 47
def b__law_take : Sf :=
  (nSeq (nIf (nTest (nOp gGt (nOp gIx (nVar 0) (nC (.int 0))) (nC (.int 0)))) (nSeq (nSet 2 (nOp gMod (nCall gInt (nCons (nOp gIx (nVar 0) (nC (.int 0))) nNil)) (nVar 1))) (nSeq (nAsg (nOp gDiv (nOp gIx (nVar 0) (nC (.int 0))) (nVar 1)) (nSubD (nVar 0) (nC (.int 0)))) (nRet (nVar 2)))) nSkip) (nSeq (nAsg (nOp gAdd (nOp gIx (nVar 0) (nC (.int 2))) (nC (.int 1))) (nSubD (nVar 0) (nC (.int 2)))) (nSeq (nSet 3 (nOp gMod (nCall gInt (nCons (nOp gMulU (nOp gAdd (nOp gIx (nVar 0) (nC (.int 1))) (nOp gMulU (nC (.int 48271)) (nOp gIx (nVar 0) (nC (.int 2))))) (nOp gAdd (nC (.int 39373)) (nOp gIx (nVar 0) (nC (.int 2))))) nNil)) (nC (.int 2147483647)))) (nSeq (nSet 4 (nOp gAdd (nOp gMod (nCall gInt (nCons (nVar 3) nNil)) (nC (.int 40009))) (nC (.int 7)))) (nSeq (nSet 5 (nOp gMod (nCall gInt (nCons (nOp gMulU (nOp gAdd (nOp gAdd (nVar 3) (nOp gIx (nVar 0) (nC (.int 2)))) (nOp gDiv (nOp gIx (nVar 0) (nC (.int 1))) (nC (.int 1000003)))) (nVar 4)) nNil)) (nC (.int 2147483629)))) (nRet (nOp gMod (nCall gInt (nCons (nOp gDiv (nOp gMod (nCall gInt (nCons (nOp gAdd (nOp gMulU (nVar 5) (nC (.int 48271))) (nVar 3)) nNil)) (nC (.int 2147483587))) (nC (.int 64))) nNil)) (nVar 1))))))))
def f__law_take : List D → N D := nDef 6 b__law_take
theorem sc__law_take : FnScope ["tin", "below_so", "drawn", "once_so", "wide_so", "twice_so"] ["tin", "below_so"] (defScope d__law_take) := ⟨rfl, rfl, rfl, by decide +kernel, rfl, by decide +kernel, by decide +kernel⟩
theorem ok__law_take {P : Program} {w : World} {K : PySem.W.Frag} {mg : Str → Option Value} {base : Heap} {f : Addr} {fd : FuncData} {G : Gd} (T : Fx P w K mg G) (F : FunA K "_law_take" "_law_take" d__law_take f fd)
     :
    FnOk P w K mg base (L2.CX P w) 1 f fd ["tin", "below_so"] (spN G 2 (nDef 6 b__law_take)) :=
  ndef_ok (G := G) F sc__law_take rfl rfl fun cdv A outer s H E hr => by
    have o := okDef (G := G) (mg := mg) (base := base) (N := ["tin", "below_so", "drawn", "once_so", "wide_so", "twice_so"]) (qual := "_law_take") (sc := defScope d__law_take) (outer := outer) (H := H) (E := E) T.hK T.hS hr
    have nd := (sc__law_take).nd
    exact (ns_cons (n_if (nc_gt (n_ix o.K (n_var (pv 0)) n_int (fun _ _ => rfl)) n_int) (ns_cons (n_set (i := 2) (fun _ h => ps_set nd rfl (by first | exact .inl rfl | exact .inr rfl) h) (n_mod (n_int1 o (by rfl) T.m_int (na_cons (n_ix o.K (n_var (pv 0)) n_int (fun _ _ => rfl)) na_nil)) (n_var (pv 1)))) (ns_cons (n_asg (n_div (n_ix o.K (n_var (pv 0)) n_int (fun _ _ => rfl)) (n_var (pv 1))) (ng_subo o (n_var (pv 0)) n_int)) (ns_one (n_ret (n_var (pv 2)))))) ns_nil) (ns_cons (n_asg (n_add o (n_ix o.K (n_var (pv 0)) n_int (fun _ _ => rfl)) n_int) (ng_subo o (n_var (pv 0)) n_int)) (ns_cons (n_set (i := 3) (fun _ h => ps_set nd rfl (by first | exact .inl rfl | exact .inr rfl) h) (n_mod (n_int1 o (by rfl) T.m_int (na_cons (n_mulU o (n_add o (n_ix o.K (n_var (pv 0)) n_int (fun _ _ => rfl)) (n_mulU o n_int (n_ix o.K (n_var (pv 0)) n_int (fun _ _ => rfl)))) (n_add o n_int (n_ix o.K (n_var (pv 0)) n_int (fun _ _ => rfl)))) na_nil)) n_int)) (ns_cons (n_set (i := 4) (fun _ h => ps_set nd rfl (by first | exact .inl rfl | exact .inr rfl) h) (n_add o (n_mod (n_int1 o (by rfl) T.m_int (na_cons (n_var (pv 3)) na_nil)) n_int) n_int)) (ns_cons (n_set (i := 5) (fun _ h => ps_set nd rfl (by first | exact .inl rfl | exact .inr rfl) h) (n_mod (n_int1 o (by rfl) T.m_int (na_cons (n_mulU o (n_add o (n_add o (n_var (pv 3)) (n_ix o.K (n_var (pv 0)) n_int (fun _ _ => rfl))) (n_div (n_ix o.K (n_var (pv 0)) n_int (fun _ _ => rfl)) n_int)) (n_var (pv 4))) na_nil)) n_int)) (ns_one (n_ret (n_mod (n_int1 o (by rfl) T.m_int (na_cons (n_div (n_mod (n_int1 o (by rfl) T.m_int (na_cons (n_add o (n_mulU o (n_var (pv 5)) n_int) (n_var (pv 3))) na_nil)) n_int) n_int) na_nil)) (n_var (pv 1))))))))))
/-! ### _law_cells -/
abbrev d__law_cells : Stmt := tp 48
def b__law_cells : Sf :=
  (nSeq (nSet 2 (nOrT (nCall gList (nCons (nSl (nVar 0) nNoP (nP (nVar 1))) nNil)) (nCall mLst (nCons (nC (.int 0)) nNil)))) (nSeq (nFor (nEnum (nCons (nSl (nVar 0) (nP (nVar 1)) (nP (nC (.int 63)))) nNil)) (gT 2 (gsC (gN 3) (gsC (gN 4) gsN))) (nSeq (nSet 5 (nOp gMod (nCall gInt (nCons (nVar 3) nNil)) (nVar 1))) (nAsg (nOp gAdd (nOp gIx (nVar 2) (nVar 5)) (nOp gMulU (nVar 4) (nOp gAdd (nVar 3) (nC (.int 2))))) (nSubD (nVar 2) (nVar 5))))) (nRet (nVar 2))))
def f__law_cells : List D → N D := nDef 6 b__law_cells
theorem sc__law_cells : FnScope ["script", "most_so", "cells_so", "k", "bit_so", "at_so"] ["script", "most_so"] (defScope d__law_cells) := ⟨rfl, rfl, rfl, by decide +kernel, rfl, by decide +kernel, by decide +kernel⟩
theorem ok__law_cells {P : Program} {w : World} {K : PySem.W.Frag} {mg : Str → Option Value} {base : Heap} {f : Addr} {fd : FuncData} {G : Gd} (T : Fx P w K mg G) (F : FunA K "_law_cells" "_law_cells" d__law_cells f fd)
     :
    FnOk P w K mg base (L2.CX P w) 1 f fd ["script", "most_so"] (spN G 2 (nDef 6 b__law_cells)) :=
  ndef_ok (G := G) F sc__law_cells rfl rfl fun cdv A outer s H E hr => by
    have o := okDef (G := G) (mg := mg) (base := base) (N := ["script", "most_so", "cells_so", "k", "bit_so", "at_so"]) (qual := "_law_cells") (sc := defScope d__law_cells) (outer := outer) (H := H) (E := E) T.hK T.hS hr
    have nd := (sc__law_cells).nd
    exact (ns_cons (n_set (i := 2) (fun _ h => ps_set nd rfl (by first | exact .inl rfl | exact .inr rfl) h) (n_orT o.K (n_list o (by rfl) T.m_list (na_cons (n_slice o.K (n_var (pv 0)) np_no (np_some (n_var (pv 1)))) na_nil)) (n_one (n_lst (na_cons n_int na_nil))))) (ns_cons (n_for o.po o.calm (ni_enum o.K (by rfl) T.m_enumerate (na_cons (n_slice o.K (n_var (pv 0)) (np_some (n_var (pv 1))) (np_some n_int)) na_nil)) (g_tup o.K.symm o.calm (gs_cons (g_name (pg_name (i := 3) nd rfl (by first | exact .inl rfl | exact .inr rfl))) (gs_cons (g_name (pg_name (i := 4) nd rfl (by first | exact .inl rfl | exact .inr rfl))) gs_nil))) (ns_cons (n_set (i := 5) (fun _ h => ps_set nd rfl (by first | exact .inl rfl | exact .inr rfl) h) (n_mod (n_int1 o (by rfl) T.m_int (na_cons (n_var (pv 3)) na_nil)) (n_var (pv 1)))) (ns_one (n_asg (n_add o (n_ix o.K (n_var (pv 2)) (n_var (pv 5)) (fun _ _ => rfl)) (n_mulU o (n_var (pv 4)) (n_add o (n_var (pv 3)) n_int))) (ng_subo o (n_var (pv 2)) (n_var (pv 5))))))) (ns_one (n_ret (n_var (pv 2))))))
/-! ### _law_lists -/
abbrev d__law_lists : Stmt := tp 49
def b__law_lists (rec : List D → N D) : Sf :=
  (nRet (nIfE (nTest (nCall gIsi (nCons (nVar 0) (nCons (nCall mTup (nCons (nC (.ty "list")) (nCons (nC (.ty "tuple")) nNil))) nNil)))) (nLc (nV (nVar 0)) (.nm 1) nYes (nCallD 1 rec [] (nCons (nVar 1) nNil)) [1]) (nVar 0)))
def f__law_lists : Nat → List D → N D
  | 0 => fun _ _ => .no
  | n + 1 => nDef 2 (b__law_lists (f__law_lists n))
theorem sc__law_lists : FnScope ["matter", "bit"] ["matter"] (defScope d__law_lists) := ⟨rfl, rfl, rfl, by decide +kernel, rfl, by decide +kernel, by decide +kernel⟩
theorem ok__law_lists {P : Program} {w : World} {K : PySem.W.Frag} {mg : Str → Option Value} {base : Heap} {f : Addr} {fd : FuncData} {G : Gd} (T : Fx P w K mg G) (F : FunA K "_law_lists" "_law_lists" d__law_lists f fd) {k : Nat} {rec : List D → N D}
    (C__law_lists : CalN P w K mg base G "_law_lists" k 1 rec []) :
    FnOk P w K mg base (L2.CX P w) (k + 1) f fd ["matter"] (spN G 1 (nDef 2 (b__law_lists rec))) :=
  ndef_ok (G := G) F sc__law_lists rfl rfl fun cdv A outer s H E hr => by
    have o := okDef (G := G) (mg := mg) (base := base) (N := ["matter", "bit"]) (qual := "_law_lists") (sc := defScope d__law_lists) (outer := outer) (H := H) (E := E) T.hK T.hS hr
    have nd := (sc__law_lists).nd
    exact (ns_one (n_ret (n_ifExp (nt_of (n_isi o (by rfl) T.m_isinstance (na_cons (n_var (pv 0)) (na_cons (n_tup (na_cons (n_tyn (T := "list") (by rfl) T.m_list (by decide +kernel)) (na_cons (n_tyn (T := "tuple") (by rfl) T.m_tuple (by decide +kernel)) na_nil))) na_nil)))) (n_lc (.nm 1) o.K rfl (pe_lc (own := [("bit", 1)]) (g := Tgt.tg _ (.nm 1)) o.calm nd (ni_val o.K (n_var (pv 0))) (blkOk_by (N := ["matter", "bit"]) (sc := defScope d__law_lists) (by decide +kernel)) (fun _ _ _ _ _ => (pg_name (i := 1) nd rfl (by first | exact .inl rfl | exact .inr rfl))) (fun _ _ _ _ _ => nts_nil) (fun _ _ _ _ _ => (n_cal C__law_lists (okBlkN o).tk (hr.mono (by omega)) (by rfl) (na_cons (n_var (pv 1)) na_nil))))) (n_var (pv 0)))))
/-! ### _law_same -/
abbrev d__law_same : Stmt := tp 50
def b__law_same (rec : List D → N D) : Sf :=
  (nSeq (nIf (nTest (nCall gIsi (nCons (nVar 1) (nCons (nCall mTup (nCons (nC (.ty "list")) (nCons (nC (.ty "tuple")) nNil))) nNil)))) (nSeq (nIf (nOr (nTest (nOp (eqG false) (nCall gIsi (nCons (nVar 0) (nCons (nC (.ty "list")) nNil))) (nCall gIsi (nCons (nVar 1) (nCons (nC (.ty "list")) nNil))))) (nTest (nOp (eqG false) (nCall gIsi (nCons (nVar 0) (nCons (nC (.ty "tuple")) nNil))) (nCall gIsi (nCons (nVar 1) (nCons (nC (.ty "tuple")) nNil)))))) (nRet (nC (.bl false))) nSkip) (nRet (nAndV (nOp (eqG true) (nCall gLenU (nCons (nVar 0) nNil)) (nCall gLenU (nCons (nVar 1) nNil))) (nCall gAll (nCons (nLc (nZip (nCons (nVar 0) (nCons (nVar 1) nNil))) (.tp [(.nm 2), (.nm 3)]) nYes (nCallD 2 rec [] (nCons (nVar 2) (nCons (nVar 3) nNil))) [2, 3]) nNil))))) nSkip) (nSeq (nIf (nOr (nTest (nOp (gIsN false) (nVar 1) (nC .non))) (nTest (nCall gIsi (nCons (nVar 1) (nCons (nCall mTup (nCons (nC (.ty "bool")) (nCons (nC (.ty "str")) nNil))) nNil))))) (nRet (nAndV (nOp (eqG true) (nVar 0) (nVar 1)) (nAndV (nOp (eqG true) (nCall gIsi (nCons (nVar 0) (nCons (nC (.ty "bool")) nNil))) (nCall gIsi (nCons (nVar 1) (nCons (nC (.ty "bool")) nNil)))) (nOp (eqG true) (nOp (gIsN false) (nVar 0) (nC .non)) (nOp (gIsN false) (nVar 1) (nC .non)))))) nSkip) (nRet (nAndV (nCall gIsi (nCons (nVar 0) (nCons (nC (.ty "int")) nNil))) (nAndV (nNotV (nCall gIsi (nCons (nVar 0) (nCons (nC (.ty "bool")) nNil)))) (nOp (eqG true) (nVar 0) (nVar 1)))))))
def f__law_same : Nat → List D → N D
  | 0 => fun _ _ => .no
  | n + 1 => nDef 4 (b__law_same (f__law_same n))
theorem sc__law_same : FnScope ["got", "due", "mine", "its"] ["got", "due"] (defScope d__law_same) := ⟨rfl, rfl, rfl, by decide +kernel, rfl, by decide +kernel, by decide +kernel⟩
theorem ok__law_same {P : Program} {w : World} {K : PySem.W.Frag} {mg : Str → Option Value} {base : Heap} {f : Addr} {fd : FuncData} {G : Gd} (T : Fx P w K mg G) (F : FunA K "_law_same" "_law_same" d__law_same f fd) {k : Nat} {rec : List D → N D}
    (C__law_same : CalN P w K mg base G "_law_same" k 2 rec []) :
    FnOk P w K mg base (L2.CX P w) (k + 1) f fd ["got", "due"] (spN G 2 (nDef 4 (b__law_same rec))) :=
  ndef_ok (G := G) F sc__law_same rfl rfl fun cdv A outer s H E hr => by
    have o := okDef (G := G) (mg := mg) (base := base) (N := ["got", "due", "mine", "its"]) (qual := "_law_same") (sc := defScope d__law_same) (outer := outer) (H := H) (E := E) T.hK T.hS hr
    have nd := (sc__law_same).nd
    exact (ns_cons (n_if (nt_of (n_isi o (by rfl) T.m_isinstance (na_cons (n_var (pv 1)) (na_cons (n_tup (na_cons (n_tyn (T := "list") (by rfl) T.m_list (by decide +kernel)) (na_cons (n_tyn (T := "tuple") (by rfl) T.m_tuple (by decide +kernel)) na_nil))) na_nil)))) (ns_cons (n_if (PW.pt (nw_or (nc_ne o (n_isi o (by rfl) T.m_isinstance (na_cons (n_var (pv 0)) (na_cons (n_tyn (T := "list") (by rfl) T.m_list (by decide +kernel)) na_nil))) (n_isi o (by rfl) T.m_isinstance (na_cons (n_var (pv 1)) (na_cons (n_tyn (T := "list") (by rfl) T.m_list (by decide +kernel)) na_nil)))) (nw_or1 (nc_ne o (n_isi o (by rfl) T.m_isinstance (na_cons (n_var (pv 0)) (na_cons (n_tyn (T := "tuple") (by rfl) T.m_tuple (by decide +kernel)) na_nil))) (n_isi o (by rfl) T.m_isinstance (na_cons (n_var (pv 1)) (na_cons (n_tyn (T := "tuple") (by rfl) T.m_tuple (by decide +kernel)) na_nil))))))) (ns_one (n_ret n_bl)) ns_nil) (ns_one (n_ret (n_and (nv_eq o (n_len o (by rfl) T.m_len (na_cons (n_var (pv 0)) na_nil)) (n_len o (by rfl) T.m_len (na_cons (n_var (pv 1)) na_nil))) (n_one (n_all o (by rfl) T.m_all (na_cons (n_lc (.tp [(.nm 2), (.nm 3)]) o.K rfl (pe_lc (own := [("mine", 2), ("its", 3)]) (g := Tgt.tg _ (.tp [(.nm 2), (.nm 3)])) o.calm nd (ni_zip o.K (by rfl) T.m_zip (na_cons (n_var (pv 0)) (na_cons (n_var (pv 1)) na_nil))) (blkOk_by (N := ["got", "due", "mine", "its"]) (sc := defScope d__law_same) (by decide +kernel)) (fun _ _ _ _ _ => (pg_tup (okBlkN o).calm (pgs_cons (pg_name (i := 2) nd rfl (by first | exact .inl rfl | exact .inr rfl)) (pgs_cons (pg_name (i := 3) nd rfl (by first | exact .inl rfl | exact .inr rfl)) pgs_nil)))) (fun _ _ _ _ _ => nts_nil) (fun _ _ _ _ _ => (n_cal C__law_same (okBlkN o).tk (hr.mono (by omega)) (by rfl) (na_cons (n_var (pv 2)) (na_cons (n_var (pv 3)) na_nil)))))) na_nil))))))) ns_nil) (ns_cons (n_if (PW.pt (nw_or (nc_isN (n_var (pv 1)) n_non) (nw_or1 (nt_of (n_isi o (by rfl) T.m_isinstance (na_cons (n_var (pv 1)) (na_cons (n_tup (na_cons (n_tyn (T := "bool") (by rfl) T.m_bool (by decide +kernel)) (na_cons (n_tyn (T := "str") (by rfl) T.m_str (by decide +kernel)) na_nil))) na_nil))))))) (ns_one (n_ret (n_and (nv_eq o (n_var (pv 0)) (n_var (pv 1))) (n_and (nv_eq o (n_isi o (by rfl) T.m_isinstance (na_cons (n_var (pv 0)) (na_cons (n_tyn (T := "bool") (by rfl) T.m_bool (by decide +kernel)) na_nil))) (n_isi o (by rfl) T.m_isinstance (na_cons (n_var (pv 1)) (na_cons (n_tyn (T := "bool") (by rfl) T.m_bool (by decide +kernel)) na_nil)))) (n_one (nv_eq o (nv_isN (n_var (pv 0)) n_non) (nv_isN (n_var (pv 1)) n_non))))))) ns_nil) (ns_one (n_ret (n_and (n_isi o (by rfl) T.m_isinstance (na_cons (n_var (pv 0)) (na_cons (n_tyn (T := "int") (by rfl) T.m_int (by decide +kernel)) na_nil))) (n_and (n_not (n_isi o (by rfl) T.m_isinstance (na_cons (n_var (pv 0)) (na_cons (n_tyn (T := "bool") (by rfl) T.m_bool (by decide +kernel)) na_nil)))) (n_one (nv_eq o (n_var (pv 0)) (n_var (pv 1))))))))))
/-! ### _law_oblong -/
abbrev d__law_oblong : Stmt := tp 51
def b__law_oblong : Sf :=
  (nSeq (nSet 2 (nCall mLst nNil)) (nSeq (nFor (nRange (nCons (nVar 0) nNil)) (gN 3) (nSet 2 (nOp gAdd (nVar 2) (nLc (nRange (nCons (nVar 1) nNil)) (.nm 4) nYes (nCall mTup (nCons (nVar 3) (nCons (nVar 4) nNil))) [4])))) (nRet (nCall gTupL (nCons (nVar 2) nNil)))))
def f__law_oblong : List D → N D := nDef 5 b__law_oblong
theorem sc__law_oblong : FnScope ["wide_so", "high_so", "found", "x", "y"] ["wide_so", "high_so"] (defScope d__law_oblong) := ⟨rfl, rfl, rfl, by decide +kernel, rfl, by decide +kernel, by decide +kernel⟩
theorem ok__law_oblong {P : Program} {w : World} {K : PySem.W.Frag} {mg : Str → Option Value} {base : Heap} {f : Addr} {fd : FuncData} {G : Gd} (T : Fx P w K mg G) (F : FunA K "_law_oblong" "_law_oblong" d__law_oblong f fd)
     :
    FnOk P w K mg base (L2.CX P w) 1 f fd ["wide_so", "high_so"] (spN G 2 (nDef 5 b__law_oblong)) :=
  ndef_ok (G := G) F sc__law_oblong rfl rfl fun cdv A outer s H E hr => by
    have o := okDef (G := G) (mg := mg) (base := base) (N := ["wide_so", "high_so", "found", "x", "y"]) (qual := "_law_oblong") (sc := defScope d__law_oblong) (outer := outer) (H := H) (E := E) T.hK T.hS hr
    have nd := (sc__law_oblong).nd
    exact (ns_cons (n_set (i := 2) (fun _ h => ps_set nd rfl (by first | exact .inl rfl | exact .inr rfl) h) (n_lst na_nil)) (ns_cons (n_for o.po o.calm (ni_range1 (by rfl) T.m_range (n_var (pv 0))) (g_name (pg_name (i := 3) nd rfl (by first | exact .inl rfl | exact .inr rfl))) (ns_one (n_set (i := 2) (fun _ h => ps_set nd rfl (by first | exact .inl rfl | exact .inr rfl) h) (n_add o (n_var (pv 2)) (n_lc (.nm 4) o.K rfl (pe_lc (own := [("y", 4)]) (g := Tgt.tg _ (.nm 4)) o.calm nd (ni_range1 (by rfl) T.m_range (n_var (pv 1))) (blkOk_by (N := ["wide_so", "high_so", "found", "x", "y"]) (sc := defScope d__law_oblong) (by decide +kernel)) (fun _ _ _ _ _ => (pg_name (i := 4) nd rfl (by first | exact .inl rfl | exact .inr rfl))) (fun _ _ _ _ _ => nts_nil) (fun _ _ _ _ _ => (n_tup (na_cons (n_var (pv 3)) (na_cons (n_var (pv 4)) na_nil)))))))))) (ns_one (n_ret (n_tuple o (by rfl) T.m_tuple (na_cons (n_var (pv 2)) na_nil))))))
/-! ### _law_corner -/
abbrev d__law_corner : Stmt := tp 52
def b__law_corner : Sf :=
  (nRet (nCall mTup (nCons (nCall mTup (nCons (nC (.int 0)) (nCons (nC (.int 0)) nNil))) (nCons (nCall mTup (nCons (nC (.int 0)) (nCons (nC (.int 1)) nNil))) (nCons (nCall mTup (nCons (nC (.int 1)) (nCons (nC (.int 0)) nNil))) nNil)))))
def f__law_corner : List D → N D := nDef 0 b__law_corner
theorem sc__law_corner : FnScope [] [] (defScope d__law_corner) := ⟨rfl, rfl, rfl, by decide +kernel, rfl, by decide +kernel, by decide +kernel⟩
theorem ok__law_corner {P : Program} {w : World} {K : PySem.W.Frag} {mg : Str → Option Value} {base : Heap} {f : Addr} {fd : FuncData} {G : Gd} (T : Fx P w K mg G) (F : FunA K "_law_corner" "_law_corner" d__law_corner f fd)
     :
    FnOk P w K mg base (L2.CX P w) 1 f fd [] (spN G 0 (nDef 0 b__law_corner)) :=
  ndef_ok (G := G) F sc__law_corner rfl rfl fun cdv A outer s H E hr => by
    have o := okDef (G := G) (mg := mg) (base := base) (N := []) (qual := "_law_corner") (sc := defScope d__law_corner) (outer := outer) (H := H) (E := E) T.hK T.hS hr
    have nd := (sc__law_corner).nd
    exact (ns_one (n_ret (n_tup (na_cons (n_tup (na_cons n_int (na_cons n_int na_nil))) (na_cons (n_tup (na_cons n_int (na_cons n_int na_nil))) (na_cons (n_tup (na_cons n_int (na_cons n_int na_nil))) na_nil))))))
/-! ### _law_cup -/
abbrev d__law_cup : Stmt := tp 53
def b__law_cup : Sf :=
  (nRet (nCall mTup (nCons (nCall mTup (nCons (nC (.int 0)) (nCons (nC (.int 0)) nNil))) (nCons (nCall mTup (nCons (nC (.int 0)) (nCons (nC (.int 1)) nNil))) (nCons (nCall mTup (nCons (nC (.int 0)) (nCons (nC (.int 2)) nNil))) (nCons (nCall mTup (nCons (nC (.int 1)) (nCons (nC (.int 0)) nNil))) (nCons (nCall mTup (nCons (nC (.int 2)) (nCons (nC (.int 0)) nNil))) (nCons (nCall mTup (nCons (nC (.int 2)) (nCons (nC (.int 1)) nNil))) nNil))))))))
def f__law_cup : List D → N D := nDef 0 b__law_cup
theorem sc__law_cup : FnScope [] [] (defScope d__law_cup) := ⟨rfl, rfl, rfl, by decide +kernel, rfl, by decide +kernel, by decide +kernel⟩
theorem ok__law_cup {P : Program} {w : World} {K : PySem.W.Frag} {mg : Str → Option Value} {base : Heap} {f : Addr} {fd : FuncData} {G : Gd} (T : Fx P w K mg G) (F : FunA K "_law_cup" "_law_cup" d__law_cup f fd)
     :
    FnOk P w K mg base (L2.CX P w) 1 f fd [] (spN G 0 (nDef 0 b__law_cup)) :=
  ndef_ok (G := G) F sc__law_cup rfl rfl fun cdv A outer s H E hr => by
    have o := okDef (G := G) (mg := mg) (base := base) (N := []) (qual := "_law_cup") (sc := defScope d__law_cup) (outer := outer) (H := H) (E := E) T.hK T.hS hr
    have nd := (sc__law_cup).nd
    exact (ns_one (n_ret (n_tup (na_cons (n_tup (na_cons n_int (na_cons n_int na_nil))) (na_cons (n_tup (na_cons n_int (na_cons n_int na_nil))) (na_cons (n_tup (na_cons n_int (na_cons n_int na_nil))) (na_cons (n_tup (na_cons n_int (na_cons n_int na_nil))) (na_cons (n_tup (na_cons n_int (na_cons n_int na_nil))) (na_cons (n_tup (na_cons n_int (na_cons n_int na_nil))) na_nil)))))))))
def tabV : Tab := [(0, 1, f_span), (1, 1, f_borders), (2, 1, f_mirrored), (3, 1, f_half_turned), (4, 1, f_stair_mirrored), (5, 1, f_stair_half_turned), (6, 2, f_diagonal), (7, 2, f_can_grow), (8, 2, f_grown), (9, 2, f_shrunk), (10, 2, f_shifted), (11, 2, f_alike), (12, 2, f_stair_shifted), (13, 2, f_laying_shifted), (14, 1, f_laying_mirrored), (15, 1, f_laying_half_turned)]
/-! ### _law_heard -/
abbrev d__law_heard : Stmt := tp 54
def b__law_heard : Sf :=
  (nSeq (nSet 3 (nCall mTup (nCons (nC (.ref 0)) (nCons (nC (.ref 1)) (nCons (nC (.ref 2)) (nCons (nC (.ref 3)) (nCons (nC (.ref 4)) (nCons (nC (.ref 5)) nNil)))))))) (nSeq (nSet 3 (nOp gAdd (nVar 3) (nCall mTup (nCons (nC (.ref 14)) (nCons (nC (.ref 15)) nNil))))) (nSeq (nSet 4 (nCall mTup (nCons (nC (.ref 6)) (nCons (nC (.ref 7)) (nCons (nC (.ref 8)) (nCons (nC (.ref 9)) (nCons (nC (.ref 10)) (nCons (nC (.ref 11)) (nCons (nC (.ref 12)) (nCons (nC (.ref 13)) nNil)))))))))) (nTry 2 (nRet (nIfE (nTest (nOp gLt (nVar 0) (nC (.int 8)))) (nCallV tabV (nOp gIx (nVar 3) (nVar 0)) (nCons (nVar 1) nNil)) (nCallV tabV (nOp gIx (nVar 4) (nOp gSub (nVar 0) (nC (.int 8)))) (nCons (nVar 1) (nCons (nVar 2) nNil))))) [(0, (some 5), (sxRet [(fun _ => some (.str "cell")), (fldX "cell"), (fun _ => some (.bl true))])), (1, (some 5), (sxRet [(fun _ => some (.str "unfit")), (fun _ => some (.bl true))]))]))))
def f__law_heard : List D → N D := nDef 6 b__law_heard
theorem sc__law_heard : FnScope ["door", "one", "two", "ones_so", "twos_so", "error"] ["door", "one", "two"] (defScope d__law_heard) := ⟨rfl, rfl, rfl, by decide +kernel, rfl, by decide +kernel, by decide +kernel⟩
theorem ok__law_heard {P : Program} {w : World} {K : PySem.W.Frag} {mg : Str → Option Value} {base : Heap} {f : Addr} {fd : FuncData} {G : Gd} (T : Fx P w K mg G) (F : FunA K "_law_heard" "_law_heard" d__law_heard f fd)
    (V : ∀ i n g, Tab.at tabV i = some (n, g) → Nonempty (CalV P w K mg base G 17 i n g)) :
    FnOk P w K mg base (L2.CX P w) 18 f fd ["door", "one", "two"] (spN G 3 (nDef 6 b__law_heard)) :=
  ndef_ok (G := G) F sc__law_heard rfl rfl fun cdv A outer s H E hr => by
    have o := okDef (G := G) (mg := mg) (base := base) (N := ["door", "one", "two", "ones_so", "twos_so", "error"]) (qual := "_law_heard") (sc := defScope d__law_heard) (outer := outer) (H := H) (E := E) T.hK T.hS hr
    have nd := (sc__law_heard).nd
    exact (ns_cons (n_set (i := 3) (fun _ h => ps_set nd rfl (by first | exact .inl rfl | exact .inr rfl) h) (n_tup (na_cons (n_fnv T.v_span (by rfl)) (na_cons (n_fnv T.v_borders (by rfl)) (na_cons (n_fnv T.v_mirrored (by rfl)) (na_cons (n_fnv T.v_half_turned (by rfl)) (na_cons (n_fnv T.v_stair_mirrored (by rfl)) (na_cons (n_fnv T.v_stair_half_turned (by rfl)) na_nil)))))))) (ns_cons (n_set (i := 3) (fun _ h => ps_set nd rfl (by first | exact .inl rfl | exact .inr rfl) h) (n_add o (n_var (pv 3)) (n_tup (na_cons (n_fnv T.v_laying_mirrored (by rfl)) (na_cons (n_fnv T.v_laying_half_turned (by rfl)) na_nil))))) (ns_cons (n_set (i := 4) (fun _ h => ps_set nd rfl (by first | exact .inl rfl | exact .inr rfl) h) (n_tup (na_cons (n_fnv T.v_diagonal (by rfl)) (na_cons (n_fnv T.v_can_grow (by rfl)) (na_cons (n_fnv T.v_grown (by rfl)) (na_cons (n_fnv T.v_shrunk (by rfl)) (na_cons (n_fnv T.v_shifted (by rfl)) (na_cons (n_fnv T.v_alike (by rfl)) (na_cons (n_fnv T.v_stair_shifted (by rfl)) (na_cons (n_fnv T.v_laying_shifted (by rfl)) na_nil)))))))))) (ns_one (n_try 2 o rfl rfl nd (fun k c h1 h2 => T.exm k c h1 (memlt (l := [0, 1]) rfl h2)) (fun W' pn xe o2 => (ns_one (n_ret (n_ifExp (nc_lt o2 (n_var (pv 0)) n_int) (n_calv V o2.tk (hr.mono (by omega)) (n_ix o2.K (n_var (pv 3)) (n_var (pv 0)) (fun _ _ => rfl)) (na_cons (n_var (pv 1)) na_nil)) (n_calv V o2.tk (hr.mono (by omega)) (n_ix o2.K (n_var (pv 4)) (n_sub (n_var (pv 0)) n_int) (fun _ _ => rfl)) (na_cons (n_var (pv 1)) (na_cons (n_var (pv 2)) na_nil))))))) (HdN.as ⟨by rfl, by decide, .inl T.x_NoCell.g⟩ rfl rfl (sx_ret (fun a oe cls d pn hz hf => (xa_cons (x_c (y := .str "cell") pe_str rfl) (xa_cons (x_fld T.x_NoCell.xf T.x_NoCell.no hz hf (pv 5)) (xa_cons (x_isi T.x_NoCell.ec T.kit_NoCell_LookupError (by rfl) T.m_isinstance (by decide +kernel) (by rfl) T.m_LookupError (by decide +kernel) hz hf (pv 5)) xa_nil))))) (HdN.as ⟨by rfl, by decide, .inl T.x_Unfit.g⟩ rfl rfl (sx_ret (fun a oe cls d pn hz hf => (xa_cons (x_c (y := .str "unfit") pe_str rfl) (xa_cons (x_isi T.x_Unfit.ec T.kit_Unfit_ValueError (by rfl) T.m_isinstance (by decide +kernel) (by rfl) T.m_ValueError (by decide +kernel) hz hf (pv 5)) xa_nil)))) HdN.nil)))))))
/-! ### _law_always_right -/
abbrev d__law_always_right : Stmt := tp 55
def b__law_always_right : Sf :=
  (nSeq (nPar2 0 1 (nCons (nCallD 0 f__law_cup [] nNil) (nCons (nCallD 0 f__law_corner [] nNil) nNil))) (nSeq (nSet 2 (nCall mLst (nCons (nCallD 1 f_span [] (nCons (nVar 0) nNil)) (nCons (nCallD 1 f_borders [] (nCons (nCall mTup (nCons (nCall mTup (nCons (nC (.int 0)) (nCons (nC (.int 0)) nNil))) nNil)) nNil)) (nCons (nCallD 2 f_diagonal [] (nCons (nVar 0) (nCons (nC (.int 2)) nNil))) (nCons (nCallD 1 f_mirrored [] (nCons (nVar 0) nNil)) (nCons (nCallD 1 f_half_turned [] (nCons (nVar 1) nNil)) nNil))))))) (nSeq (nSet 2 (nOp gAdd (nVar 2) (nCall mLst (nCons (nCallD 2 f_shifted [] (nCons (nVar 1) (nCons (nCall mTup (nCons (nUn gNeg (nC (.int 1))) (nCons (nC (.int 4)) nNil))) nNil))) nNil)))) (nSeq (nSet 3 (nCall mLst (nCons (nCall mTup (nCons (nC (.int 0)) (nCons (nC (.int 3)) nNil))) (nCons (nCall mTup (nCons (nCall mTup (nCons (nUn gNeg (nC (.int 1))) (nCons (nC (.int 0)) nNil))) (nCons (nCall mTup (nCons (nC (.int 0)) (nCons (nUn gNeg (nC (.int 1))) nNil))) (nCons (nCall mTup (nCons (nC (.int 0)) (nCons (nC (.int 1)) nNil))) (nCons (nCall mTup (nCons (nC (.int 1)) (nCons (nC (.int 0)) nNil))) nNil))))) (nCons (nCall mTup (nCons (nCall mTup (nCons (nC (.int 0)) (nCons (nC (.int 2)) nNil))) (nCons (nCall mTup (nCons (nC (.int 2)) (nCons (nC (.int 0)) nNil))) nNil))) nNil))))) (nSeq (nSet 3 (nOp gAdd (nVar 3) (nCall mLst (nCons (nCall mTup (nCons (nCall mTup (nCons (nC (.int 0)) (nCons (nC (.int 0)) nNil))) (nCons (nCall mTup (nCons (nC (.int 0)) (nCons (nC (.int 1)) nNil))) (nCons (nCall mTup (nCons (nC (.int 0)) (nCons (nC (.int 2)) nNil))) (nCons (nCall mTup (nCons (nC (.int 1)) (nCons (nC (.int 0)) nNil))) (nCons (nCall mTup (nCons (nC (.int 1)) (nCons (nC (.int 2)) nNil))) (nCons (nCall mTup (nCons (nC (.int 2)) (nCons (nC (.int 0)) nNil))) nNil))))))) nNil)))) (nSeq (nSet 3 (nOp gAdd (nVar 3) (nCall mLst (nCons (nCall mTup (nCons (nCall mTup (nCons (nUn gNeg (nC (.int 1))) (nCons (nC (.int 0)) nNil))) (nCons (nCall mTup (nCons (nC (.int 0)) (nCons (nUn gNeg (nC (.int 1))) nNil))) (nCons (nCall mTup (nCons (nC (.int 0)) (nCons (nC (.int 0)) nNil))) nNil)))) (nCons (nCall mTup (nCons (nCall mTup (nCons (nUn gNeg (nC (.int 1))) (nCons (nC (.int 4)) nNil))) (nCons (nCall mTup (nCons (nUn gNeg (nC (.int 1))) (nCons (nC (.int 5)) nNil))) (nCons (nCall mTup (nCons (nC (.int 0)) (nCons (nC (.int 4)) nNil))) nNil)))) nNil))))) (nSeq (nSet 2 (nOp gAdd (nVar 2) (nCall mLst (nCons (nCallD 2 f_can_grow [] (nCons (nVar 0) (nCons (nCall mTup (nCons (nC (.int 1)) (nCons (nC (.int 2)) nNil))) nNil))) (nCons (nCallD 2 f_grown [] (nCons (nVar 1) (nCons (nCall mTup (nCons (nUn gNeg (nC (.int 1))) (nCons (nC (.int 1)) nNil))) nNil))) (nCons (nCallD 2 f_shrunk [] (nCons (nVar 0) (nCons (nCall mTup (nCons (nC (.int 0)) (nCons (nC (.int 2)) nNil))) nNil))) nNil)))))) (nSeq (nSet 2 (nOp gAdd (nVar 2) (nCall mLst (nCons (nCallD 3 f__law_heard [] (nCons (nC (.int 11)) (nCons (nVar 0) (nCons (nCall mTup (nCons (nC (.int 0)) (nCons (nC (.int 0)) nNil))) nNil)))) (nCons (nCallD 3 f__law_heard [] (nCons (nC (.int 10)) (nCons (nVar 0) (nCons (nCall mTup (nCons (nC (.int 2)) (nCons (nC (.int 0)) nNil))) nNil)))) nNil))))) (nSeq (nSet 3 (nOp gAdd (nVar 3) (nCall mLst (nCons (nC (.bl false)) (nCons (nOp gAdd (nCall mTup (nCons (nCall mTup (nCons (nUn gNeg (nC (.int 1))) (nCons (nC (.int 1)) nNil))) nNil)) (nVar 1)) (nCons (nOp gAdd (nSl (nVar 0) nNoP (nP (nC (.int 2)))) (nSl (nVar 0) (nP (nC (.int 3))) nNoP)) (nCons (nCall mLst (nCons (nC (.str "unfit")) (nCons (nC (.bl true)) nNil))) (nCons (nCall mLst (nCons (nC (.str "unfit")) (nCons (nC (.bl true)) nNil))) nNil)))))))) (nSeq (nPar2 2 3 (nCons (nOp gAdd (nVar 2) (nCall mLst (nCons (nCallD 3 f__law_heard [] (nCons (nC (.int 11)) (nCons (nVar 0) (nCons (nCall mTup (nCons (nC (.int 1)) (nCons (nC (.int 1)) nNil))) nNil)))) nNil))) (nCons (nOp gAdd (nVar 3) (nCall mLst (nCons (nCall mLst (nCons (nC (.str "cell")) (nCons (nCall mTup (nCons (nC (.int 1)) (nCons (nC (.int 1)) nNil))) (nCons (nC (.bl true)) nNil)))) nNil))) nNil))) (nSeq (nSet 2 (nOp gAdd (nVar 2) (nCall mLst (nCons (nCallD 1 f_stair_half_turned [] (nCons (nCall mTup (nCons (nCall mTup (nCons (nC (.int 1)) (nCons (nC (.int 1)) nNil))) (nCons (nCall mTup (nCons (nC (.int 0)) (nCons (nC (.int 0)) (nCons (nC (.int 1)) nNil)))) nNil))) nNil)) (nCons (nCallD 1 f_stair_mirrored [] (nCons (nCall mTup (nCons (nCall mTup (nCons (nC (.int 2)) (nCons (nC (.int 5)) nNil))) (nCons (nCall mTup (nCons (nC (.int 1)) (nCons (nC (.int 0)) nNil))) nNil))) nNil)) nNil))))) (nSeq (nSet 2 (nOp gAdd (nVar 2) (nCall mLst (nCons (nCallD 2 f_alike [] (nCons (nVar 0) (nCons (nCallD 1 f_mirrored [] (nCons (nVar 0) nNil)) nNil))) (nCons (nCallD 2 f_alike [] (nCons (nVar 0) (nCons (nVar 1) nNil))) nNil))))) (nRet (nCallD 2 (f__law_same 6) [] (nCons (nVar 2) (nCons (nOp gAdd (nVar 3) (nCall mLst (nCons (nCall mTup (nCons (nCall mTup (nCons (nUn gNeg (nC (.int 3))) (nCons (nUn gNeg (nC (.int 2))) nNil))) (nCons (nCall mTup (nCons (nC (.int 1)) (nCons (nC (.int 0)) (nCons (nC (.int 0)) nNil)))) nNil))) (nCons (nCall mTup (nCons (nCall mTup (nCons (nC (.int 5)) (nCons (nC (.int 2)) nNil))) (nCons (nCall mTup (nCons (nC (.int 0)) (nCons (nC (.int 1)) nNil))) nNil))) (nCons (nC (.bl true)) (nCons (nC (.bl false)) nNil)))))) nNil))))))))))))))))
def f__law_always_right : List D → N D := nDef 4 b__law_always_right
theorem sc__law_always_right : FnScope ["cup", "corner", "got", "due"] [] (defScope d__law_always_right) := ⟨rfl, rfl, rfl, by decide +kernel, rfl, by decide +kernel, by decide +kernel⟩
theorem ok__law_always_right {P : Program} {w : World} {K : PySem.W.Frag} {mg : Str → Option Value} {base : Heap} {f : Addr} {fd : FuncData} {G : Gd} (T : Fx P w K mg G) (F : FunA K "_law_always_right" "_law_always_right" d__law_always_right f fd)
    (C__law_corner : CalN P w K mg base G "_law_corner" 1 0 f__law_corner []) (C__law_cup : CalN P w K mg base G "_law_cup" 1 0 f__law_cup []) (C__law_heard : CalN P w K mg base G "_law_heard" 18 3 f__law_heard []) (C__law_same : CalN P w K mg base G "_law_same" 6 2 (f__law_same 6) []) (C_alike : CalN P w K mg base G "alike" 17 2 f_alike []) (C_borders : CalN P w K mg base G "borders" 15 1 f_borders []) (C_can_grow : CalN P w K mg base G "can_grow" 15 2 f_can_grow []) (C_diagonal : CalN P w K mg base G "diagonal" 15 2 f_diagonal []) (C_grown : CalN P w K mg base G "grown" 15 2 f_grown []) (C_half_turned : CalN P w K mg base G "half_turned" 15 1 f_half_turned []) (C_mirrored : CalN P w K mg base G "mirrored" 15 1 f_mirrored []) (C_shifted : CalN P w K mg base G "shifted" 15 2 f_shifted []) (C_shrunk : CalN P w K mg base G "shrunk" 15 2 f_shrunk []) (C_span : CalN P w K mg base G "span" 15 1 f_span []) (C_stair_half_turned : CalN P w K mg base G "stair_half_turned" 16 1 f_stair_half_turned []) (C_stair_mirrored : CalN P w K mg base G "stair_mirrored" 15 1 f_stair_mirrored []) :
    FnOk P w K mg base (L2.CX P w) 19 f fd [] (spN G 0 (nDef 4 b__law_always_right)) :=
  ndef_ok (G := G) F sc__law_always_right rfl rfl fun cdv A outer s H E hr => by
    have o := okDef (G := G) (mg := mg) (base := base) (N := ["cup", "corner", "got", "due"]) (qual := "_law_always_right") (sc := defScope d__law_always_right) (outer := outer) (H := H) (E := E) T.hK T.hS hr
    have nd := (sc__law_always_right).nd
    exact (ns_cons (n_par2 (i := 0) (j := 1) o.calm nd rfl rfl (by decide) rfl rfl (na_cons (n_cal0 C__law_cup o.tk (hr.mono (by omega)) (by rfl)) (na_cons (n_cal0 C__law_corner o.tk (hr.mono (by omega)) (by rfl)) na_nil)) (by rfl)) (ns_cons (n_set (i := 2) (fun _ h => ps_set nd rfl (by first | exact .inl rfl | exact .inr rfl) h) (n_lst (na_cons (n_cal C_span o.tk (hr.mono (by omega)) (by rfl) (na_cons (n_var (pv 0)) na_nil)) (na_cons (n_cal C_borders o.tk (hr.mono (by omega)) (by rfl) (na_cons (n_tup (na_cons (n_tup (na_cons n_int (na_cons n_int na_nil))) na_nil)) na_nil)) (na_cons (n_cal C_diagonal o.tk (hr.mono (by omega)) (by rfl) (na_cons (n_var (pv 0)) (na_cons n_int na_nil))) (na_cons (n_cal C_mirrored o.tk (hr.mono (by omega)) (by rfl) (na_cons (n_var (pv 0)) na_nil)) (na_cons (n_cal C_half_turned o.tk (hr.mono (by omega)) (by rfl) (na_cons (n_var (pv 1)) na_nil)) na_nil))))))) (ns_cons (n_set (i := 2) (fun _ h => ps_set nd rfl (by first | exact .inl rfl | exact .inr rfl) h) (n_add o (n_var (pv 2)) (n_lst (na_cons (n_cal C_shifted o.tk (hr.mono (by omega)) (by rfl) (na_cons (n_var (pv 1)) (na_cons (n_tup (na_cons (n_neg n_int) (na_cons n_int na_nil))) na_nil))) na_nil)))) (ns_cons (n_set (i := 3) (fun _ h => ps_set nd rfl (by first | exact .inl rfl | exact .inr rfl) h) (n_lst (na_cons (n_tup (na_cons n_int (na_cons n_int na_nil))) (na_cons (n_tup (na_cons (n_tup (na_cons (n_neg n_int) (na_cons n_int na_nil))) (na_cons (n_tup (na_cons n_int (na_cons (n_neg n_int) na_nil))) (na_cons (n_tup (na_cons n_int (na_cons n_int na_nil))) (na_cons (n_tup (na_cons n_int (na_cons n_int na_nil))) na_nil))))) (na_cons (n_tup (na_cons (n_tup (na_cons n_int (na_cons n_int na_nil))) (na_cons (n_tup (na_cons n_int (na_cons n_int na_nil))) na_nil))) na_nil))))) (ns_cons (n_set (i := 3) (fun _ h => ps_set nd rfl (by first | exact .inl rfl | exact .inr rfl) h) (n_add o (n_var (pv 3)) (n_lst (na_cons (n_tup (na_cons (n_tup (na_cons n_int (na_cons n_int na_nil))) (na_cons (n_tup (na_cons n_int (na_cons n_int na_nil))) (na_cons (n_tup (na_cons n_int (na_cons n_int na_nil))) (na_cons (n_tup (na_cons n_int (na_cons n_int na_nil))) (na_cons (n_tup (na_cons n_int (na_cons n_int na_nil))) (na_cons (n_tup (na_cons n_int (na_cons n_int na_nil))) na_nil))))))) na_nil)))) (ns_cons (n_set (i := 3) (fun _ h => ps_set nd rfl (by first | exact .inl rfl | exact .inr rfl) h) (n_add o (n_var (pv 3)) (n_lst (na_cons (n_tup (na_cons (n_tup (na_cons (n_neg n_int) (na_cons n_int na_nil))) (na_cons (n_tup (na_cons n_int (na_cons (n_neg n_int) na_nil))) (na_cons (n_tup (na_cons n_int (na_cons n_int na_nil))) na_nil)))) (na_cons (n_tup (na_cons (n_tup (na_cons (n_neg n_int) (na_cons n_int na_nil))) (na_cons (n_tup (na_cons (n_neg n_int) (na_cons n_int na_nil))) (na_cons (n_tup (na_cons n_int (na_cons n_int na_nil))) na_nil)))) na_nil))))) (ns_cons (n_set (i := 2) (fun _ h => ps_set nd rfl (by first | exact .inl rfl | exact .inr rfl) h) (n_add o (n_var (pv 2)) (n_lst (na_cons (n_cal C_can_grow o.tk (hr.mono (by omega)) (by rfl) (na_cons (n_var (pv 0)) (na_cons (n_tup (na_cons n_int (na_cons n_int na_nil))) na_nil))) (na_cons (n_cal C_grown o.tk (hr.mono (by omega)) (by rfl) (na_cons (n_var (pv 1)) (na_cons (n_tup (na_cons (n_neg n_int) (na_cons n_int na_nil))) na_nil))) (na_cons (n_cal C_shrunk o.tk (hr.mono (by omega)) (by rfl) (na_cons (n_var (pv 0)) (na_cons (n_tup (na_cons n_int (na_cons n_int na_nil))) na_nil))) na_nil)))))) (ns_cons (n_set (i := 2) (fun _ h => ps_set nd rfl (by first | exact .inl rfl | exact .inr rfl) h) (n_add o (n_var (pv 2)) (n_lst (na_cons (n_cal C__law_heard o.tk (hr.mono (by omega)) (by rfl) (na_cons n_int (na_cons (n_var (pv 0)) (na_cons (n_tup (na_cons n_int (na_cons n_int na_nil))) na_nil)))) (na_cons (n_cal C__law_heard o.tk (hr.mono (by omega)) (by rfl) (na_cons n_int (na_cons (n_var (pv 0)) (na_cons (n_tup (na_cons n_int (na_cons n_int na_nil))) na_nil)))) na_nil))))) (ns_cons (n_set (i := 3) (fun _ h => ps_set nd rfl (by first | exact .inl rfl | exact .inr rfl) h) (n_add o (n_var (pv 3)) (n_lst (na_cons n_bl (na_cons (n_add o (n_tup (na_cons (n_tup (na_cons (n_neg n_int) (na_cons n_int na_nil))) na_nil)) (n_var (pv 1))) (na_cons (n_add o (n_slice o.K (n_var (pv 0)) np_no (np_some n_int)) (n_slice o.K (n_var (pv 0)) (np_some n_int) np_no)) (na_cons (n_lst (na_cons n_str (na_cons n_bl na_nil))) (na_cons (n_lst (na_cons n_str (na_cons n_bl na_nil))) na_nil)))))))) (ns_cons (n_par2 (i := 2) (j := 3) o.calm nd rfl rfl (by decide) rfl rfl (na_cons (n_add o (n_var (pv 2)) (n_lst (na_cons (n_cal C__law_heard o.tk (hr.mono (by omega)) (by rfl) (na_cons n_int (na_cons (n_var (pv 0)) (na_cons (n_tup (na_cons n_int (na_cons n_int na_nil))) na_nil)))) na_nil))) (na_cons (n_add o (n_var (pv 3)) (n_lst (na_cons (n_lst (na_cons n_str (na_cons (n_tup (na_cons n_int (na_cons n_int na_nil))) (na_cons n_bl na_nil)))) na_nil))) na_nil)) (by rfl)) (ns_cons (n_set (i := 2) (fun _ h => ps_set nd rfl (by first | exact .inl rfl | exact .inr rfl) h) (n_add o (n_var (pv 2)) (n_lst (na_cons (n_cal C_stair_half_turned o.tk (hr.mono (by omega)) (by rfl) (na_cons (n_tup (na_cons (n_tup (na_cons n_int (na_cons n_int na_nil))) (na_cons (n_tup (na_cons n_int (na_cons n_int (na_cons n_int na_nil)))) na_nil))) na_nil)) (na_cons (n_cal C_stair_mirrored o.tk (hr.mono (by omega)) (by rfl) (na_cons (n_tup (na_cons (n_tup (na_cons n_int (na_cons n_int na_nil))) (na_cons (n_tup (na_cons n_int (na_cons n_int na_nil))) na_nil))) na_nil)) na_nil))))) (ns_cons (n_set (i := 2) (fun _ h => ps_set nd rfl (by first | exact .inl rfl | exact .inr rfl) h) (n_add o (n_var (pv 2)) (n_lst (na_cons (n_cal C_alike o.tk (hr.mono (by omega)) (by rfl) (na_cons (n_var (pv 0)) (na_cons (n_cal C_mirrored o.tk (hr.mono (by omega)) (by rfl) (na_cons (n_var (pv 0)) na_nil)) na_nil))) (na_cons (n_cal C_alike o.tk (hr.mono (by omega)) (by rfl) (na_cons (n_var (pv 0)) (na_cons (n_var (pv 1)) na_nil))) na_nil))))) (ns_one (n_ret (n_cal C__law_same o.tk (hr.mono (by omega)) (by rfl) (na_cons (n_var (pv 2)) (na_cons (n_add o (n_var (pv 3)) (n_lst (na_cons (n_tup (na_cons (n_tup (na_cons (n_neg n_int) (na_cons (n_neg n_int) na_nil))) (na_cons (n_tup (na_cons n_int (na_cons n_int (na_cons n_int na_nil)))) na_nil))) (na_cons (n_tup (na_cons (n_tup (na_cons n_int (na_cons n_int na_nil))) (na_cons (n_tup (na_cons n_int (na_cons n_int na_nil))) na_nil))) (na_cons n_bl (na_cons n_bl na_nil)))))) na_nil)))))))))))))))))
/-! ### _law_refused_right -/
abbrev d__law_refused_right : Stmt := tp 56
def b__law_refused_right : Sf :=
  (nSeq (nSet 0 (nCall gTupL (nCons (nLc (nV (nCallD 2 f__law_oblong [] (nCons (nC (.int 3)) (nCons (nC (.int 3)) nNil)))) (.nm 1) (nTest (nOp (eqG false) (nVar 1) (nCall mTup (nCons (nC (.int 1)) (nCons (nC (.int 1)) nNil))))) (nVar 1) [1]) nNil))) (nSeq (nAsg (nCall mTup (nCons (nCallD 0 f__law_cup [] nNil) (nCons (nCallD 0 f__law_corner [] nNil) (nCons (nCall mLst nNil) nNil)))) (gT 3 (gsC (gN 2) (gsC (gN 3) (gsC (gN 4) gsN))))) (nSeq (nSet 5 (nCall mLst nNil)) (nSeq (nFor (nV (nCall mTup (nCons (nVar 0) (nCons (nCall mTup (nCons (nCall mTup (nCons (nC (.int 0)) (nCons (nC (.int 0)) nNil))) (nCons (nCall mTup (nCons (nC (.int 1)) (nCons (nC (.int 1)) nNil))) nNil))) (nCons (nCall mTup nNil) (nCons (nC .non) (nCons (nC (.int 5)) (nCons (nUn gRevT (nVar 2)) (nCons (nCall mTup (nCons (nCall mTup (nCons (nC (.int 0)) (nCons (nC (.int 0)) nNil))) (nCons (nCall mTup (nCons (nC (.int 0)) (nCons (nC (.bl true)) nNil))) nNil))) nNil))))))))) (gN 1) (nSeq (nSet 5 (nOp gAdd (nVar 5) (nLc (nV (nCall mTup (nCons (nC (.int 0)) (nCons (nC (.int 1)) (nCons (nC (.int 2)) (nCons (nC (.int 3)) (nCons (nC (.int 8)) (nCons (nC (.int 9)) (nCons (nC (.int 10)) (nCons (nC (.int 11)) (nCons (nC (.int 12)) nNil))))))))))) (.nm 6) nYes (nCallD 3 f__law_heard [] (nCons (nVar 6) (nCons (nVar 1) (nCons (nCall mTup (nCons (nC (.int 0)) (nCons (nC (.int 0)) nNil))) nNil)))) [6]))) (nSet 5 (nOp gAdd (nVar 5) (nCall mLst (nCons (nCallD 3 f__law_heard [] (nCons (nC (.int 13)) (nCons (nVar 1) (nCons (nVar 2) nNil)))) (nCons (nCallD 3 f__law_heard [] (nCons (nC (.int 13)) (nCons (nVar 2) (nCons (nVar 1) nNil)))) nNil))))))) (nSeq (nSet 4 (nOp gAdd (nVar 4) (nOp gMulU (nCall mLst (nCons (nCall mLst (nCons (nC (.str "unfit")) (nCons (nC (.bl true)) nNil))) nNil)) (nC (.int 77))))) (nSeq (nFor (nV (nCall mTup (nCons (nCall mTup (nCons (nCall mTup (nCons (nC (.int 0)) (nCons (nC (.int 0)) nNil))) (nCons (nCall mTup (nCons (nC (.int 0)) (nCons (nC (.int 2)) nNil))) nNil))) (nCons (nCall mTup (nCons (nCall mTup (nCons (nC (.int 0)) (nCons (nC (.int 0)) nNil))) nNil)) (nCons (nCall mTup (nCons (nC (.int 0)) (nCons (nC (.int 0)) nNil))) (nCons (nC .non) (nCons (nCall mTup (nCons (nCall mTup (nCons (nC (.int 0)) (nCons (nC (.int 0)) nNil))) (nCons (nC (.int 0)) nNil))) (nCons (nCall mTup (nCons (nCall mTup (nCons (nC (.int 0)) (nCons (nC (.bl true)) nNil))) (nCons (nCall mTup (nCons (nC (.int 1)) nNil)) nNil))) (nCons (nCall mTup (nCons (nCall mTup (nCons (nC (.int 0)) (nCons (nC (.int 0)) nNil))) (nCons (nCall mTup (nCons (nC (.int 0)) (nCons (nC (.bl true)) nNil))) nNil))) nNil))))))))) (gN 1) (nSet 5 (nOp gAdd (nVar 5) (nLc (nV (nCall mTup (nCons (nC (.int 4)) (nCons (nC (.int 5)) (nCons (nC (.int 14)) nNil))))) (.nm 6) nYes (nCallD 3 f__law_heard [] (nCons (nVar 6) (nCons (nVar 1) (nCons (nCall mTup (nCons (nC (.int 1)) (nCons (nC (.int 1)) nNil))) nNil)))) [6])))) (nSeq (nSet 4 (nOp gAdd (nVar 4) (nOp gMulU (nCall mLst (nCons (nCall mLst (nCons (nC (.str "unfit")) (nCons (nC (.bl true)) nNil))) nNil)) (nC (.int 21))))) (nSeq (nSet 7 (nCall mLst (nCons (nCall mTup (nCons (nCall mTup (nCons (nCall mTup (nCons (nC (.int 0)) (nCons (nC (.int 0)) nNil))) (nCons (nCall mTup (nCons (nC (.int 0)) nNil)) nNil))) (nCons (nCall mTup (nCons (nCall mTup (nCons (nC (.int 0)) (nCons (nC (.int 0)) nNil))) (nCons (nCall mTup (nCons (nC (.int 1)) nNil)) nNil))) nNil))) (nCons (nCall mTup (nCons (nCall mTup (nCons (nCall mTup (nCons (nC (.int 0)) (nCons (nC (.int 0)) nNil))) (nCons (nCall mTup nNil) nNil))) (nCons (nCall mTup (nCons (nCall mTup (nCons (nC (.int 0)) (nCons (nC (.int 1)) nNil))) (nCons (nCall mTup (nCons (nC (.int 0)) nNil)) nNil))) nNil))) nNil)))) (nSeq (nSet 7 (nOp gAdd (nVar 7) (nCall mLst (nCons (nCall mTup (nCons (nCall mTup (nCons (nCall mTup (nCons (nC (.int 1)) (nCons (nC (.int 0)) nNil))) (nCons (nCall mTup nNil) nNil))) (nCons (nCall mTup (nCons (nCall mTup (nCons (nC (.int 0)) (nCons (nC (.int 0)) nNil))) (nCons (nCall mTup nNil) nNil))) nNil))) (nCons (nCall mTup (nCons (nCall mTup (nCons (nCall mTup (nCons (nC (.int 0)) (nCons (nC (.int 0)) nNil))) (nCons (nCall mTup nNil) nNil))) (nCons (nCall mTup (nCons (nCall mTup (nCons (nC (.int 1)) (nCons (nC (.int 1)) nNil))) (nCons (nCall mTup nNil) nNil))) nNil))) nNil))))) (nSeq (nFor (nV (nOp gAdd (nVar 7) (nCall mLst (nCons (nCall mTup nNil) (nCons (nC .non) (nCons (nCall mTup (nCons (nCall mTup (nCons (nC (.int 0)) (nCons (nC (.int 0)) nNil))) (nCons (nCall mTup (nCons (nC (.int 0)) nNil)) nNil))) nNil)))))) (gN 1) (nSet 5 (nOp gAdd (nVar 5) (nLc (nV (nCall mTup (nCons (nC (.int 6)) (nCons (nC (.int 7)) (nCons (nC (.int 15)) nNil))))) (.nm 6) nYes (nCallD 3 f__law_heard [] (nCons (nVar 6) (nCons (nVar 1) (nCons (nCall mTup (nCons (nC (.int 1)) (nCons (nC (.int 1)) nNil))) nNil)))) [6])))) (nSeq (nSet 4 (nOp gAdd (nVar 4) (nOp gMulU (nCall mLst (nCons (nCall mLst (nCons (nC (.str "unfit")) (nCons (nC (.bl true)) nNil))) nNil)) (nC (.int 21))))) (nSeq (nSet 5 (nOp gAdd (nVar 5) (nLc (nV (nCall mTup (nCons (nCall mTup (nCons (nC (.int 0)) (nCons (nC (.int 0)) nNil))) (nCons (nCall mTup (nCons (nC (.int 1)) (nCons (nC (.int 2)) nNil))) (nCons (nCall mTup (nCons (nC (.int 5)) (nCons (nC (.int 5)) nNil))) (nCons (nCall mTup (nCons (nUn gNeg (nC (.int 1))) (nCons (nUn gNeg (nC (.int 1))) nNil))) nNil)))))) (.nm 1) nYes (nCallD 3 f__law_heard [] (nCons (nC (.int 10)) (nCons (nVar 3) (nCons (nVar 1) nNil)))) [1]))) (nSeq (nSet 5 (nOp gAdd (nVar 5) (nLc (nV (nCall mTup (nCons (nCall mTup (nCons (nC (.int 1)) (nCons (nC (.int 1)) nNil))) (nCons (nCall mTup (nCons (nC (.int 0)) (nCons (nC (.int 0)) nNil))) (nCons (nCall mTup (nCons (nC (.int 0)) (nCons (nC (.int 1)) nNil))) nNil))))) (.nm 1) nYes (nCallD 3 f__law_heard [] (nCons (nC (.int 11)) (nCons (nVar 3) (nCons (nVar 1) nNil)))) [1]))) (nSeq (nSet 4 (nOp gAdd (nOp gAdd (nVar 4) (nOp gMulU (nCall mLst (nCons (nCall mLst (nCons (nC (.str "unfit")) (nCons (nC (.bl true)) nNil))) nNil)) (nC (.int 4)))) (nCall mLst (nCons (nCall mLst (nCons (nC (.str "cell")) (nCons (nCall mTup (nCons (nC (.int 1)) (nCons (nC (.int 1)) nNil))) (nCons (nC (.bl true)) nNil)))) (nCons (nCall mLst (nCons (nC (.str "unfit")) (nCons (nC (.bl true)) nNil))) (nCons (nCall mTup (nCons (nCall mTup (nCons (nC (.int 0)) (nCons (nC (.int 0)) nNil))) (nCons (nCall mTup (nCons (nC (.int 1)) (nCons (nC (.int 0)) nNil))) nNil))) nNil)))))) (nRet (nCallD 2 (f__law_same 6) [] (nCons (nVar 5) (nCons (nVar 4) nNil))))))))))))))))))
def f__law_refused_right : List D → N D := nDef 8 b__law_refused_right
theorem sc__law_refused_right : FnScope ["ring_so", "own", "cup", "corner", "due", "got", "door", "beds_so"] [] (defScope d__law_refused_right) := ⟨rfl, rfl, rfl, by decide +kernel, rfl, by decide +kernel, by decide +kernel⟩
theorem ok__law_refused_right {P : Program} {w : World} {K : PySem.W.Frag} {mg : Str → Option Value} {base : Heap} {f : Addr} {fd : FuncData} {G : Gd} (T : Fx P w K mg G) (F : FunA K "_law_refused_right" "_law_refused_right" d__law_refused_right f fd)
    (C__law_corner : CalN P w K mg base G "_law_corner" 1 0 f__law_corner []) (C__law_cup : CalN P w K mg base G "_law_cup" 1 0 f__law_cup []) (C__law_heard : CalN P w K mg base G "_law_heard" 18 3 f__law_heard []) (C__law_oblong : CalN P w K mg base G "_law_oblong" 1 2 f__law_oblong []) (C__law_same : CalN P w K mg base G "_law_same" 6 2 (f__law_same 6) []) :
    FnOk P w K mg base (L2.CX P w) 19 f fd [] (spN G 0 (nDef 8 b__law_refused_right)) :=
  ndef_ok (G := G) F sc__law_refused_right rfl rfl fun cdv A outer s H E hr => by
    have o := okDef (G := G) (mg := mg) (base := base) (N := ["ring_so", "own", "cup", "corner", "due", "got", "door", "beds_so"]) (qual := "_law_refused_right") (sc := defScope d__law_refused_right) (outer := outer) (H := H) (E := E) T.hK T.hS hr
    have nd := (sc__law_refused_right).nd
    exact (ns_cons (n_set (i := 0) (fun _ h => ps_set nd rfl (by first | exact .inl rfl | exact .inr rfl) h) (n_tuple o (by rfl) T.m_tuple (na_cons (n_lc (.nm 1) o.K rfl (pe_lc (own := [("own", 1)]) (g := Tgt.tg _ (.nm 1)) o.calm nd (ni_val o.K (n_cal C__law_oblong o.tk (hr.mono (by omega)) (by rfl) (na_cons n_int (na_cons n_int na_nil)))) (blkOk_by (N := ["ring_so", "own", "cup", "corner", "due", "got", "door", "beds_so"]) (sc := defScope d__law_refused_right) (by decide +kernel)) (fun _ _ _ _ _ => (pg_name (i := 1) nd rfl (by first | exact .inl rfl | exact .inr rfl))) (fun _ _ _ _ _ => (nts_one (nc_ne (okBlkN o) (n_var (pv 1)) (n_tup (na_cons n_int (na_cons n_int na_nil)))))) (fun _ _ _ _ _ => (n_var (pv 1))))) na_nil))) (ns_cons (n_asg (n_tup (na_cons (n_cal0 C__law_cup o.tk (hr.mono (by omega)) (by rfl)) (na_cons (n_cal0 C__law_corner o.tk (hr.mono (by omega)) (by rfl)) (na_cons (n_lst na_nil) na_nil)))) (g_tup o.K.symm o.calm (gs_cons (g_name (pg_name (i := 2) nd rfl (by first | exact .inl rfl | exact .inr rfl))) (gs_cons (g_name (pg_name (i := 3) nd rfl (by first | exact .inl rfl | exact .inr rfl))) (gs_cons (g_name (pg_name (i := 4) nd rfl (by first | exact .inl rfl | exact .inr rfl))) gs_nil))))) (ns_cons (n_set (i := 5) (fun _ h => ps_set nd rfl (by first | exact .inl rfl | exact .inr rfl) h) (n_lst na_nil)) (ns_cons (n_for o.po o.calm (ni_val o.K (n_tup (na_cons (n_var (pv 0)) (na_cons (n_tup (na_cons (n_tup (na_cons n_int (na_cons n_int na_nil))) (na_cons (n_tup (na_cons n_int (na_cons n_int na_nil))) na_nil))) (na_cons (n_tup na_nil) (na_cons n_non (na_cons n_int (na_cons (n_revT o.K (n_var (pv 2))) (na_cons (n_tup (na_cons (n_tup (na_cons n_int (na_cons n_int na_nil))) (na_cons (n_tup (na_cons n_int (na_cons n_bl na_nil))) na_nil))) na_nil))))))))) (g_name (pg_name (i := 1) nd rfl (by first | exact .inl rfl | exact .inr rfl))) (ns_cons (n_set (i := 5) (fun _ h => ps_set nd rfl (by first | exact .inl rfl | exact .inr rfl) h) (n_add o (n_var (pv 5)) (n_lc (.nm 6) o.K rfl (pe_lc (own := [("door", 6)]) (g := Tgt.tg _ (.nm 6)) o.calm nd (ni_val o.K (n_tup (na_cons n_int (na_cons n_int (na_cons n_int (na_cons n_int (na_cons n_int (na_cons n_int (na_cons n_int (na_cons n_int (na_cons n_int na_nil))))))))))) (blkOk_by (N := ["ring_so", "own", "cup", "corner", "due", "got", "door", "beds_so"]) (sc := defScope d__law_refused_right) (by decide +kernel)) (fun _ _ _ _ _ => (pg_name (i := 6) nd rfl (by first | exact .inl rfl | exact .inr rfl))) (fun _ _ _ _ _ => nts_nil) (fun _ _ _ _ _ => (n_cal C__law_heard (okBlkN o).tk (hr.mono (by omega)) (by rfl) (na_cons (n_var (pv 6)) (na_cons (n_var (pv 1)) (na_cons (n_tup (na_cons n_int (na_cons n_int na_nil))) na_nil))))))))) (ns_one (n_set (i := 5) (fun _ h => ps_set nd rfl (by first | exact .inl rfl | exact .inr rfl) h) (n_add o (n_var (pv 5)) (n_lst (na_cons (n_cal C__law_heard o.tk (hr.mono (by omega)) (by rfl) (na_cons n_int (na_cons (n_var (pv 1)) (na_cons (n_var (pv 2)) na_nil)))) (na_cons (n_cal C__law_heard o.tk (hr.mono (by omega)) (by rfl) (na_cons n_int (na_cons (n_var (pv 2)) (na_cons (n_var (pv 1)) na_nil)))) na_nil)))))))) (ns_cons (n_set (i := 4) (fun _ h => ps_set nd rfl (by first | exact .inl rfl | exact .inr rfl) h) (n_add o (n_var (pv 4)) (n_mulU o (n_lst (na_cons (n_lst (na_cons n_str (na_cons n_bl na_nil))) na_nil)) n_int))) (ns_cons (n_for o.po o.calm (ni_val o.K (n_tup (na_cons (n_tup (na_cons (n_tup (na_cons n_int (na_cons n_int na_nil))) (na_cons (n_tup (na_cons n_int (na_cons n_int na_nil))) na_nil))) (na_cons (n_tup (na_cons (n_tup (na_cons n_int (na_cons n_int na_nil))) na_nil)) (na_cons (n_tup (na_cons n_int (na_cons n_int na_nil))) (na_cons n_non (na_cons (n_tup (na_cons (n_tup (na_cons n_int (na_cons n_int na_nil))) (na_cons n_int na_nil))) (na_cons (n_tup (na_cons (n_tup (na_cons n_int (na_cons n_bl na_nil))) (na_cons (n_tup (na_cons n_int na_nil)) na_nil))) (na_cons (n_tup (na_cons (n_tup (na_cons n_int (na_cons n_int na_nil))) (na_cons (n_tup (na_cons n_int (na_cons n_bl na_nil))) na_nil))) na_nil))))))))) (g_name (pg_name (i := 1) nd rfl (by first | exact .inl rfl | exact .inr rfl))) (ns_one (n_set (i := 5) (fun _ h => ps_set nd rfl (by first | exact .inl rfl | exact .inr rfl) h) (n_add o (n_var (pv 5)) (n_lc (.nm 6) o.K rfl (pe_lc (own := [("door", 6)]) (g := Tgt.tg _ (.nm 6)) o.calm nd (ni_val o.K (n_tup (na_cons n_int (na_cons n_int (na_cons n_int na_nil))))) (blkOk_by (N := ["ring_so", "own", "cup", "corner", "due", "got", "door", "beds_so"]) (sc := defScope d__law_refused_right) (by decide +kernel)) (fun _ _ _ _ _ => (pg_name (i := 6) nd rfl (by first | exact .inl rfl | exact .inr rfl))) (fun _ _ _ _ _ => nts_nil) (fun _ _ _ _ _ => (n_cal C__law_heard (okBlkN o).tk (hr.mono (by omega)) (by rfl) (na_cons (n_var (pv 6)) (na_cons (n_var (pv 1)) (na_cons (n_tup (na_cons n_int (na_cons n_int na_nil))) na_nil))))))))))) (ns_cons (n_set (i := 4) (fun _ h => ps_set nd rfl (by first | exact .inl rfl | exact .inr rfl) h) (n_add o (n_var (pv 4)) (n_mulU o (n_lst (na_cons (n_lst (na_cons n_str (na_cons n_bl na_nil))) na_nil)) n_int))) (ns_cons (n_set (i := 7) (fun _ h => ps_set nd rfl (by first | exact .inl rfl | exact .inr rfl) h) (n_lst (na_cons (n_tup (na_cons (n_tup (na_cons (n_tup (na_cons n_int (na_cons n_int na_nil))) (na_cons (n_tup (na_cons n_int na_nil)) na_nil))) (na_cons (n_tup (na_cons (n_tup (na_cons n_int (na_cons n_int na_nil))) (na_cons (n_tup (na_cons n_int na_nil)) na_nil))) na_nil))) (na_cons (n_tup (na_cons (n_tup (na_cons (n_tup (na_cons n_int (na_cons n_int na_nil))) (na_cons (n_tup na_nil) na_nil))) (na_cons (n_tup (na_cons (n_tup (na_cons n_int (na_cons n_int na_nil))) (na_cons (n_tup (na_cons n_int na_nil)) na_nil))) na_nil))) na_nil)))) (ns_cons (n_set (i := 7) (fun _ h => ps_set nd rfl (by first | exact .inl rfl | exact .inr rfl) h) (n_add o (n_var (pv 7)) (n_lst (na_cons (n_tup (na_cons (n_tup (na_cons (n_tup (na_cons n_int (na_cons n_int na_nil))) (na_cons (n_tup na_nil) na_nil))) (na_cons (n_tup (na_cons (n_tup (na_cons n_int (na_cons n_int na_nil))) (na_cons (n_tup na_nil) na_nil))) na_nil))) (na_cons (n_tup (na_cons (n_tup (na_cons (n_tup (na_cons n_int (na_cons n_int na_nil))) (na_cons (n_tup na_nil) na_nil))) (na_cons (n_tup (na_cons (n_tup (na_cons n_int (na_cons n_int na_nil))) (na_cons (n_tup na_nil) na_nil))) na_nil))) na_nil))))) (ns_cons (n_for o.po o.calm (ni_val o.K (n_add o (n_var (pv 7)) (n_lst (na_cons (n_tup na_nil) (na_cons n_non (na_cons (n_tup (na_cons (n_tup (na_cons n_int (na_cons n_int na_nil))) (na_cons (n_tup (na_cons n_int na_nil)) na_nil))) na_nil)))))) (g_name (pg_name (i := 1) nd rfl (by first | exact .inl rfl | exact .inr rfl))) (ns_one (n_set (i := 5) (fun _ h => ps_set nd rfl (by first | exact .inl rfl | exact .inr rfl) h) (n_add o (n_var (pv 5)) (n_lc (.nm 6) o.K rfl (pe_lc (own := [("door", 6)]) (g := Tgt.tg _ (.nm 6)) o.calm nd (ni_val o.K (n_tup (na_cons n_int (na_cons n_int (na_cons n_int na_nil))))) (blkOk_by (N := ["ring_so", "own", "cup", "corner", "due", "got", "door", "beds_so"]) (sc := defScope d__law_refused_right) (by decide +kernel)) (fun _ _ _ _ _ => (pg_name (i := 6) nd rfl (by first | exact .inl rfl | exact .inr rfl))) (fun _ _ _ _ _ => nts_nil) (fun _ _ _ _ _ => (n_cal C__law_heard (okBlkN o).tk (hr.mono (by omega)) (by rfl) (na_cons (n_var (pv 6)) (na_cons (n_var (pv 1)) (na_cons (n_tup (na_cons n_int (na_cons n_int na_nil))) na_nil))))))))))) (ns_cons (n_set (i := 4) (fun _ h => ps_set nd rfl (by first | exact .inl rfl | exact .inr rfl) h) (n_add o (n_var (pv 4)) (n_mulU o (n_lst (na_cons (n_lst (na_cons n_str (na_cons n_bl na_nil))) na_nil)) n_int))) (ns_cons (n_set (i := 5) (fun _ h => ps_set nd rfl (by first | exact .inl rfl | exact .inr rfl) h) (n_add o (n_var (pv 5)) (n_lc (.nm 1) o.K rfl (pe_lc (own := [("own", 1)]) (g := Tgt.tg _ (.nm 1)) o.calm nd (ni_val o.K (n_tup (na_cons (n_tup (na_cons n_int (na_cons n_int na_nil))) (na_cons (n_tup (na_cons n_int (na_cons n_int na_nil))) (na_cons (n_tup (na_cons n_int (na_cons n_int na_nil))) (na_cons (n_tup (na_cons (n_neg n_int) (na_cons (n_neg n_int) na_nil))) na_nil)))))) (blkOk_by (N := ["ring_so", "own", "cup", "corner", "due", "got", "door", "beds_so"]) (sc := defScope d__law_refused_right) (by decide +kernel)) (fun _ _ _ _ _ => (pg_name (i := 1) nd rfl (by first | exact .inl rfl | exact .inr rfl))) (fun _ _ _ _ _ => nts_nil) (fun _ _ _ _ _ => (n_cal C__law_heard (okBlkN o).tk (hr.mono (by omega)) (by rfl) (na_cons n_int (na_cons (n_var (pv 3)) (na_cons (n_var (pv 1)) na_nil))))))))) (ns_cons (n_set (i := 5) (fun _ h => ps_set nd rfl (by first | exact .inl rfl | exact .inr rfl) h) (n_add o (n_var (pv 5)) (n_lc (.nm 1) o.K rfl (pe_lc (own := [("own", 1)]) (g := Tgt.tg _ (.nm 1)) o.calm nd (ni_val o.K (n_tup (na_cons (n_tup (na_cons n_int (na_cons n_int na_nil))) (na_cons (n_tup (na_cons n_int (na_cons n_int na_nil))) (na_cons (n_tup (na_cons n_int (na_cons n_int na_nil))) na_nil))))) (blkOk_by (N := ["ring_so", "own", "cup", "corner", "due", "got", "door", "beds_so"]) (sc := defScope d__law_refused_right) (by decide +kernel)) (fun _ _ _ _ _ => (pg_name (i := 1) nd rfl (by first | exact .inl rfl | exact .inr rfl))) (fun _ _ _ _ _ => nts_nil) (fun _ _ _ _ _ => (n_cal C__law_heard (okBlkN o).tk (hr.mono (by omega)) (by rfl) (na_cons n_int (na_cons (n_var (pv 3)) (na_cons (n_var (pv 1)) na_nil))))))))) (ns_cons (n_set (i := 4) (fun _ h => ps_set nd rfl (by first | exact .inl rfl | exact .inr rfl) h) (n_add o (n_add o (n_var (pv 4)) (n_mulU o (n_lst (na_cons (n_lst (na_cons n_str (na_cons n_bl na_nil))) na_nil)) n_int)) (n_lst (na_cons (n_lst (na_cons n_str (na_cons (n_tup (na_cons n_int (na_cons n_int na_nil))) (na_cons n_bl na_nil)))) (na_cons (n_lst (na_cons n_str (na_cons n_bl na_nil))) (na_cons (n_tup (na_cons (n_tup (na_cons n_int (na_cons n_int na_nil))) (na_cons (n_tup (na_cons n_int (na_cons n_int na_nil))) na_nil))) na_nil)))))) (ns_one (n_ret (n_cal C__law_same o.tk (hr.mono (by omega)) (by rfl) (na_cons (n_var (pv 5)) (na_cons (n_var (pv 4)) na_nil)))))))))))))))))))
/-! ### _law_soft_right -/
abbrev d__law_soft_right : Stmt := tp 57
def b__law_soft_right : Sf :=
  (nSeq (nPar2 0 1 (nCons (nCallD 0 f__law_cup [] nNil) (nCons (nCall mTup (nCons (nCall mTup (nCons (nCall mTup (nCons (nC (.int 0)) (nCons (nC (.int 0)) nNil))) (nCons (nCall mTup (nCons (nC (.int 1)) (nCons (nC (.int 0)) nNil))) nNil))) (nCons (nCall mTup (nCons (nCall mTup (nCons (nC (.int 1)) (nCons (nC (.int 0)) nNil))) (nCons (nCall mTup (nCons (nC (.int 0)) (nCons (nC (.int 1)) nNil))) nNil))) nNil))) nNil))) (nSeq (nPar2 2 3 (nCons (nCallD 1 (f__law_lists 6) [] (nCons (nVar 0) nNil)) (nCons (nCallD 1 (f__law_lists 6) [] (nCons (nVar 1) nNil)) nNil))) (nSeq (nSet 4 (nCall mLst (nCons (nCallK 2 2 f_diagonal [1, 0] (nCons (nC (.int 2)) (nCons (nVar 2) nNil))) (nCons (nCallK 1 1 f_span [0] (nCons (nVar 2) nNil)) (nCons (nCallK 2 2 f_can_grow [1, 0] (nCons (nCall mLst (nCons (nC (.int 1)) (nCons (nC (.int 1)) nNil))) (nCons (nVar 2) nNil))) nNil))))) (nSeq (nSet 4 (nOp gAdd (nVar 4) (nCall mLst (nCons (nCallK 2 2 f_shrunk [1, 0] (nCons (nCall mLst (nCons (nC (.int 0)) (nCons (nC (.int 2)) nNil))) (nCons (nVar 2) nNil))) (nCons (nCallD 3 f__law_heard [] (nCons (nC (.int 11)) (nCons (nVar 2) (nCons (nCall mLst (nCons (nC (.int 1)) (nCons (nC (.int 1)) nNil))) nNil)))) nNil))))) (nSeq (nSet 5 (nCall mLst (nCons (nCall mTup (nCons (nCall mTup (nCons (nC (.int 0)) (nCons (nC (.int 2)) nNil))) (nCons (nCall mTup (nCons (nC (.int 2)) (nCons (nC (.int 0)) nNil))) nNil))) (nCons (nCall mTup (nCons (nC (.int 0)) (nCons (nC (.int 3)) nNil))) (nCons (nC (.bl true)) (nCons (nOp gAdd (nSl (nVar 0) nNoP (nP (nC (.int 2)))) (nSl (nVar 0) (nP (nC (.int 3))) nNoP)) (nCons (nCall mLst (nCons (nC (.str "cell")) (nCons (nCall mTup (nCons (nC (.int 1)) (nCons (nC (.int 1)) nNil))) (nCons (nC (.bl true)) nNil)))) nNil))))))) (nSeq (nSet 4 (nOp gAdd (nVar 4) (nCall mLst (nCons (nCallK 2 2 f_grown [1, 0] (nCons (nCall mLst (nCons (nC (.int 1)) (nCons (nC (.int 1)) nNil))) (nCons (nVar 2) nNil))) (nCons (nCall gLenU (nCons (nCallK 1 1 f_borders [0] (nCons (nVar 2) nNil)) nNil)) (nCons (nCallK 1 1 f_is_floor [0] (nCons (nVar 0) nNil)) (nCons (nCallD 1 f_is_floor [] (nCons (nVar 2) nNil)) nNil))))))) (nSeq (nSet 4 (nOp gAdd (nVar 4) (nCall mLst (nCons (nOp gIx (nCallK 1 1 f_mirrored [0] (nCons (nVar 2) nNil)) (nC (.int 4))) nNil)))) (nSeq (nSet 5 (nOp gAdd (nVar 5) (nCall mLst (nCons (nOp gAdd (nOp gAdd (nSl (nVar 0) nNoP (nP (nC (.int 4)))) (nCall mTup (nCons (nCall mTup (nCons (nC (.int 1)) (nCons (nC (.int 1)) nNil))) nNil))) (nSl (nVar 0) (nP (nC (.int 4))) nNoP)) (nCons (nC (.int 11)) (nCons (nC (.bl true)) (nCons (nC (.bl false)) (nCons (nCall mTup (nCons (nC (.int 1)) (nCons (nC (.int 2)) nNil))) nNil)))))))) (nSeq (nSet 4 (nOp gAdd (nVar 4) (nCall mLst (nCons (nOp gIx (nCallK 1 1 f_half_turned [0] (nCons (nVar 2) nNil)) (nC (.int 0))) (nCons (nOp gIx (nCallK 2 2 f_shifted [1, 0] (nCons (nCall mLst (nCons (nC (.int 1)) (nCons (nC (.int 0)) nNil))) (nCons (nVar 2) nNil))) (nC (.int 0))) (nCons (nCallK 2 2 f_alike [1, 0] (nCons (nVar 2) (nCons (nVar 0) nNil))) nNil)))))) (nSeq (nSet 5 (nOp gAdd (nVar 5) (nCall mLst (nCons (nCall mTup (nCons (nUn gNeg (nC (.int 2))) (nCons (nUn gNeg (nC (.int 1))) nNil))) (nCons (nCall mTup (nCons (nC (.int 1)) (nCons (nC (.int 0)) nNil))) (nCons (nC (.bl true)) nNil)))))) (nSeq (nSet 4 (nOp gAdd (nVar 4) (nCall mLst (nCons (nCallK 2 2 f_stair_shifted [1, 0] (nCons (nCall mLst (nCons (nC (.int 0)) (nCons (nC (.int 2)) nNil))) (nCons (nOp gIx (nVar 3) (nC (.int 0))) nNil))) (nCons (nCallK 1 1 f_stair_mirrored [0] (nCons (nOp gIx (nVar 3) (nC (.int 0))) nNil)) nNil))))) (nSeq (nSet 4 (nOp gAdd (nVar 4) (nCall mLst (nCons (nCallK 1 1 f_stair_half_turned [0] (nCons (nOp gIx (nVar 3) (nC (.int 1))) nNil)) nNil)))) (nSeq (nSet 5 (nOp gAdd (nVar 5) (nCall mLst (nCons (nCall mTup (nCons (nCall mTup (nCons (nC (.int 0)) (nCons (nC (.int 2)) nNil))) (nCons (nCall mTup (nCons (nC (.int 1)) (nCons (nC (.int 0)) nNil))) nNil))) (nCons (nCall mTup (nCons (nCall mTup (nCons (nC (.int 0)) (nCons (nC (.int 0)) nNil))) (nCons (nCall mTup (nCons (nC (.int 0)) (nCons (nC (.int 1)) nNil))) nNil))) (nCons (nCall mTup (nCons (nCall mTup (nCons (nUn gNeg (nC (.int 2))) (nCons (nUn gNeg (nC (.int 1))) nNil))) (nCons (nCall mTup (nCons (nC (.int 1)) (nCons (nC (.int 0)) nNil))) nNil))) nNil)))))) (nSeq (nSet 4 (nOp gAdd (nVar 4) (nCall mLst (nCons (nCallK 2 2 f_laying_shifted [1, 0] (nCons (nCall mLst (nCons (nC (.int 0)) (nCons (nC (.int 0)) nNil))) (nCons (nVar 3) nNil))) (nCons (nCallK 1 1 f_laying_mirrored [0] (nCons (nVar 3) nNil)) nNil))))) (nSeq (nSet 4 (nOp gAdd (nVar 4) (nCall mLst (nCons (nCallK 1 1 f_laying_half_turned [0] (nCons (nVar 3) nNil)) (nCons (nVar 2) (nCons (nVar 3) nNil)))))) (nSeq (nSet 5 (nOp gAdd (nVar 5) (nCall mLst (nCons (nVar 1) (nCons (nCall mTup (nCons (nCall mTup (nCons (nCall mTup (nCons (nC (.int 0)) (nCons (nC (.int 0)) nNil))) (nCons (nCall mTup (nCons (nC (.int 0)) (nCons (nC (.int 1)) nNil))) nNil))) (nCons (nCall mTup (nCons (nCall mTup (nCons (nC (.int 0)) (nCons (nC (.int 1)) nNil))) (nCons (nCall mTup (nCons (nC (.int 1)) (nCons (nC (.int 0)) nNil))) nNil))) nNil))) (nCons (nCall mTup (nCons (nCall mTup (nCons (nCall mTup (nCons (nUn gNeg (nC (.int 2))) (nCons (nUn gNeg (nC (.int 1))) nNil))) (nCons (nCall mTup (nCons (nC (.int 1)) (nCons (nC (.int 0)) nNil))) nNil))) (nCons (nCall mTup (nCons (nCall mTup (nCons (nUn gNeg (nC (.int 1))) (nCons (nUn gNeg (nC (.int 1))) nNil))) (nCons (nCall mTup (nCons (nC (.int 0)) (nCons (nC (.int 1)) nNil))) nNil))) nNil))) nNil)))))) (nRet (nCallD 2 (f__law_same 6) [] (nCons (nVar 4) (nCons (nOp gAdd (nVar 5) (nCall mLst (nCons (nCallD 1 (f__law_lists 6) [] (nCons (nVar 0) nNil)) (nCons (nCallD 1 (f__law_lists 6) [] (nCons (nVar 1) nNil)) nNil)))) nNil))))))))))))))))))))
def f__law_soft_right : List D → N D := nDef 6 b__law_soft_right
theorem sc__law_soft_right : FnScope ["cup", "bent_so", "soft", "mild", "got", "due"] [] (defScope d__law_soft_right) := ⟨rfl, rfl, rfl, by decide +kernel, rfl, by decide +kernel, by decide +kernel⟩
theorem ok__law_soft_right {P : Program} {w : World} {K : PySem.W.Frag} {mg : Str → Option Value} {base : Heap} {f : Addr} {fd : FuncData} {G : Gd} (T : Fx P w K mg G) (F : FunA K "_law_soft_right" "_law_soft_right" d__law_soft_right f fd)
    (C__law_cup : CalN P w K mg base G "_law_cup" 1 0 f__law_cup []) (C__law_heard : CalN P w K mg base G "_law_heard" 18 3 f__law_heard []) (C__law_lists : CalN P w K mg base G "_law_lists" 6 1 (f__law_lists 6) []) (C__law_same : CalN P w K mg base G "_law_same" 6 2 (f__law_same 6) []) (C_is_floor : CalN P w K mg base G "is_floor" 4 1 f_is_floor []) (K_alike_other_floor : CalK P w K mg base G "alike" 17 2 f_alike ["other", "floor"] [1, 0]) (K_borders_floor : CalK P w K mg base G "borders" 15 1 f_borders ["floor"] [0]) (K_can_grow_cell_floor : CalK P w K mg base G "can_grow" 15 2 f_can_grow ["cell", "floor"] [1, 0]) (K_diagonal_number_floor : CalK P w K mg base G "diagonal" 15 2 f_diagonal ["number", "floor"] [1, 0]) (K_grown_cell_floor : CalK P w K mg base G "grown" 15 2 f_grown ["cell", "floor"] [1, 0]) (K_half_turned_floor : CalK P w K mg base G "half_turned" 15 1 f_half_turned ["floor"] [0]) (K_is_floor_thing : CalK P w K mg base G "is_floor" 4 1 f_is_floor ["thing"] [0]) (K_laying_half_turned_laying : CalK P w K mg base G "laying_half_turned" 17 1 f_laying_half_turned ["laying"] [0]) (K_laying_mirrored_laying : CalK P w K mg base G "laying_mirrored" 16 1 f_laying_mirrored ["laying"] [0]) (K_laying_shifted_by_laying : CalK P w K mg base G "laying_shifted" 16 2 f_laying_shifted ["by", "laying"] [1, 0]) (K_mirrored_floor : CalK P w K mg base G "mirrored" 15 1 f_mirrored ["floor"] [0]) (K_shifted_by_floor : CalK P w K mg base G "shifted" 15 2 f_shifted ["by", "floor"] [1, 0]) (K_shrunk_cell_floor : CalK P w K mg base G "shrunk" 15 2 f_shrunk ["cell", "floor"] [1, 0]) (K_span_floor : CalK P w K mg base G "span" 15 1 f_span ["floor"] [0]) (K_stair_half_turned_stair : CalK P w K mg base G "stair_half_turned" 16 1 f_stair_half_turned ["stair"] [0]) (K_stair_mirrored_stair : CalK P w K mg base G "stair_mirrored" 15 1 f_stair_mirrored ["stair"] [0]) (K_stair_shifted_by_stair : CalK P w K mg base G "stair_shifted" 15 2 f_stair_shifted ["by", "stair"] [1, 0]) :
    FnOk P w K mg base (L2.CX P w) 19 f fd [] (spN G 0 (nDef 6 b__law_soft_right)) :=
  ndef_ok (G := G) F sc__law_soft_right rfl rfl fun cdv A outer s H E hr => by
    have o := okDef (G := G) (mg := mg) (base := base) (N := ["cup", "bent_so", "soft", "mild", "got", "due"]) (qual := "_law_soft_right") (sc := defScope d__law_soft_right) (outer := outer) (H := H) (E := E) T.hK T.hS hr
    have nd := (sc__law_soft_right).nd
    exact (ns_cons (n_par2 (i := 0) (j := 1) o.calm nd rfl rfl (by decide) rfl rfl (na_cons (n_cal0 C__law_cup o.tk (hr.mono (by omega)) (by rfl)) (na_cons (n_tup (na_cons (n_tup (na_cons (n_tup (na_cons n_int (na_cons n_int na_nil))) (na_cons (n_tup (na_cons n_int (na_cons n_int na_nil))) na_nil))) (na_cons (n_tup (na_cons (n_tup (na_cons n_int (na_cons n_int na_nil))) (na_cons (n_tup (na_cons n_int (na_cons n_int na_nil))) na_nil))) na_nil))) na_nil)) (by rfl)) (ns_cons (n_par2 (i := 2) (j := 3) o.calm nd rfl rfl (by decide) rfl rfl (na_cons (n_cal C__law_lists o.tk (hr.mono (by omega)) (by rfl) (na_cons (n_var (pv 0)) na_nil)) (na_cons (n_cal C__law_lists o.tk (hr.mono (by omega)) (by rfl) (na_cons (n_var (pv 1)) na_nil)) na_nil)) (by rfl)) (ns_cons (n_set (i := 4) (fun _ h => ps_set nd rfl (by first | exact .inl rfl | exact .inr rfl) h) (n_lst (na_cons (n_calk K_diagonal_number_floor o.tk (hr.mono (by omega)) (by rfl) (nk_cons n_int (nk_cons (n_var (pv 2)) nk_nil))) (na_cons (n_calk K_span_floor o.tk (hr.mono (by omega)) (by rfl) (nk_cons (n_var (pv 2)) nk_nil)) (na_cons (n_calk K_can_grow_cell_floor o.tk (hr.mono (by omega)) (by rfl) (nk_cons (n_lst (na_cons n_int (na_cons n_int na_nil))) (nk_cons (n_var (pv 2)) nk_nil))) na_nil))))) (ns_cons (n_set (i := 4) (fun _ h => ps_set nd rfl (by first | exact .inl rfl | exact .inr rfl) h) (n_add o (n_var (pv 4)) (n_lst (na_cons (n_calk K_shrunk_cell_floor o.tk (hr.mono (by omega)) (by rfl) (nk_cons (n_lst (na_cons n_int (na_cons n_int na_nil))) (nk_cons (n_var (pv 2)) nk_nil))) (na_cons (n_cal C__law_heard o.tk (hr.mono (by omega)) (by rfl) (na_cons n_int (na_cons (n_var (pv 2)) (na_cons (n_lst (na_cons n_int (na_cons n_int na_nil))) na_nil)))) na_nil))))) (ns_cons (n_set (i := 5) (fun _ h => ps_set nd rfl (by first | exact .inl rfl | exact .inr rfl) h) (n_lst (na_cons (n_tup (na_cons (n_tup (na_cons n_int (na_cons n_int na_nil))) (na_cons (n_tup (na_cons n_int (na_cons n_int na_nil))) na_nil))) (na_cons (n_tup (na_cons n_int (na_cons n_int na_nil))) (na_cons n_bl (na_cons (n_add o (n_slice o.K (n_var (pv 0)) np_no (np_some n_int)) (n_slice o.K (n_var (pv 0)) (np_some n_int) np_no)) (na_cons (n_lst (na_cons n_str (na_cons (n_tup (na_cons n_int (na_cons n_int na_nil))) (na_cons n_bl na_nil)))) na_nil))))))) (ns_cons (n_set (i := 4) (fun _ h => ps_set nd rfl (by first | exact .inl rfl | exact .inr rfl) h) (n_add o (n_var (pv 4)) (n_lst (na_cons (n_calk K_grown_cell_floor o.tk (hr.mono (by omega)) (by rfl) (nk_cons (n_lst (na_cons n_int (na_cons n_int na_nil))) (nk_cons (n_var (pv 2)) nk_nil))) (na_cons (n_len o (by rfl) T.m_len (na_cons (n_calk K_borders_floor o.tk (hr.mono (by omega)) (by rfl) (nk_cons (n_var (pv 2)) nk_nil)) na_nil)) (na_cons (n_calk K_is_floor_thing o.tk (hr.mono (by omega)) (by rfl) (nk_cons (n_var (pv 0)) nk_nil)) (na_cons (n_cal C_is_floor o.tk (hr.mono (by omega)) (by rfl) (na_cons (n_var (pv 2)) na_nil)) na_nil))))))) (ns_cons (n_set (i := 4) (fun _ h => ps_set nd rfl (by first | exact .inl rfl | exact .inr rfl) h) (n_add o (n_var (pv 4)) (n_lst (na_cons (n_ix o.K (n_calk K_mirrored_floor o.tk (hr.mono (by omega)) (by rfl) (nk_cons (n_var (pv 2)) nk_nil)) n_int (fun _ _ => rfl)) na_nil)))) (ns_cons (n_set (i := 5) (fun _ h => ps_set nd rfl (by first | exact .inl rfl | exact .inr rfl) h) (n_add o (n_var (pv 5)) (n_lst (na_cons (n_add o (n_add o (n_slice o.K (n_var (pv 0)) np_no (np_some n_int)) (n_tup (na_cons (n_tup (na_cons n_int (na_cons n_int na_nil))) na_nil))) (n_slice o.K (n_var (pv 0)) (np_some n_int) np_no)) (na_cons n_int (na_cons n_bl (na_cons n_bl (na_cons (n_tup (na_cons n_int (na_cons n_int na_nil))) na_nil)))))))) (ns_cons (n_set (i := 4) (fun _ h => ps_set nd rfl (by first | exact .inl rfl | exact .inr rfl) h) (n_add o (n_var (pv 4)) (n_lst (na_cons (n_ix o.K (n_calk K_half_turned_floor o.tk (hr.mono (by omega)) (by rfl) (nk_cons (n_var (pv 2)) nk_nil)) n_int (fun _ _ => rfl)) (na_cons (n_ix o.K (n_calk K_shifted_by_floor o.tk (hr.mono (by omega)) (by rfl) (nk_cons (n_lst (na_cons n_int (na_cons n_int na_nil))) (nk_cons (n_var (pv 2)) nk_nil))) n_int (fun _ _ => rfl)) (na_cons (n_calk K_alike_other_floor o.tk (hr.mono (by omega)) (by rfl) (nk_cons (n_var (pv 2)) (nk_cons (n_var (pv 0)) nk_nil))) na_nil)))))) (ns_cons (n_set (i := 5) (fun _ h => ps_set nd rfl (by first | exact .inl rfl | exact .inr rfl) h) (n_add o (n_var (pv 5)) (n_lst (na_cons (n_tup (na_cons (n_neg n_int) (na_cons (n_neg n_int) na_nil))) (na_cons (n_tup (na_cons n_int (na_cons n_int na_nil))) (na_cons n_bl na_nil)))))) (ns_cons (n_set (i := 4) (fun _ h => ps_set nd rfl (by first | exact .inl rfl | exact .inr rfl) h) (n_add o (n_var (pv 4)) (n_lst (na_cons (n_calk K_stair_shifted_by_stair o.tk (hr.mono (by omega)) (by rfl) (nk_cons (n_lst (na_cons n_int (na_cons n_int na_nil))) (nk_cons (n_ix o.K (n_var (pv 3)) n_int (fun _ _ => rfl)) nk_nil))) (na_cons (n_calk K_stair_mirrored_stair o.tk (hr.mono (by omega)) (by rfl) (nk_cons (n_ix o.K (n_var (pv 3)) n_int (fun _ _ => rfl)) nk_nil)) na_nil))))) (ns_cons (n_set (i := 4) (fun _ h => ps_set nd rfl (by first | exact .inl rfl | exact .inr rfl) h) (n_add o (n_var (pv 4)) (n_lst (na_cons (n_calk K_stair_half_turned_stair o.tk (hr.mono (by omega)) (by rfl) (nk_cons (n_ix o.K (n_var (pv 3)) n_int (fun _ _ => rfl)) nk_nil)) na_nil)))) (ns_cons (n_set (i := 5) (fun _ h => ps_set nd rfl (by first | exact .inl rfl | exact .inr rfl) h) (n_add o (n_var (pv 5)) (n_lst (na_cons (n_tup (na_cons (n_tup (na_cons n_int (na_cons n_int na_nil))) (na_cons (n_tup (na_cons n_int (na_cons n_int na_nil))) na_nil))) (na_cons (n_tup (na_cons (n_tup (na_cons n_int (na_cons n_int na_nil))) (na_cons (n_tup (na_cons n_int (na_cons n_int na_nil))) na_nil))) (na_cons (n_tup (na_cons (n_tup (na_cons (n_neg n_int) (na_cons (n_neg n_int) na_nil))) (na_cons (n_tup (na_cons n_int (na_cons n_int na_nil))) na_nil))) na_nil)))))) (ns_cons (n_set (i := 4) (fun _ h => ps_set nd rfl (by first | exact .inl rfl | exact .inr rfl) h) (n_add o (n_var (pv 4)) (n_lst (na_cons (n_calk K_laying_shifted_by_laying o.tk (hr.mono (by omega)) (by rfl) (nk_cons (n_lst (na_cons n_int (na_cons n_int na_nil))) (nk_cons (n_var (pv 3)) nk_nil))) (na_cons (n_calk K_laying_mirrored_laying o.tk (hr.mono (by omega)) (by rfl) (nk_cons (n_var (pv 3)) nk_nil)) na_nil))))) (ns_cons (n_set (i := 4) (fun _ h => ps_set nd rfl (by first | exact .inl rfl | exact .inr rfl) h) (n_add o (n_var (pv 4)) (n_lst (na_cons (n_calk K_laying_half_turned_laying o.tk (hr.mono (by omega)) (by rfl) (nk_cons (n_var (pv 3)) nk_nil)) (na_cons (n_var (pv 2)) (na_cons (n_var (pv 3)) na_nil)))))) (ns_cons (n_set (i := 5) (fun _ h => ps_set nd rfl (by first | exact .inl rfl | exact .inr rfl) h) (n_add o (n_var (pv 5)) (n_lst (na_cons (n_var (pv 1)) (na_cons (n_tup (na_cons (n_tup (na_cons (n_tup (na_cons n_int (na_cons n_int na_nil))) (na_cons (n_tup (na_cons n_int (na_cons n_int na_nil))) na_nil))) (na_cons (n_tup (na_cons (n_tup (na_cons n_int (na_cons n_int na_nil))) (na_cons (n_tup (na_cons n_int (na_cons n_int na_nil))) na_nil))) na_nil))) (na_cons (n_tup (na_cons (n_tup (na_cons (n_tup (na_cons (n_neg n_int) (na_cons (n_neg n_int) na_nil))) (na_cons (n_tup (na_cons n_int (na_cons n_int na_nil))) na_nil))) (na_cons (n_tup (na_cons (n_tup (na_cons (n_neg n_int) (na_cons (n_neg n_int) na_nil))) (na_cons (n_tup (na_cons n_int (na_cons n_int na_nil))) na_nil))) na_nil))) na_nil)))))) (ns_one (n_ret (n_cal C__law_same o.tk (hr.mono (by omega)) (by rfl) (na_cons (n_var (pv 4)) (na_cons (n_add o (n_var (pv 5)) (n_lst (na_cons (n_cal C__law_lists o.tk (hr.mono (by omega)) (by rfl) (na_cons (n_var (pv 0)) na_nil)) (na_cons (n_cal C__law_lists o.tk (hr.mono (by omega)) (by rfl) (na_cons (n_var (pv 1)) na_nil)) na_nil)))) na_nil)))))))))))))))))))))
/-! ### law -/
abbrev d_law : Stmt := tp 58
def b_law : Sf :=
  (nSeq (nIf (nNot (nTest (nCallD 0 f__law_always_right [] nNil))) (nRet (nC (.bl false))) nSkip) (nRet (nIfG (nTest (nOp (eqG true) (nCallD 2 f__law_take [] (nCons (nCallD 2 f__law_box [] (nCons (nCallD 2 f__law_cells [] (nCons (nVar 0) (nCons (nC (.int 1)) nNil))) (nCons (nC (.int 0)) nNil))) (nCons (nC (.int 2)) nNil))) (nC (.int 0)))) (nCallD 0 f__law_refused_right [] nNil) (nCallD 0 f__law_soft_right [] nNil))))
def f_law : List D → N D := nDef 1 b_law
theorem sc_law : FnScope ["script"] ["script"] (defScope d_law) := ⟨rfl, rfl, rfl, by decide +kernel, rfl, by decide +kernel, by decide +kernel⟩
theorem ok_law {P : Program} {w : World} {K : PySem.W.Frag} {mg : Str → Option Value} {base : Heap} {f : Addr} {fd : FuncData} {G : Gd} (T : Fx P w K mg G) (F : FunA K "law" "law" d_law f fd)
    (C__law_always_right : CalN P w K mg base G "_law_always_right" 19 0 f__law_always_right []) (C__law_box : CalN P w K mg base G "_law_box" 1 2 f__law_box []) (C__law_cells : CalN P w K mg base G "_law_cells" 1 2 f__law_cells []) (C__law_refused_right : CalN P w K mg base G "_law_refused_right" 19 0 f__law_refused_right []) (C__law_soft_right : CalN P w K mg base G "_law_soft_right" 19 0 f__law_soft_right []) (C__law_take : CalN P w K mg base G "_law_take" 1 2 f__law_take []) :
    FnOk P w K mg base (L2.CX P w) 20 f fd ["script"] (spN G 1 (nDef 1 b_law)) :=
  ndef_ok (G := G) F sc_law rfl rfl fun cdv A outer s H E hr => by
    have o := okDef (G := G) (mg := mg) (base := base) (N := ["script"]) (qual := "law") (sc := defScope d_law) (outer := outer) (H := H) (E := E) T.hK T.hS hr
    have nd := (sc_law).nd
    exact (ns_cons (n_if (nt_not (nt_of (n_cal0 C__law_always_right o.tk (hr.mono (by omega)) (by rfl)))) (ns_one (n_ret n_bl)) ns_nil) (ns_one (n_ret (n_ifG (nc_eq o (n_cal C__law_take o.tk (hr.mono (by omega)) (by rfl) (na_cons (n_cal C__law_box o.tk (hr.mono (by omega)) (by rfl) (na_cons (n_cal C__law_cells o.tk (hr.mono (by omega)) (by rfl) (na_cons (n_var (pv 0)) (na_cons n_int na_nil))) (na_cons n_int na_nil))) (na_cons n_int na_nil))) n_int) (n_cal0 C__law_refused_right o.tk (hr.mono (by omega)) (by rfl)) (n_cal0 C__law_soft_right o.tk (hr.mono (by omega)) (by rfl))))))
end Eng
namespace Eng
open PySem L2
set_option maxRecDepth 100000
theorem get_hd {nx n : Nat} {o : O} {l : List (Nat × O)} {low : Nat} : (Hm.mk nx ((n, o) :: l) low).get n = some o := by
  show (if n = n then _ else _) = _
  rw [if_pos rfl]
theorem get_tl {nx n m : Nat} {o : O} {l : List (Nat × O)} {low : Nat} (h : m ≠ n) : (Hm.mk nx ((m, o) :: l) low).get n = (Hm.mk nx l low).get n := by
  show (if m = n then _ else _) = _
  rw [if_neg h]; rfl
theorem put_hd {nx n : Nat} {o u : O} {l : List (Nat × O)} {low : Nat} {b : Bool} (hb : b = true) : (Hm.mk nx ((n, o) :: l) low).put n u b = ⟨nx, (n, u) :: l, low⟩ := by
  subst hb
  show Hm.mk nx (if n = n then _ else _) low = _
  rw [if_pos rfl]
theorem atI0 {α : Type} (x : α) (xs : List α) : atI (x :: xs) 0 = some x := by
  have h : (0 : Int) < ((x :: xs).length : Int) := by simp only [List.length_cons]; omega
  unfold atI ixN
  rw [if_pos (Int.le_refl 0), if_pos h]; rfl
theorem abs0 (c : Int) : 0 ≤ (if c < 0 then -c else c) := by split <;> omega
theorem cMul_r {i j : Int} (h1 : -18446744073709551616 < j) (h2 : j < 18446744073709551616) : cMul i j = true := by
  unfold cMul
  rw [decide_eq_true h1, decide_eq_true h2]
  simp
theorem cMul_l {i j : Int} (h1 : -18446744073709551616 < i) (h2 : i < 18446744073709551616) : cMul i j = true := by
  unfold cMul
  rw [decide_eq_true h1, decide_eq_true h2]
  simp
theorem mul_ok {i j : Int} {hm : Hm} (h : cMul i j = true) : gMulU (.int i) (.int j) hm = some (.int (i * j), hm) := by
  unfold gMulU orM gMul iop
  simp only [h, if_true]
theorem add_ok {i j : Int} {hm : Hm} : gAdd (.int i) (.int j) hm = some (.int (i + j), hm) := rfl
theorem mod_ok {i j : Int} {hm : Hm} (h : 0 < j) : gMod (.int i) (.int j) hm = some (.int (i % j), hm) := by
  unfold gMod iop cMod
  simp only [decide_eq_true h, if_true]
theorem div_ok {i j : Int} {hm : Hm} (h : 0 < j) (h2 : j < 1073741824) : gDiv (.int i) (.int j) hm = some (.int (i / j), hm) := by
  unfold gDiv iop cDiv
  simp only [decide_eq_true h, decide_eq_true h2, Bool.and_self, if_true]
theorem pow18 {hm : Hm} : gPow (.int 10) (.int 18) hm = some (.int 1000000000000000000, hm) := by
  have h : cPow 10 18 = true := by decide +kernel
  unfold gPow iop
  simp only [h, if_true]
  have e : (10 : Int) ^ (Int.toNat 18) = 1000000000000000000 := by decide +kernel
  rw [e]
theorem ge_ok {i j : Int} {hm : Hm} : gGe (.int i) (.int j) hm = some (.bl (decide (j ≤ i)), hm) := rfl
theorem gt_ok {i j : Int} {hm : Hm} : gGt (.int i) (.int j) hm = some (.bl (decide (j < i)), hm) := rfl
theorem unders_ints (n : Nat) : ∀ cs : List Int, D.unders n (cs.map .int) = true
  | [] => rfl
  | c :: r => by
    show (D.under n (.int c) && D.unders n (r.map .int)) = true
    rw [unders_ints n r]; rfl

/-! the readings, run step by step -/
section
variable {env e2 : Env} {h h1 h2 h3 : Hm} {x y d : D}
theorem q_var {i : Nat} (e : env[i]? = some (some d)) : nVar i env h = .ok d h := by
  unfold nVar lift fVar; rw [e]
theorem q_c : nC d env h = .ok d h := rfl
theorem q_lift {α : Type} {m : M α} {a : α} (e : m h = some (a, h1)) : lift m h = .ok a h1 := by unfold lift; rw [e]
theorem q_bnd {α β : Type} {m : N α} {k : α → N β} {a : α} {r : R β} (e : m h = .ok a h1) (e2 : k a h1 = r) : nBnd m k h = r := by
  unfold nBnd; rw [e]; exact e2
theorem q_op {g : D → D → M D} {fa fb : Env → N D} (a : fa env h = .ok x h1) (b : fb env h1 = .ok y h2) (c : g x y h2 = some (d, h3)) : nOp g fa fb env h = .ok d h3 := q_bnd a (q_bnd b (q_lift c))
theorem q_un {g : D → M D} {fa : Env → N D} (a : fa env h = .ok x h1) (c : g x h1 = some (d, h2)) : nUn g fa env h = .ok d h2 := q_bnd a (q_lift c)
theorem q_nil : nNil env h = .ok [] h := rfl
theorem q_cons {f : Env → N D} {g : Env → N (List D)} {xs : List D} (a : f env h = .ok x h1) (b : g env h1 = .ok xs h2) : nCons f g env h = .ok (x :: xs) h2 := q_bnd a (q_bnd b rfl)
theorem q_call {g : List D → M D} {fa : Env → N (List D)} {xs : List D} (a : fa env h = .ok xs h1) (c : g xs h1 = some (d, h2)) : nCall g fa env h = .ok d h2 := q_bnd a (q_lift c)
theorem q_test {f : Env → N D} {b : Bool} (a : f env h = .ok (.bl b) h1) : nTest f env h = .ok b h1 := q_bnd a rfl
theorem q_ifE {c : Env → N Bool} {f g : Env → N D} {b : Bool} {r : R D} (a : c env h = .ok b h1) (t : (if b = true then f env else g env) h1 = r) : nIfE c f g env h = r := q_bnd a t
theorem q_thn {α : Type} {f : Env → N α} {k : α → Sf} {a : α} {r : SR} (e : f env h = .ok a h1) (t : k a env h1 = r) : nThen f k env h = r := by unfold nThen; rw [e]; exact t
theorem q_seq {f g : Sf} {r : SR} (a : f env h = .nx e2 h1) (b : g e2 h1 = r) : nSeq f g env h = r := by unfold nSeq; rw [a]; exact b
theorem q_def_seq_rt {f g : Sf} (a : f env h = .rt d h1) : nSeq f g env h = .rt d h1 := by unfold nSeq; rw [a]
theorem q_set {i : Nat} {f : Env → N D} (a : f env h = .ok d h1) : nSet i f env h = .nx (env.set i (some d)) h1 := q_thn a rfl
theorem q_ret {f : Env → N D} (a : f env h = .ok d h1) : nRet f env h = .rt d h1 := q_thn a rfl
theorem q_if {c : Env → N Bool} {f g : Sf} {b : Bool} {r : SR} (a : c env h = .ok b h1) (t : (if b = true then f else g) env h1 = r) : nIf c f g env h = r := q_thn a t
theorem q_ifF {c : Env → N Bool} {f g : Sf} {b : Bool} (a : c env h = .ok b h1) (t : b = false) : nIf c f g env h = g env h1 := by subst t; exact q_thn a rfl
theorem q_skip {s : SR} (a : s = nSkip env h) : s = .nx env h := a
theorem q_asg {f : Env → N D} {g : D → Env → M Env} (a : f env h = .ok d h1) (b : g d env h1 = some (e2, h2)) : nAsg f g env h = .nx e2 h2 := q_thn a (by simp only [b])
theorem q_sub {fo fi : Env → N D} {v : D} (a : fo env h = .ok x h1) (b : fi env h1 = .ok y h2) (c : mKeep h2 x y v = some h3) : nSubD fo fi v env h = some (env, h3) := by unfold nSubD; simp only [a, b, c]
theorem q_cal {n : Nat} {g : List D → N D} {fa : Env → N (List D)} {xs : List D} {r : R D} (a : fa env h = .ok xs h1) (l : Nat.beq (xs ++ []).length n = true) (c : g (xs ++ []) h1 = r) : nCallD n g [] fa env h = r := q_bnd a (by unfold callOf; rw [if_pos l]; exact c)
theorem q_def {n : Nat} {body : Sf} {ds : List D} {d' : D} {h2 : Hm} (a : body (enter n ds) h = .rt d h1) (t : trunc h.nx d h1 = (d', h2)) : nDef n body ds h = .ok d' h2 := by unfold nDef; rw [a]; simp only [t]
theorem q_orT {fa fb : Env → N D} {k : Bool} {r : R D} (a : fa env h = .ok x h1) (b : truOf h1 x = some k) (t : (if k = true then rOk x else fb env) h1 = r) : nOrT fa fb env h = r := q_bnd a (q_bnd (q_lift (by unfold mTru; rw [b])) t)
end
theorem trunc_under {n0 : Nat} {d : D} {hm : Hm} (h1 : n0 ≤ hm.low) (h2 : D.under n0 d = true) : trunc n0 d hm = (d, ⟨n0, hm.keep n0, hm.low⟩) := by
  unfold trunc; rw [if_pos h1, if_pos h2]
theorem trunc_ints {n0 r : Nat} {cs : List Int} {hm : Hm} (h1 : n0 ≤ hm.low) (h2 : n0 ≤ r) (h3 : hm.get r = some (.lst (cs.map .int))) : trunc n0 (.ref r) hm = (.ref n0, ⟨n0 + 1, (n0, .lst (cs.map .int)) :: hm.keep n0, hm.low⟩) := by
  have h : D.under n0 (.ref r) = false := by unfold D.under; exact decide_eq_false (by omega)
  unfold trunc
  rw [if_pos h1, h, if_neg Bool.false_ne_true]
  simp only [h3, unders_ints, if_true]
theorem box_ok (nx : Nat) (hnx : nx + 2 ≤ top) (c : Int) (cs : List Int) : ∃ a b, 0 ≤ a ∧ 0 ≤ b ∧ b < 4611686018427387904 ∧
    f__law_box [.ref nx, .int 0] ⟨nx + 1, [(nx, .lst ((c :: cs).map .int))], top⟩ = .ok (.ref (nx + 1)) ⟨nx + 2, [(nx + 1, .lst [.int a, .int b, .int 0]), (nx, .lst ((c :: cs).map .int))], top⟩ := by
  refine ⟨(if c < 0 then -c else c) * (if decide (1000000000000000000 ≤ (if c < 0 then -c else c)) = true then 1 else 0), c % 2305843009213693951 + 39373 * 0 + 3175051, ?_, ?_, ?_, ?_⟩
  · split <;> split <;> omega
  · omega
  · omega
  · have m1 : cMul (if c < 0 then -c else c) (if decide (1000000000000000000 ≤ (if c < 0 then -c else c)) = true then 1 else 0) = true := cMul_r (by split <;> omega) (by split <;> omega)
    have m2 : cMul 39373 0 = true := by decide +kernel
    have e1 : (0 : Int) < (((c :: cs).map D.int).length : Int) := by simp only [List.map_cons, List.length_cons]; omega
    have e3 : (3 ≤ big) := by decide
    have gl : gLenU [.ref nx] ⟨nx + 1, [(nx, .lst ((c :: cs).map D.int))], top⟩ = some (.int (((c :: cs).map D.int).length : Int), ⟨nx + 1, [(nx, .lst ((c :: cs).map D.int))], top⟩) := by
      unfold gLenU orC gLenQ
      simp only [seqOf, itemsAt, get_hd]
    have gi : gIx (.ref nx) (.int 0) ⟨nx + 1, [(nx, .lst ((c :: cs).map D.int))], top⟩ = some (.int c, ⟨nx + 1, [(nx, .lst ((c :: cs).map D.int))], top⟩) := by
      unfold gIx
      simp only [itemsAt, get_hd, List.map_cons, atI0]
    unfold f__law_box b__law_box
    refine q_def (q_seq (q_set (q_ifE (q_test (q_op (q_var rfl) (q_call (q_cons (q_var rfl) q_nil) gl) rfl)) (by rw [if_pos (decide_eq_true e1)]; exact q_op (q_var rfl) (q_var rfl) gi)))
      (q_ret (q_call (q_cons (q_op (q_call (q_cons (q_var rfl) q_nil) rfl) (q_call (q_cons (q_op (q_call (q_cons (q_var rfl) q_nil) rfl) (q_op q_c q_c pow18) ge_ok) q_nil) rfl) (mul_ok m1))
        (q_cons (q_op (q_op (q_op (q_call (q_cons (q_var rfl) q_nil) rfl) q_c (mod_ok (by decide))) (q_op q_c (q_var rfl) (mul_ok m2)) add_ok) q_c add_ok) (q_cons q_c q_nil))) (by unfold mLst; rw [if_pos (by exact e3)])))) ?_
    refine (trunc_ints (cs := [_, _, _]) (n0 := nx + 1) ?_ ?_ get_hd).trans ?_
    · show nx + 1 ≤ top; omega
    · show nx + 1 ≤ nx + 1; omega
    · have k1 : decide (nx + 1 < nx + 1) = false := decide_eq_false (by omega)
      have k2 : decide (nx < nx + 1) = true := decide_eq_true (by omega)
      unfold Hm.keep
      simp only [Hm.new, List.filter, k1, k2]
      rfl
theorem keep_sub {nx n : Nat} {xs : List D} {l : List (Nat × O)} {low j : Nat} {k v : Int} (hj : ixN xs.length k = some j) : mKeep ⟨nx, (n, .lst xs) :: l, low⟩ (.ref n) (.int k) (.int v) = some ⟨nx, (n, .lst (xs.set j (.int v))) :: l, low⟩ := by
  unfold mKeep lKeep
  simp only [get_hd, hj]
  exact congrArg some (put_hd rfl)
theorem ix_hd {nx n : Nat} {xs : List D} {l : List (Nat × O)} {low : Nat} {k : Int} {d : D} (hj : atI xs k = some d) : gIx (.ref n) (.int k) ⟨nx, (n, .lst xs) :: l, low⟩ = some (d, ⟨nx, (n, .lst xs) :: l, low⟩) := by
  unfold gIx
  simp only [itemsAt, get_hd, hj]
theorem at3_0 (a b c : D) : atI [a, b, c] 0 = some a := rfl
theorem at3_1 (a b c : D) : atI [a, b, c] 1 = some b := rfl
theorem at3_2 (a b c : D) : atI [a, b, c] 2 = some c := rfl
/-- one draw -/
theorem take_ok {nx n : Nat} {l : List (Nat × O)} {a b c m : Int} (hn : n < nx) (hnx : nx ≤ top) (hl : l.filter (fun p => decide (p.1 < nx)) = l) (ha : 0 ≤ a) (hb : 0 ≤ b) (hb2 : b < 4611686018427387904) (hc : 0 ≤ c) (hc2 : c < 1000000) (hm : 0 < m) (hm2 : m < 1073741824) :
    ∃ r a' c', 0 ≤ r ∧ r < m ∧ 0 ≤ a' ∧ 0 ≤ c' ∧ c' ≤ c + 1 ∧ f__law_take [.ref n, .int m] ⟨nx, (n, .lst [.int a, .int b, .int c]) :: l, top⟩ = .ok (.int r) ⟨nx, (n, .lst [.int a', .int b, .int c']) :: l, top⟩ := by
  have kp : ∀ o : O, (Hm.mk nx ((n, o) :: l) top).keep nx = (n, o) :: l := fun o => by
    have k1 : decide (n < nx) = true := decide_eq_true hn
    unfold Hm.keep
    simp only [List.filter, k1]
    rw [hl]
  have tr : ∀ (r : Int) (o : O), trunc nx (.int r) ⟨nx, (n, o) :: l, top⟩ = (.int r, ⟨nx, (n, o) :: l, top⟩) := fun r o => by
    rw [trunc_under hnx rfl, kp]
  have cond : nTest (nOp gGt (nOp gIx (nVar 0) (nC (.int 0))) (nC (.int 0))) (enter 6 [.ref n, .int m]) ⟨nx, (n, .lst [.int a, .int b, .int c]) :: l, top⟩ = .ok (decide (0 < a)) ⟨nx, (n, .lst [.int a, .int b, .int c]) :: l, top⟩ := q_test (q_op (q_op (q_var rfl) q_c (ix_hd (at3_0 ..))) q_c gt_ok)
  unfold f__law_take b__law_take
  by_cases h : 0 < a
  · refine ⟨a % m, a / m, c, Int.emod_nonneg _ (by omega), Int.emod_lt_of_pos _ hm, Int.ediv_nonneg ha (by omega), hc, by omega, ?_⟩
    refine q_def (d' := .int (a % m)) (q_def_seq_rt (q_if cond ?_)) (tr _ _)
    rw [if_pos (decide_eq_true h)]
    exact q_seq (q_set (q_op (q_call (q_cons (q_op (q_var rfl) q_c (ix_hd (at3_0 ..))) q_nil) rfl) (q_var rfl) (mod_ok hm)))
      (q_seq (q_asg (q_op (q_op (q_var rfl) q_c (ix_hd (at3_0 ..))) (q_var rfl) (div_ok hm hm2)) (q_sub (q_var rfl) q_c (keep_sub (j := 0) rfl))) (q_ret (q_var rfl)))
  · have H : ∀ o : Int, 0 ≤ o → o < 2147483647 → o % 40009 + 7 < 50000 ∧ 0 ≤ o % 40009 + 7 := fun o h1 h2 => by omega
    let c1 := c + 1
    let once := ((b + 48271 * c1) * (39373 + c1)) % 2147483647
    let wide := once % 40009 + 7
    let twice := ((once + c1 + b / 1000003) * wide) % 2147483629
    have ho1 : 0 ≤ once := Int.emod_nonneg _ (by decide)
    have ho2 : once < 2147483647 := Int.emod_lt_of_pos _ (by decide)
    have ht1 : 0 ≤ twice := Int.emod_nonneg _ (by decide)
    have ht2 : twice < 2147483629 := Int.emod_lt_of_pos _ (by decide)
    have hw := H once ho1 ho2
    have hc1 : c1 = c + 1 := rfl
    refine ⟨((twice * 48271 + once) % 2147483587 / 64) % m, a, c1, Int.emod_nonneg _ (by omega), Int.emod_lt_of_pos _ hm, ha, by omega, by omega, ?_⟩
    refine q_def (d' := .int (((twice * 48271 + once) % 2147483587 / 64) % m)) (q_seq (q_skip (q_ifF cond (decide_eq_false h))) ?_) (tr _ _)
    · exact q_seq (q_asg (q_op (q_op (q_var rfl) q_c (ix_hd (at3_2 ..))) q_c add_ok) (q_sub (q_var rfl) q_c (keep_sub (j := 2) rfl)))
        (q_seq (q_set (q_op (q_call (q_cons (q_op (q_op (q_op (q_var rfl) q_c (ix_hd (at3_1 ..))) (q_op q_c (q_op (q_var rfl) q_c (ix_hd (at3_2 ..))) (mul_ok (cMul_l (by decide) (by decide)))) add_ok) (q_op q_c (q_op (q_var rfl) q_c (ix_hd (at3_2 ..))) add_ok) (mul_ok (cMul_r (by omega) (by omega)))) q_nil) rfl) q_c (mod_ok (by decide))))
        (q_seq (q_set (q_op (q_op (q_call (q_cons (q_var rfl) q_nil) rfl) q_c (mod_ok (by decide))) q_c add_ok))
        (q_seq (q_set (q_op (q_call (q_cons (q_op (q_op (q_op (q_var rfl) (q_op (q_var rfl) q_c (ix_hd (at3_2 ..))) add_ok) (q_op (q_op (q_var rfl) q_c (ix_hd (at3_1 ..))) q_c (div_ok (by decide) (by decide))) add_ok) (q_var rfl) (mul_ok (cMul_r (by have := hw.2; show -18446744073709551616 < once % 40009 + 7; omega) (by have := hw.1; show once % 40009 + 7 < 18446744073709551616; omega)))) q_nil) rfl) q_c (mod_ok (by decide))))
        (q_ret (q_op (q_call (q_cons (q_op (q_op (q_call (q_cons (q_op (q_op (q_var rfl) q_c (mul_ok (cMul_r (by decide) (by decide)))) (q_var rfl) add_ok) q_nil) rfl) q_c (mod_ok (by decide))) q_c (div_ok (by decide) (by decide))) q_nil) rfl) (q_var rfl) (mod_ok hm))))))
end Eng

namespace Eng
open PySem L2
set_option maxRecDepth 100000
theorem same_int (i : Int) : D.same (.int i) (.int i) = true := by unfold D.same; exact decide_eq_true rfl
theorem sames_ints : ∀ xs : List Int, D.sames (xs.map .int) (xs.map .int) = true
  | [] => by unfold D.sames; rfl
  | x :: r => by
    show D.sames (.int x :: r.map .int) (.int x :: r.map .int) = true
    unfold D.sames
    rw [same_int, sames_ints r]; rfl
theorem atI_nat' {α : Type} {xs : List α} {i : Int} (h0 : 0 ≤ i) (h1 : i < (xs.length : Int)) : atI xs i = some (xs[i.toNat]'(by omega)) := by
  unfold atI ixN
  rw [if_pos h0, if_pos h1]
  show xs[i.toNat]? = _
  exact List.getElem?_eq_getElem (by omega)
theorem ixN_pos {n : Nat} {i : Int} (h0 : 0 ≤ i) (h1 : i < (n : Int)) : ixN n i = some i.toNat := by
  unfold ixN; rw [if_pos h0, if_pos h1]
/-- the heap in the loop -/
def hmC (nx : Nat) (sl : List D) (cs : List Int) (o : O) : Hm := ⟨nx + 3, [(nx + 2, .lst sl), (nx + 1, .lst (cs.map .int)), (nx, o)], top⟩
theorem hmC_get {nx : Nat} {sl : List D} {cs : List Int} {o : O} : (hmC nx sl cs o).get (nx + 1) = some (.lst (cs.map .int)) := (get_tl (by omega)).trans get_hd
def cellsBody : Sf := (nSeq (nSet 5 (nOp gMod (nCall gInt (nCons (nVar 3) nNil)) (nVar 1))) (nAsg (nOp gAdd (nOp gIx (nVar 2) (nVar 5)) (nOp gMulU (nVar 4) (nOp gAdd (nVar 3) (nC (.int 2))))) (nSubD (nVar 2) (nVar 5))))
theorem cells_body {nx : Nat} {sl : List D} {cs : List Int} {o : O} {d0 : D} {m k : Nat} {y : Int} {a5 : Option D} (hm : 0 < m) (hk : k < 100) (hl : cs.length = m) :
    ∃ cs' a5', cs'.length = m ∧ cellsBody [some d0, some (.int m), some (.ref (nx + 1)), some (.int k), some (.int y), a5] (hmC nx sl cs o) = .nx [some d0, some (.int m), some (.ref (nx + 1)), some (.int k), some (.int y), a5'] (hmC nx sl cs' o) := by
  have h0 : (0 : Int) ≤ (k : Int) % (m : Int) := Int.emod_nonneg _ (by omega)
  have h1 : (k : Int) % (m : Int) < (m : Int) := Int.emod_lt_of_pos _ (by omega)
  have hL : ((cs.map D.int).length : Int) = (m : Int) := by rw [List.length_map, hl]
  let j := ((k : Int) % (m : Int)).toNat
  have hj : j < cs.length := by show ((k : Int) % (m : Int)).toNat < _; omega
  have ei : gIx (.ref (nx + 1)) (.int ((k : Int) % (m : Int))) (hmC nx sl cs o) = some (.int cs[j], hmC nx sl cs o) := by
    unfold gIx
    simp only [itemsAt, hmC_get]
    rw [atI_nat' h0 (by rw [hL]; exact h1)]
    simp only [List.getElem_map]
    rfl
  have ek : ∀ v : Int, mKeep (hmC nx sl cs o) (.ref (nx + 1)) (.int ((k : Int) % (m : Int))) (.int v) = some (hmC nx sl (cs.set j v) o) := fun v => by
    unfold mKeep lKeep
    simp only [hmC_get]
    rw [ixN_pos h0 (by rw [hL]; exact h1)]
    show some (Hm.mk (nx + 3) (if nx + 2 = nx + 1 then _ else (nx + 2, .lst sl) :: (if nx + 1 = nx + 1 then _ else _)) top) = _
    rw [if_neg (by omega), if_pos rfl]
    unfold hmC
    rw [List.map_set]
  refine ⟨cs.set j (cs[j] + y * ((k : Int) + 2)), some (.int ((k : Int) % (m : Int))), by rw [List.length_set]; exact hl, ?_⟩
  exact q_seq (q_set (q_op (q_call (q_cons (q_var rfl) q_nil) rfl) (q_var rfl) (mod_ok (by omega))))
    (q_asg (q_op (q_op (q_var rfl) (q_var rfl) ei) (q_op (q_var rfl) (q_op (q_var rfl) q_c add_ok) (mul_ok (cMul_r (by omega) (by omega)))) add_ok) (q_sub (q_var rfl) (q_var rfl) (ek _)))
abbrev cellsG : D → Env → M Env := gT 2 (gsC (gN 3) (gsC (gN 4) gsN))
theorem cells_tgt {d0 d1 d2 : D} {a3 a4 a5 : Option D} {k : Nat} {y : Int} {h : Hm} : cellsG (.tup [.int k, .int y]) [some d0, some d1, some d2, a3, a4, a5] h = some ([some d0, some d1, some d2, some (.int k), some (.int y), a5], h) := rfl
theorem cells_loop {nx : Nat} {sl : List Int} {o : O} {d0 : D} {m : Nat} (hm : 0 < m) : ∀ (ys : List Int) (k : Nat) (cs : List Int) (a3 a4 a5 : Option D), k + ys.length < 100 → (ys ≠ [] → cs.length = m) →
    ∃ cs' a3' a4' a5', cs'.length = cs.length ∧ nLoop cellsG cellsBody (chkL (nx + 2) (sl.map .int)) (enumD k (ys.map .int)) [some d0, some (.int m), some (.ref (nx + 1)), a3, a4, a5] (hmC nx (sl.map .int) cs o) = .nx [some d0, some (.int m), some (.ref (nx + 1)), a3', a4', a5'] (hmC nx (sl.map .int) cs' o) := by
  have chk : ∀ cs, chkL (nx + 2) (sl.map .int) (hmC nx (sl.map .int) cs o) = true := fun cs => by
    unfold chkL itemsAt hmC
    simp only [get_hd, sames_ints]
  intro ys
  induction ys with
  | nil =>
    intro k cs a3 a4 a5 _ _
    refine ⟨cs, a3, a4, a5, rfl, ?_⟩
    show (if _ then _ else _) = _
    rw [if_pos (chk cs)]
  | cons y ys ih =>
    intro k cs a3 a4 a5 hk hl
    obtain ⟨cs1, b5, h1, h2⟩ := cells_body (nx := nx) (sl := sl.map .int) (o := o) (d0 := d0) (k := k) (y := y) (a5 := a5) hm (by simp only [List.length_cons] at hk; omega) (hl (by simp))
    obtain ⟨cs2, b3', b4', b5', h3, h4⟩ := ih (k + 1) cs1 (some (.int k)) (some (.int y)) b5 (by simp only [List.length_cons] at hk; omega) (fun _ => h1)
    refine ⟨cs2, b3', b4', b5', by rw [h3, h1, hl (by simp)], ?_⟩
    show (if _ then _ else _) = _
    rw [if_pos (chk cs)]
    simp only [cells_tgt, h2]
    exact h4
end Eng
namespace Eng
open PySem L2
set_option maxRecDepth 100000
section
variable {env e2 : Env} {h h1 h2 h3 : Hm} {x y d : D}
theorem q_sl {fa : Env → N D} {fl fh : Env → N (Option Int)} {lo hi : Option Int} {h4 : Hm} (a : fa env h = .ok x h1) (b : fl env h1 = .ok lo h2) (c : fh env h2 = .ok hi h3) (e : gSl x lo hi h3 = some (d, h4)) : nSl fa fl fh env h = .ok d h4 := q_bnd a (q_bnd b (q_bnd c (q_lift e)))
theorem q_noP : nNoP env h = .ok none h := rfl
theorem q_P {f : Env → N D} {i : Int} (a : f env h = .ok (.int i) h1) : nP f env h = .ok (some i) h1 := q_bnd a rfl
theorem q_for {src : NSrc} {g : D → Env → M Env} {b : Sf} {xs : List D} {chk : Hm → Bool} {r : SR} (a : src env h = .ok (xs, chk) h1) (e : nLoop g b chk xs env h1 = r) : nFor src g b env h = r := q_thn a e
theorem q_enum {fa : Env → N (List D)} {n : Nat} {xs : List D} (a : fa env h = .ok [.ref n] h1) (e : itemsAt h1 n = some xs) : nEnum fa env h = .ok (enumD 0 xs, chkL n xs) h1 := q_bnd a (q_lift (by unfold srcEn; simp only [e]))
end
theorem cut_take {xs : List Int} {m : Nat} : cutD (xs.map .int) none (some (m : Int)) = (xs.take m).map .int := by
  unfold cutD
  rw [HT.sIx_none, HT.sIx_nat, List.drop_zero, Nat.sub_zero, ← List.map_take, List.length_map]
  congr 1
  rw [← List.take_take, List.take_length]
theorem map_cut {xs : List Int} {lo hi : Option Int} : cutD (xs.map .int) lo hi = (((xs.drop (HT.sIx xs.length 0 lo)).take (HT.sIx xs.length xs.length hi - HT.sIx xs.length 0 lo))).map .int := by
  unfold cutD
  rw [List.length_map, List.map_take, List.map_drop]
theorem cells_fin {nx : Nat} (hnx : nx + 4 ≤ top) {cs : List Int} {r : Nat} {l : List (Nat × O)} {n2 : Nat} (hr : nx ≤ r) (hg : (Hm.mk n2 l top).get r = some (.lst (cs.map .int))) (hl : l.filter (fun p => decide (p.1 < nx)) = []) :
    trunc nx (.ref r) ⟨n2, l, top⟩ = (.ref nx, ⟨nx + 1, [(nx, .lst (cs.map .int))], top⟩) := by
  rw [trunc_ints (by show nx ≤ top; omega) hr hg]
  unfold Hm.keep
  simp only [hl]
theorem filt_no {nx : Nat} : ∀ {l : List (Nat × O)}, (∀ p ∈ l, nx ≤ p.1) → l.filter (fun p => decide (p.1 < nx)) = []
  | [], _ => rfl
  | p :: r, h => by
    have k : decide (p.1 < nx) = false := decide_eq_false (by have := h p List.mem_cons_self; omega)
    simp only [List.filter, k]
    exact filt_no fun q hq => h q (List.mem_cons_of_mem _ hq)
theorem cells_ok (nx : Nat) (hnx : nx + 4 ≤ top) (ns : List Int) (hns : ns.length ≤ 63) (m : Nat) (hm : 0 < m) : ∃ cs : List Int, cs.length = max 1 (min m ns.length) ∧
    f__law_cells [.kl (ns.map .int), .int m] ⟨nx, [], top⟩ = .ok (.ref nx) ⟨nx + 1, [(nx, .lst (cs.map .int))], top⟩ := by
  let c0 := ns.take m
  let sl := (ns.drop (HT.sIx ns.length 0 (some m))).take (HT.sIx ns.length ns.length (some 63) - HT.sIx ns.length 0 (some m))
  have hsl : sl.length ≤ ns.length - min m ns.length := by
    show (List.take _ (List.drop _ ns)).length ≤ _
    rw [List.length_take, List.length_drop, HT.sIx_nat]
    omega
  have s1 : ∀ (e3 : List (Option D)), nCall gList (nCons (nSl (nVar 0) nNoP (nP (nVar 1))) nNil) (some (.kl (ns.map .int)) :: some (.int m) :: e3) ⟨nx, [], top⟩ = .ok (.ref (nx + 1)) ⟨nx + 2, [(nx + 1, .lst (c0.map .int)), (nx, .lst (c0.map .int))], top⟩ := fun e3 => by
    have a1 : gSl (.kl (ns.map .int)) none (some (m : Int)) ⟨nx, [], top⟩ = some (.ref nx, ⟨nx + 1, [(nx, .lst (c0.map .int))], top⟩) := by
      show some (D.ref nx, Hm.mk (nx + 1) [(nx, .lst (cutD (ns.map .int) none (some (m : Int))))] top) = _
      rw [cut_take]
    have a2 : gList [.ref nx] ⟨nx + 1, [(nx, .lst (c0.map .int))], top⟩ = some (.ref (nx + 1), ⟨nx + 2, [(nx + 1, .lst (c0.map .int)), (nx, .lst (c0.map .int))], top⟩) := by
      unfold gList orC gListQ
      simp only [seqOf, itemsAt, get_hd]
      rfl
    exact q_call (q_cons (q_sl (q_var rfl) q_noP (q_P (q_var rfl)) a1) q_nil) a2
  have s2 : ∀ (e3 : List (Option D)) (n2 : Nat) (l : List (Nat × O)), nEnum (nCons (nSl (nVar 0) (nP (nVar 1)) (nP (nC (.int 63)))) nNil) (some (.kl (ns.map .int)) :: some (.int m) :: e3) ⟨n2, l, top⟩ = .ok (enumD 0 (sl.map .int), chkL n2 (sl.map .int)) ⟨n2 + 1, (n2, .lst (sl.map .int)) :: l, top⟩ := fun e3 n2 l => by
    have a1 : gSl (.kl (ns.map .int)) (some (m : Int)) (some 63) ⟨n2, l, top⟩ = some (.ref n2, ⟨n2 + 1, (n2, .lst (sl.map .int)) :: l, top⟩) := by
      show some (D.ref n2, Hm.mk (n2 + 1) ((n2, .lst (cutD (ns.map .int) (some (m : Int)) (some 63))) :: l) top) = _
      rw [map_cut]
    exact q_enum (q_cons (q_sl (q_var rfl) (q_P (q_var rfl)) (q_P q_c) a1) q_nil) (by unfold itemsAt; simp only [get_hd])
  unfold f__law_cells b__law_cells
  by_cases hz : ns = []
  · have hc0 : c0 = [] := by show List.take m ns = []; rw [hz, List.take_nil]
    have hsl0 : sl = [] := by show List.take _ (List.drop _ ns) = []; rw [hz, List.drop_nil, List.take_nil]
    rw [hc0] at s1
    rw [hsl0] at s2
    refine ⟨[0], by rw [hz]; simp, ?_⟩
    refine q_def (d' := .ref nx) (q_seq (q_set (q_orT (s1 _) (k := false) (by unfold truOf; simp only [get_hd]; rfl) (q_call (q_cons q_c q_nil) rfl)))
      (q_seq (q_for (s2 _ _ _) (r := .nx [some (.kl (ns.map .int)), some (.int m), some (.ref (nx + 2)), none, none, none] ⟨nx + 4, [(nx + 3, .lst []), (nx + 2, .lst [.int 0]), (nx + 1, .lst []), (nx, .lst [])], top⟩) ?_) (q_ret (q_var rfl)))) ?_
    · show (if _ then _ else _) = _
      rw [if_pos (by unfold chkL itemsAt; simp only [List.map_nil, get_hd]; rfl)]
      rfl
    · exact cells_fin (cs := [0]) hnx (by omega) ((get_tl (by omega)).trans get_hd) (filt_no fun p hp => by
        simp only [List.mem_cons, List.not_mem_nil, or_false] at hp
        rcases hp with rfl | rfl | rfl | rfl <;> simp)
  · have hl0 : 0 < ns.length := List.length_pos_iff.mpr hz
    have hcl : c0.length = min m ns.length := List.length_take
    obtain ⟨cs, a3, a4, a5, e1, e2⟩ := cells_loop (nx := nx) (sl := sl) (o := .lst (c0.map .int)) (d0 := .kl (ns.map .int)) hm sl 0 c0 none none none (by omega) (fun h => by
      have : 0 < sl.length := List.length_pos_iff.mpr h
      omega)
    refine ⟨cs, by omega, ?_⟩
    refine q_def (d' := .ref nx) (q_seq (q_set (q_orT (s1 _) (k := true) ?_ rfl))
      (q_seq (q_for (s2 _ _ _) e2) (q_ret (q_var rfl)))) ?_
    · unfold truOf
      simp only [get_hd]
      have : c0 ≠ [] := fun e => by rw [e] at hcl; simp at hcl; omega
      cases h : c0 with
      | nil => exact absurd h this
      | cons => rfl
    · exact cells_fin (cs := cs) hnx (by omega) hmC_get (filt_no fun p hp => by
        simp only [List.mem_cons, List.not_mem_nil, or_false] at hp
        rcases hp with rfl | rfl | rfl <;> simp)
end Eng
namespace Eng
open PySem L2
set_option maxRecDepth 100000
def okAt (r : R D) (nx : Nat) : Bool := match r with
  | .ok (.bl b) ⟨n, [], low⟩ => b && (Nat.beq n nx && Nat.beq low top)
  | _ => false
theorem okAt_eq {r : R D} {nx : Nat} (h : okAt r nx = true) : r = .ok (.bl true) ⟨nx, [], top⟩ := by
  unfold okAt at h
  split at h
  · rename_i b n low
    rw [Bool.and_eq_true, Bool.and_eq_true] at h
    obtain ⟨rfl, h1, h2⟩ := h
    rw [Nat.eq_of_beq_eq_true h1, Nat.eq_of_beq_eq_true h2]
  · cases h
theorem q_not {c : Env → N Bool} {env : Env} {h h1 : Hm} {b : Bool} (a : c env h = .ok b h1) : nNot c env h = .ok (!b) h1 := q_bnd a rfl
theorem q_ifG {c : Env → N Bool} {f g : Env → N D} {env : Env} {h h1 : Hm} {b : Bool} {r : R D} (a : c env h = .ok b h1) (t : (if b = true then f env h1.gone else g env h1.gone) = r) : nIfG c f g env h = r := q_bnd a t
theorem eq_int {i j : Int} {h : Hm} : ∃ b, eqG true (.int i) (.int j) h = some (.bl b, h) := ⟨_, rfl⟩
theorem trunc_bl {n0 : Nat} {b : Bool} {hm : Hm} : (trunc n0 (.bl b) hm).1 = .bl b := by
  unfold trunc
  split
  · rfl
  · rfl
theorem def_true {n : Nat} {body : Sf} {ds : List D} {h h1 : Hm} (a : body (enter n ds) h = .rt (.bl true) h1) : isTrueN (nDef n body ds h) = true := by
  unfold nDef; rw [a]
  show isTrueN (.ok (trunc h.nx (.bl true) h1).1 _) = true
  rw [trunc_bl]; rfl
theorem law_of (b1 : okAt (f__law_always_right [] ⟨16, [], top⟩) 16 = true) (b2 : isTrueN (f__law_refused_right [] ⟨18, [], top⟩) = true) (b3 : isTrueN (f__law_soft_right [] ⟨18, [], top⟩) = true) (ns : List Int) (hns : ns.length ≤ 63) : isTrueN (f_law [.kl (ns.map .int)] ⟨16, [], top⟩) = true := by
  obtain ⟨cs, hc, e1⟩ := cells_ok 16 (by decide) ns hns 1 (by decide)
  cases cs with
  | nil => simp at hc; omega
  | cons c cs =>
    obtain ⟨a, b, ha, hb, hb2, e2⟩ := box_ok 16 (by decide) c cs
    obtain ⟨r, a', c', hr, hr2, _, _, _, e3⟩ := take_ok (nx := 18) (n := 17) (l := [(16, .lst ((c :: cs).map .int))]) (m := 2) (by decide) (by decide) (by rfl) ha hb hb2 (by decide : (0 : Int) ≤ 0) (by decide) (by decide) (by decide)
    obtain ⟨bb, e4⟩ := eq_int (i := r) (j := 0) (h := ⟨18, [(17, .lst [.int a', .int b, .int c']), (16, .lst ((c :: cs).map .int))], top⟩)
    have x1 := okAt_eq b1
    obtain ⟨h2, x2⟩ := isTrueN_eq b2
    obtain ⟨h3, x3⟩ := isTrueN_eq b3
    have z : ∃ h', nIfG (nTest (nOp (eqG true) (nCallD 2 f__law_take [] (nCons (nCallD 2 f__law_box [] (nCons (nCallD 2 f__law_cells [] (nCons (nVar 0) (nCons (nC (.int 1)) nNil))) (nCons (nC (.int 0)) nNil))) (nCons (nC (.int 2)) nNil))) (nC (.int 0)))) (nCallD 0 f__law_refused_right [] nNil) (nCallD 0 f__law_soft_right [] nNil) (enter 1 [.kl (ns.map .int)]) ⟨16, [], top⟩ = .ok (.bl true) h' := by
      cases bb with
      | true => exact ⟨h2, q_ifG (q_test (q_op (q_cal (q_cons (q_cal (q_cons (q_cal (q_cons (q_var rfl) (q_cons q_c q_nil)) rfl e1) (q_cons q_c q_nil)) rfl e2) (q_cons q_c q_nil)) rfl e3) q_c e4)) (by rw [if_pos rfl]; exact q_cal q_nil rfl x2)⟩
      | false => exact ⟨h3, q_ifG (q_test (q_op (q_cal (q_cons (q_cal (q_cons (q_cal (q_cons (q_var rfl) (q_cons q_c q_nil)) rfl e1) (q_cons q_c q_nil)) rfl e2) (q_cons q_c q_nil)) rfl e3) q_c e4)) (by rw [if_neg Bool.false_ne_true]; exact q_cal q_nil rfl x3)⟩
    obtain ⟨h', z⟩ := z
    unfold f_law b_law
    exact def_true (q_seq (q_skip (q_ifF (q_not (q_test (q_cal q_nil rfl x1))) rfl)) (q_ret z))
end Eng
set_option maxRecDepth 100000
namespace Eng
open PySem L2
theorem b51a : okAt (f__law_always_right [] ⟨16, [], top⟩) 16 = true := by decide +kernel
theorem b51b : isTrueN (f__law_refused_right [] ⟨18, [], top⟩) = true := by decide +kernel
theorem b51c : isTrueN (f__law_soft_right [] ⟨18, [], top⟩) = true := by decide +kernel
end Eng
set_option maxRecDepth 100000
set_option maxHeartbeats 4000000
/-! The top: what stands there of defs and classes, as the readings need it. -/
namespace Eng
open PySem PySem.Spec PySem.W PyProof.Rows PySem.HandSPX L2
/-- a def without defaults -/
structure Df (K : PySem.W.Frag) (x : Str) (st : Stmt) (f : Addr) (fd : FuncData) : Prop where
  g : nsIn K mainGlobals x = some (some (.ref f))
  F : ∃ (oc : Value) (od : Option Addr) (kV doc pm : Value) (an : Option Addr) (cdv ct : Value) (osl : Array (Option Value)),
    fd = fnOf x x (defArgs st) (defBody st) (defScope st) .none kV doc pm an cdv ct ∧ K.lookup f = some ⟨oc, od, .func fd, osl⟩ ∧ codeIn K cdv x = true
  kp : keepIn K (.ref f) = true
theorem df_mk {K : PySem.W.Frag} {x : Str} {st : Stmt} {f : Addr} {oc : Value} {od an : Option Addr} {osl : Array (Option Value)} {kV doc pm cdv ct : Value} (g : nsIn K mainGlobals x = some (some (.ref f)))
    (l : K.lookup f = some ⟨oc, od, .func (fnOf x x (defArgs st) (defBody st) (defScope st) .none kV doc pm an cdv ct), osl⟩) (c : codeIn K cdv x = true) (k : keepIn K (.ref f) = true) : ∃ f fd, Df K x st f fd :=
  ⟨f, _, g, ⟨oc, od, kV, doc, pm, an, cdv, ct, osl, rfl, l, c⟩, k⟩
section
variable {P : Program} {w : World} {K : PySem.W.Frag} {mg : Str → Option Value} {base h : Heap} {G : Gd} {x : Str} {st : Stmt} {f : Addr} {fd : FuncData} {ps : List Str}
theorem Df.fa (D : Df K x st f fd) : FunA K x x st f fd := by
  obtain ⟨oc, od, kV, doc, pm, an, cdv, ct, osl, e, l, c⟩ := D.F
  exact ⟨oc, od, .none, kV, doc, pm, an, cdv, ct, osl, e, l, c⟩
theorem Df.binds (D : Df K x st f fd) (h : ∀ (kV doc pm : Value) (an : Option Addr) (cdv ct : Value) (us : List Value), us.length = ps.length → bindArgs (fnOf x x (defArgs st) (defBody st) (defScope st) .none kV doc pm an cdv ct) ⟨us, []⟩ = pure (ps.zip us)) : Binds K fd ps [] := by
  obtain ⟨oc, od, kV, doc, pm, an, cdv, ct, osl, rfl, l, c⟩ := D.F
  exact .all (h kV doc pm an cdv ct)
theorem Df.bindsK {ks : List Str} {is : List Nat} (D : Df K x st f fd) (h : ∀ (kV doc pm : Value) (an : Option Addr) (cdv ct : Value) (ws : List Value), ws.length = ks.length → bindArgs (fnOf x x (defArgs st) (defBody st) (defScope st) .none kV doc pm an cdv ct) ⟨[], ks.zip ws⟩ = pure (ps.zip (pick is ws))) :
    ∀ (s : Shared) (ws : List Value), K.In s.heap → ws.length = ks.length → BindsTo s fd ⟨[], ks.zip ws⟩ (ps.zip (pick is ws)) := by
  obtain ⟨oc, od, kV, doc, pm, an, cdv, ct, osl, rfl, l, c⟩ := D.F
  exact fun s ws _ hl => .of_eq (h kV doc pm an cdv ct ws hl)
theorem Df.law (D : Df K x st f fd) {y : Str} (h : ∀ (kV doc pm : Value) (an : Option Addr) (cdv ct : Value) (v : Value), bindArgs (fnOf x x (defArgs st) (defBody st) (defScope st) .none kV doc pm an cdv ct) ⟨[v], []⟩ = pure [(y, v)]) : ∀ (s : Shared) (v : Value), BindsTo s fd ⟨[v], []⟩ [(y, v)] := by
  obtain ⟨oc, od, kV, doc, pm, an, cdv, ct, osl, rfl, l, c⟩ := D.F
  exact fun s v => .of_eq (h kV doc pm an cdv ct v)
def calN {k n : Nat} {g : List D → N D} (D : Df K x st f fd) (X : K.In h) (Gm : h.Ns mainGlobals mg) (ok : FnOk P w K mg base (L2.CX P w) k f fd ps (spN G n g)) (b : Binds K fd ps []) : CalN P w K mg base G x k n g [] := ⟨f, fd, ps, [], [], ok, D.kp, mg_of X Gm D.g, b, .nil, rfl⟩
def calR {n : Nat} {g : Nat → List D → N D} (D : Df K x st f fd) (X : K.In h) (Gm : h.Ns mainGlobals mg) (g0 : g 0 = fun _ _ => .no) (ok : ∀ k, CalN P w K mg base G x k n (g k) [] → FnOk P w K mg base (L2.CX P w) (k + 1) f fd ps (spN G n (g (k + 1)))) (b : Binds K fd ps []) : ∀ k, CalN P w K mg base G x k n (g k) []
  | 0 => calN D X Gm (by rw [g0]; exact ndef_none) b
  | k + 1 => calN D X Gm (ok k (calR D X Gm g0 ok b k)) b
def calK {k n : Nat} {g : List D → N D} {ks : List Str} {is : List Nat} (D : Df K x st f fd) (X : K.In h) (Gm : h.Ns mainGlobals mg) (ok : FnOk P w K mg base (L2.CX P w) k f fd ps (spN G n g))
    (b : ∀ (s : Shared) (ws : List Value), K.In s.heap → ws.length = ks.length → BindsTo s fd ⟨[], ks.zip ws⟩ (ps.zip (pick is ws))) : CalK P w K mg base G x k n g ks is := ⟨f, fd, ps, ok, D.kp, mg_of X Gm D.g, b⟩
theorem calV {k j i n : Nat} {g : List D → N D} (D : Df K x st f fd) (ok : FnOk P w K mg base (L2.CX P w) j f fd ps (spN G n g)) (hj : j ≤ k) (m : (i, f) ∈ G.pins) (b : Binds K fd ps []) : Nonempty (CalV P w K mg base G k i n g) := ⟨⟨f, fd, ps, ok.mono hj, D.kp, m, b⟩⟩
theorem tab_nil {k : Nat} : ∀ i n g, Tab.at [] i = some (n, g) → Nonempty (CalV P w K mg base G k i n g) := fun i n g e => by cases e
theorem tab_cons {k j m : Nat} {gg : List D → N D} {t : Tab} (c : Nonempty (CalV P w K mg base G k j m gg)) (r : ∀ i n g, Tab.at t i = some (n, g) → Nonempty (CalV P w K mg base G k i n g)) : ∀ i n g, Tab.at ((j, m, gg) :: t) i = some (n, g) → Nonempty (CalV P w K mg base G k i n g) := fun i n g e => by
  unfold Tab.at at e
  split at e
  · rename_i hb
    cases e
    rw [← Nat.eq_of_beq_eq_true hb]
    exact c
  · exact r i n g e
theorem fnv {i : Nat} (D : Df K x st f fd) (X : K.In h) (Gm : h.Ns mainGlobals mg) (m : (i, f) ∈ G.pins) : FnV mg G i x := ⟨f, m, mg_of X Gm D.g⟩
end

/-! ### a def with one default -/
structure Dd (K : PySem.W.Frag) (x : Str) (st : Stmt) (dvs : List V) (f : Addr) (fd : FuncData) : Prop where
  g : nsIn K mainGlobals x = some (some (.ref f))
  F : FunD K x x (defArgs st) (defBody st) (defScope st) dvs [] f fd
theorem dd_mk {K : PySem.W.Frag} {x : Str} {st : Stmt} {dvs : List V} {f Ta : Addr} {oc tc : Value} {od an td : Option Addr} {osl tsl : Array (Option Value)} {kV doc pm cdv ct : Value} {its : Array Value} {m : Nat} (g : nsIn K mainGlobals x = some (some (.ref f)))
    (l : K.lookup f = some ⟨oc, od, .func (fnOf x x (defArgs st) (defBody st) (defScope st) (.ref Ta) kV doc pm an cdv ct), osl⟩) (c : codeIn K cdv x = true) (k : keepIn K (.ref f) = true) (lT : K.lookup Ta = some ⟨tc, td, .seq its m, tsl⟩) (hv : Vals dvs its.toList) (hd : dvs ≠ []) : ∃ f fd, Dd K x st dvs f fd :=
  ⟨f, _, g, ⟨⟨oc, od, .ref Ta, kV, doc, pm, an, cdv, ct, osl, rfl, l, c, .inr ⟨hd, Ta, _, its.toList, m, rfl, lT, rfl, hv⟩, .inl rfl⟩, k⟩⟩
section
variable {P : Program} {w : World} {K : PySem.W.Frag} {mg : Str → Option Value} {base h : Heap} {G : Gd} {x : Str} {st : Stmt} {f : Addr} {fd : FuncData} {ps : List Str} {dvs : List V}
theorem Dd.fa (D : Dd K x st dvs f fd) : FunA K x x st f fd := by
  obtain ⟨oc, od, dV, kV, doc, pm, an, cdv, ct, osl, e, l, c, _⟩ := D.F.ex
  exact ⟨oc, od, dV, kV, doc, pm, an, cdv, ct, osl, e, l, c⟩
theorem Dd.binds1 (D : Dd K x st dvs f fd) (n j : Nat) (hd : dvs ≠ []) (hn : n + (dvs.length - j) = ps.length)
    (h : ∀ (T : Addr) (kV doc pm : Value) (an : Option Addr) (cdv ct : Value) (us its : List Value), us.length = n → its.length = dvs.length →
      ∃ k, bindArgs (fnOf x x (defArgs st) (defBody st) (defScope st) (.ref T) kV doc pm an cdv ct) ⟨us, []⟩ = seqItems? (.ref T) >>= k ∧ k (some its.toArray) = pure (ps.zip (us ++ its.drop j))) : ∃ ds, Vals (dvs.drop j) ds ∧ Binds K fd ps ds := D.F.binds1 n j hd hn h
theorem nil_vals {ds : List Value} (h : Vals [] ds) : ds = [] := by cases h; rfl
def calNd {k n : Nat} {g : List D → N D} (D : Dd K x st dvs f fd) (X : K.In h) (Gm : h.Ns mainGlobals mg) (ok : FnOk P w K mg base (L2.CX P w) k f fd ps (spN G n g)) (b : Binds K fd ps []) : CalN P w K mg base G x k n g [] := ⟨f, fd, ps, [], [], ok, D.F.kp, mg_of X Gm D.g, b, .nil, rfl⟩
theorem calRd {n : Nat} {g : Nat → List D → N D} (D : Dd K x st dvs f fd) (X : K.In h) (Gm : h.Ns mainGlobals mg) (g0 : g 0 = fun _ _ => .no) (ok : ∀ k, CalN P w K mg base G x k n (g k) [] → FnOk P w K mg base (L2.CX P w) (k + 1) f fd ps (spN G n (g (k + 1)))) (b : Binds K fd ps []) : ∀ k, FnOk P w K mg base (L2.CX P w) k f fd ps (spN G n (g k))
  | 0 => by rw [g0]; exact ndef_none
  | k + 1 => ok k (calNd D X Gm (calRd D X Gm g0 ok b k) b)
def calDd {k n : Nat} {g : List D → N D} {ds : List D} {us : List V} {vs : List Value} (D : Dd K x st dvs f fd) (X : K.In h) (Gm : h.Ns mainGlobals mg) (ok : FnOk P w K mg base (L2.CX P w) k f fd ps (spN G n g)) (b : Binds K fd ps vs) (v : Vals us vs) (fl : flats ds us) : CalN P w K mg base G x k n g ds := ⟨f, fd, ps, vs, us, ok, D.F.kp, mg_of X Gm D.g, b, v, fl⟩
end

/-! ### classes -/
structure Cd (K : PySem.W.Frag) (x : Str) (C : Addr) : Prop where
  g : nsIn K mainGlobals x = some (some (.ref C))
  kp : keepIn K (.ref C) = true
  ex : subIn K (.ref C) (.type "BaseException") = some true
  ty : typeIn K (.ref C) = some (.type "type")
  hg : findIn K (.ref C) "__getattribute__" = some (some (.builtin "BaseException.__getattribute__"))
  hk : findIn K (.ref C) "__getattr__" = some none
  hd : hasDictIn K C = true
  ha : findIn K (.ref C) "__class__" = some (some (.builtin "object.__class__"))
  hm : mroIn K C (.type "object") = some true
  isC : isClsIn K C = true
structure Cg (K : PySem.W.Frag) : Prop where
  hn : specialIn K (.builtin "object.__class__") "__get__" = some (some (.builtin "getset_descriptor.__get__"))
  ht : takesIn K (.builtin "object.__class__") = some true
section
variable {K : PySem.W.Frag} {mg : Str → Option Value} {h : Heap} {G : Gd} {x : Str} {C : Addr} {k : Nat} {Z : XBase}
theorem Cd.xf (T : Cd K x C) (g : Cg K) (X : K.In h) (Gm : h.Ns mainGlobals mg) (e : G.xc k = C) : XF Z K mg G k x := by
  subst e
  exact ⟨mg_of X Gm T.g, T.kp, T.ex, T.ty, ⟨T.hg, T.hk, T.ex, T.hd, T.ha, g.hn, g.ht, T.hm⟩⟩
theorem Cd.xf0 (T : Cd K x C) (g : Cg K) (X : K.In h) (Gm : h.Ns mainGlobals mg) (e : G.xc k = C) (xi : excIn K C Z.bm Z.nid = true) : XF0 Z K mg G k x := ⟨T.xf g X Gm e, by subst e; exact xi⟩
/-- a class with its own __init__ of one attribute -/
structure Ci (Z : XBase) (K : PySem.W.Frag) (f : Str) (qual : Str) (st : Stmt) (C fI : Addr) (fd : FuncData) : Prop where
  cl : ∃ nm q N bs sn sub ab col dd k0 k1 k2 k3 k5, K.lookup C = some (excClassObj nm q C N bs Z.bm true sn sub ab col dd k0 k1 k2 k3 k5 Z.nid)
  sa : findIn K (.ref C) "__setattr__" = some (some (.builtin "object.__setattr__"))
  iC : findIn K (.ref C) "__init__" = some (some (.ref fI))
  tI : typeIn K (.ref fI) = some (.type "function")
  no : findIn K (.ref C) f = some none
  F : ∃ (oc : Value) (od : Option Addr) (kV doc pm : Value) (an : Option Addr) (cdv ct : Value) (osl : Array (Option Value)),
    fd = fnOf "__init__" qual (defArgs st) (defBody st) (defScope st) .none kV doc pm an cdv ct ∧ K.lookup fI = some ⟨oc, od, .func fd, osl⟩ ∧ codeIn K cdv qual = true
theorem ci_mk {f qual : Str} {st : Stmt} {C fI : Addr} {oc : Value} {od an : Option Addr} {osl : Array (Option Value)} {kV doc pm cdv ct : Value} {nm q : Str} {N : Addr} {bs : List Value} {sn : List Str} {sub : List Value} {ab : Bool} {col : Option Bool} {dd : Option Addr} {k0 k1 k2 k3 k5 : Option Value}
    (cl : K.lookup C = some (excClassObj nm q C N bs Z.bm true sn sub ab col dd k0 k1 k2 k3 k5 Z.nid)) (sa : findIn K (.ref C) "__setattr__" = some (some (.builtin "object.__setattr__"))) (iC : findIn K (.ref C) "__init__" = some (some (.ref fI))) (tI : typeIn K (.ref fI) = some (.type "function")) (no : findIn K (.ref C) f = some none)
    (l : K.lookup fI = some ⟨oc, od, .func (fnOf "__init__" qual (defArgs st) (defBody st) (defScope st) .none kV doc pm an cdv ct), osl⟩) (c : codeIn K cdv qual = true) : ∃ fI fd, Ci Z K f qual st C fI fd :=
  ⟨fI, _, ⟨nm, q, N, bs, sn, sub, ab, col, dd, k0, k1, k2, k3, k5, cl⟩, sa, iC, tI, no, ⟨oc, od, kV, doc, pm, an, cdv, ct, osl, rfl, l, c⟩⟩
theorem Ci.xf1 {f qual : Str} {st : Stmt} {fI : Addr} {fd : FuncData} (I : Ci Z K f qual st C fI fd) (T : Cd K x C) (g : Cg K) (X : K.In h) (Gm : h.Ns mainGlobals mg) (e : G.xc k = C) : XF1 Z K mg G k x f fI :=
  ⟨T.xf g X Gm e, by subst e; exact ⟨I.cl, I.sa, T.ex, T.ty, T.kp⟩, by subst e; exact I.iC, I.tI, by subst e; exact I.no⟩
theorem Ci.fa {f qual : Str} {st : Stmt} {fI : Addr} {fd : FuncData} (I : Ci Z K f qual st C fI fd) : FunA K "__init__" qual st fI fd := by
  obtain ⟨oc, od, kV, doc, pm, an, cdv, ct, osl, e, l, c⟩ := I.F
  exact ⟨oc, od, .none, kV, doc, pm, an, cdv, ct, osl, e, l, c⟩
theorem Ci.binds {f qual : Str} {st : Stmt} {fI : Addr} {fd : FuncData} {ps : List Str} (I : Ci Z K f qual st C fI fd) (h : ∀ (kV doc pm : Value) (an : Option Addr) (cdv ct : Value) (us : List Value), us.length = ps.length → bindArgs (fnOf "__init__" qual (defArgs st) (defBody st) (defScope st) .none kV doc pm an cdv ct) ⟨us, []⟩ = pure (ps.zip us)) : Binds K fd ps [] := by
  obtain ⟨oc, od, kV, doc, pm, an, cdv, ct, osl, rfl, l, c⟩ := I.F
  exact .all (h kV doc pm an cdv ct)
theorem exm_of {C D : Addr} {b : Bool} (h1 : subIn K (.ref C) (.type "BaseException") = some true) (hb : subIn K (.ref D) (.type "BaseException") = some true) (h2 : isClsIn K D = true) (h3 : typeIn K (.ref D) = some (.type "type")) (h4 : subIn K (.ref C) (.ref D) = some b) : exmOne K (.ref C) (.ref D) = some b := by
  have e1 : (subIn K (.ref D) (.type "BaseException") == some true) = true := by rw [hb] <;> rfl
  have e2 : ((clsIn K D).isSome && typeIn K (.ref D) == some (.type "type")) = true := by
    have h2' : (clsIn K D).isSome = true := h2
    rw [h2', h3] <;> rfl
  show (if (subIn K (.ref D) (.type "BaseException") == some true) = true then (if ((clsIn K D).isSome && typeIn K (.ref D) == some (.type "type")) = true then subIn K (.ref C) (.ref D) else none) else none) = some b
  rw [if_pos e1, if_pos e2]
  exact h4
end
def GG (K : PySem.W.Frag) (P : Program) (w : World) (pins : List (Nat × Addr)) (xc : Nat → Addr) : Gd := ⟨K, SetDO P w, fun a _ => SetDO P w a [], fun _ _ => ⟨by trivial, by trivial⟩, fun _ _ => ⟨by trivial, by trivial⟩, pins, xc⟩
theorem gg (K : PySem.W.Frag) (P : Program) (w : World) (pins : List (Nat × Addr)) (xc : Nat → Addr) : ∃ G : Gd, G.K = K ∧ G.SO = SetDO P w ∧ G.pins = pins ∧ G.xc = xc := ⟨GG K P w pins xc, rfl, rfl, rfl, rfl⟩
end Eng
namespace Eng
open PySem PySem.W
theorem kit_of {K : PySem.W.Frag} {C : Addr} {T : String} {b : Bool} (hm : kitMeta T = true) (h : subIn K (.ref C) (.type T) = some b) : kitOne K (.ref C) (.type T) = some b := by
  show (if (Value.ref C == Value.type T) = true then some true else (if kitMeta T = true then subIn K (.ref C) (.type T) else none)) = some b
  rw [if_neg (by intro e; cases e), if_pos hm]
  exact h
end Eng
namespace Eng
open PySem
theorem lookup_mem {l : List (Nat × Addr)} {n : Nat} {a : Addr} : l.lookup n = some a → (n, a) ∈ l := by
  induction l with
  | nil => intro h; cases h
  | cons p r ih =>
    intro h
    obtain ⟨m, b⟩ := p
    simp only [List.lookup] at h
    split at h
    · rename_i e
      cases h
      rw [eq_of_beq e]
      exact List.mem_cons_self
    · exact List.mem_cons_of_mem _ (ih h)
theorem pins_lt {l : List (Nat × Addr)} {nx : Nat} (h : l.all (fun p => Nat.ble (p.1 + 1) nx) = true) : ∀ n a, rho0 l n = some a → n < nx := fun n a e =>
  Nat.le_of_ble_eq_true (List.all_eq_true.mp h (n, a) (lookup_mem e))
def apart : List (Nat × Addr) → Bool
  | [] => true
  | p :: r => r.all (fun q => !Nat.beq q.1 p.1) && apart r
theorem pins_ok : ∀ {l : List (Nat × Addr)}, apart l = true → ∀ p ∈ l, rho0 l p.1 = some p.2
  | q :: r, h, p, hp => by
    unfold apart at h
    rw [Bool.and_eq_true] at h
    unfold rho0
    rcases List.mem_cons.mp hp with rfl | hq
    · simp only [List.lookup, beq_self_eq_true]
    · have z := List.all_eq_true.mp h.1 p hq
      have ne : (p.1 == q.1) = false := by
        rw [beq_eq_false_iff_ne]
        intro e
        rw [e, Nat.beq_refl] at z
        cases z
      obtain ⟨m, b⟩ := q
      simp only [List.lookup]
      rw [ne]
      exact pins_ok h.2 p hq
end Eng
set_option maxRecDepth 100000
set_option maxHeartbeats 4000000
namespace Eng
open PySem PySem.Spec PySem.W PyProof.Rows PySem.HandSPX L2
theorem asm_all {P : Program} {w : World} {K : Frag} {h : Heap} {mg : Str → Option Value} {fa : Addr} {C_NoCell C_Unfit : Addr} (X : K.In h) (Gm : h.Ns mainGlobals mg) (hfa : mg "law" = some (.ref fa)) (kg : Cg K)
    (D__copied : ∃ f fd, Df K "_copied" d__copied f fd)
    (D_is_number : ∃ f fd, Df K "is_number" d_is_number f fd)
    (D_is_pair : ∃ f fd, Df K "is_pair" d_is_pair f fd)
    (D_is_ascending : ∃ f fd, Df K "is_ascending" d_is_ascending f fd)
    (D_is_pair_set : ∃ f fd, Df K "is_pair_set" d_is_pair_set f fd)
    (D_frozen : ∃ f fd, Dd K "frozen" d_frozen [.int 12] f fd)
    (D__hang_together : ∃ f fd, Df K "_hang_together" d__hang_together f fd)
    (D__collar : ∃ f fd, Df K "_collar" d__collar f fd)
    (D_is_floor : ∃ f fd, Df K "is_floor" d_is_floor f fd)
    (D_fit_floor : ∃ f fd, Df K "fit_floor" d_fit_floor f fd)
    (D_diagonal : ∃ f fd, Df K "diagonal" d_diagonal f fd)
    (D_span : ∃ f fd, Df K "span" d_span f fd)
    (D__larger : ∃ f fd, Df K "_larger" d__larger f fd)
    (D_can_grow : ∃ f fd, Df K "can_grow" d_can_grow f fd)
    (D_grown : ∃ f fd, Df K "grown" d_grown f fd)
    (D_shrunk : ∃ f fd, Df K "shrunk" d_shrunk f fd)
    (D_borders : ∃ f fd, Df K "borders" d_borders f fd)
    (D__are_steps : ∃ f fd, Df K "_are_steps" d__are_steps f fd)
    (D_is_stair : ∃ f fd, Df K "is_stair" d_is_stair f fd)
    (D_fit_stair : ∃ f fd, Df K "fit_stair" d_fit_stair f fd)
    (D__size : ∃ f fd, Df K "_size" d__size f fd)
    (D__cells : ∃ f fd, Df K "_cells" d__cells f fd)
    (D_cells_of : ∃ f fd, Df K "cells_of" d_cells_of f fd)
    (D__are_stairs : ∃ f fd, Df K "_are_stairs" d__are_stairs f fd)
    (D__cells_of_all : ∃ f fd, Df K "_cells_of_all" d__cells_of_all f fd)
    (D_fit_laying : ∃ f fd, Df K "fit_laying" d_fit_laying f fd)
    (D_shifted : ∃ f fd, Df K "shifted" d_shifted f fd)
    (D_mirrored : ∃ f fd, Df K "mirrored" d_mirrored f fd)
    (D_half_turned : ∃ f fd, Df K "half_turned" d_half_turned f fd)
    (D_stair_shifted : ∃ f fd, Df K "stair_shifted" d_stair_shifted f fd)
    (D_stair_mirrored : ∃ f fd, Df K "stair_mirrored" d_stair_mirrored f fd)
    (D_stair_half_turned : ∃ f fd, Df K "stair_half_turned" d_stair_half_turned f fd)
    (D_laying_shifted : ∃ f fd, Df K "laying_shifted" d_laying_shifted f fd)
    (D_laying_mirrored : ∃ f fd, Df K "laying_mirrored" d_laying_mirrored f fd)
    (D_laying_half_turned : ∃ f fd, Df K "laying_half_turned" d_laying_half_turned f fd)
    (D__from_least : ∃ f fd, Df K "_from_least" d__from_least f fd)
    (D_alike : ∃ f fd, Df K "alike" d_alike f fd)
    (D__law_box : ∃ f fd, Df K "_law_box" d__law_box f fd)
    (D__law_take : ∃ f fd, Df K "_law_take" d__law_take f fd)
    (D__law_cells : ∃ f fd, Df K "_law_cells" d__law_cells f fd)
    (D__law_lists : ∃ f fd, Df K "_law_lists" d__law_lists f fd)
    (D__law_same : ∃ f fd, Df K "_law_same" d__law_same f fd)
    (D__law_oblong : ∃ f fd, Df K "_law_oblong" d__law_oblong f fd)
    (D__law_corner : ∃ f fd, Df K "_law_corner" d__law_corner f fd)
    (D__law_cup : ∃ f fd, Df K "_law_cup" d__law_cup f fd)
    (D__law_heard : ∃ f fd, Df K "_law_heard" d__law_heard f fd)
    (D__law_always_right : ∃ f fd, Df K "_law_always_right" d__law_always_right f fd)
    (D__law_refused_right : ∃ f fd, Df K "_law_refused_right" d__law_refused_right f fd)
    (D__law_soft_right : ∃ f fd, Df K "_law_soft_right" d__law_soft_right f fd)
    (D_law : ∃ f fd, Df K "law" d_law f fd)
    (K_NoCell : Cd K "NoCell" C_NoCell)
    (I_NoCell : ∃ fI fd, Ci xbLE K "cell" "NoCell.__init__" d_init_NoCell C_NoCell fI fd)
    (K_Unfit : Cd K "Unfit" C_Unfit)
    (I_Unfit : excIn K C_Unfit xbVE.bm xbVE.nid = true)
    (s_NoCell_NoCell : subIn K (.ref C_NoCell) (.ref C_NoCell) = some true)
    (s_NoCell_Unfit : subIn K (.ref C_NoCell) (.ref C_Unfit) = some false)
    (s_Unfit_NoCell : subIn K (.ref C_Unfit) (.ref C_NoCell) = some false)
    (s_Unfit_Unfit : subIn K (.ref C_Unfit) (.ref C_Unfit) = some true)
    (t_NoCell_LookupError : subIn K (.ref C_NoCell) (.type "LookupError") = some true)
    (t_Unfit_ValueError : subIn K (.ref C_Unfit) (.type "ValueError") = some true)
    (z_LookupError : nsIn K mainGlobals "LookupError" = some none)
    (z_ValueError : nsIn K mainGlobals "ValueError" = some none)
    (z_abs : nsIn K mainGlobals "abs" = some none)
    (z_all : nsIn K mainGlobals "all" = some none)
    (z_bool : nsIn K mainGlobals "bool" = some none)
    (z_enumerate : nsIn K mainGlobals "enumerate" = some none)
    (z_int : nsIn K mainGlobals "int" = some none)
    (z_isinstance : nsIn K mainGlobals "isinstance" = some none)
    (z_len : nsIn K mainGlobals "len" = some none)
    (z_list : nsIn K mainGlobals "list" = some none)
    (z_max : nsIn K mainGlobals "max" = some none)
    (z_min : nsIn K mainGlobals "min" = some none)
    (z_range : nsIn K mainGlobals "range" = some none)
    (z_set : nsIn K mainGlobals "set" = some none)
    (z_sorted : nsIn K mainGlobals "sorted" = some none)
    (z_str : nsIn K mainGlobals "str" = some none)
    (z_tuple : nsIn K mainGlobals "tuple" = some none)
    (z_type : nsIn K mainGlobals "type" = some none)
    (z_zip : nsIn K mainGlobals "zip" = some none)
    (tr : ∀ ns : List Int, ns.length ≤ 63 → isTrueN (f_law [.kl (ns.map D.int)] ⟨16, [], top⟩) = true) :
    ∃ fd : FuncData, (∀ (s : Shared) (v : Value), BindsTo s fd ⟨[v], []⟩ [("script", v)]) ∧ ∀ base : Heap, K.In base → base.Ns mainGlobals mg → FnOk P w K mg base (L2.CX P w) 20 fa fd ["script"] (spLaw K) := by
  obtain ⟨a__copied, fd__copied, D__copied⟩ := D__copied
  obtain ⟨a_is_number, fd_is_number, D_is_number⟩ := D_is_number
  obtain ⟨a_is_pair, fd_is_pair, D_is_pair⟩ := D_is_pair
  obtain ⟨a_is_ascending, fd_is_ascending, D_is_ascending⟩ := D_is_ascending
  obtain ⟨a_is_pair_set, fd_is_pair_set, D_is_pair_set⟩ := D_is_pair_set
  obtain ⟨a_frozen, fd_frozen, D_frozen⟩ := D_frozen
  obtain ⟨a__hang_together, fd__hang_together, D__hang_together⟩ := D__hang_together
  obtain ⟨a__collar, fd__collar, D__collar⟩ := D__collar
  obtain ⟨a_is_floor, fd_is_floor, D_is_floor⟩ := D_is_floor
  obtain ⟨a_fit_floor, fd_fit_floor, D_fit_floor⟩ := D_fit_floor
  obtain ⟨a_diagonal, fd_diagonal, D_diagonal⟩ := D_diagonal
  obtain ⟨a_span, fd_span, D_span⟩ := D_span
  obtain ⟨a__larger, fd__larger, D__larger⟩ := D__larger
  obtain ⟨a_can_grow, fd_can_grow, D_can_grow⟩ := D_can_grow
  obtain ⟨a_grown, fd_grown, D_grown⟩ := D_grown
  obtain ⟨a_shrunk, fd_shrunk, D_shrunk⟩ := D_shrunk
  obtain ⟨a_borders, fd_borders, D_borders⟩ := D_borders
  obtain ⟨a__are_steps, fd__are_steps, D__are_steps⟩ := D__are_steps
  obtain ⟨a_is_stair, fd_is_stair, D_is_stair⟩ := D_is_stair
  obtain ⟨a_fit_stair, fd_fit_stair, D_fit_stair⟩ := D_fit_stair
  obtain ⟨a__size, fd__size, D__size⟩ := D__size
  obtain ⟨a__cells, fd__cells, D__cells⟩ := D__cells
  obtain ⟨a_cells_of, fd_cells_of, D_cells_of⟩ := D_cells_of
  obtain ⟨a__are_stairs, fd__are_stairs, D__are_stairs⟩ := D__are_stairs
  obtain ⟨a__cells_of_all, fd__cells_of_all, D__cells_of_all⟩ := D__cells_of_all
  obtain ⟨a_fit_laying, fd_fit_laying, D_fit_laying⟩ := D_fit_laying
  obtain ⟨a_shifted, fd_shifted, D_shifted⟩ := D_shifted
  obtain ⟨a_mirrored, fd_mirrored, D_mirrored⟩ := D_mirrored
  obtain ⟨a_half_turned, fd_half_turned, D_half_turned⟩ := D_half_turned
  obtain ⟨a_stair_shifted, fd_stair_shifted, D_stair_shifted⟩ := D_stair_shifted
  obtain ⟨a_stair_mirrored, fd_stair_mirrored, D_stair_mirrored⟩ := D_stair_mirrored
  obtain ⟨a_stair_half_turned, fd_stair_half_turned, D_stair_half_turned⟩ := D_stair_half_turned
  obtain ⟨a_laying_shifted, fd_laying_shifted, D_laying_shifted⟩ := D_laying_shifted
  obtain ⟨a_laying_mirrored, fd_laying_mirrored, D_laying_mirrored⟩ := D_laying_mirrored
  obtain ⟨a_laying_half_turned, fd_laying_half_turned, D_laying_half_turned⟩ := D_laying_half_turned
  obtain ⟨a__from_least, fd__from_least, D__from_least⟩ := D__from_least
  obtain ⟨a_alike, fd_alike, D_alike⟩ := D_alike
  obtain ⟨a__law_box, fd__law_box, D__law_box⟩ := D__law_box
  obtain ⟨a__law_take, fd__law_take, D__law_take⟩ := D__law_take
  obtain ⟨a__law_cells, fd__law_cells, D__law_cells⟩ := D__law_cells
  obtain ⟨a__law_lists, fd__law_lists, D__law_lists⟩ := D__law_lists
  obtain ⟨a__law_same, fd__law_same, D__law_same⟩ := D__law_same
  obtain ⟨a__law_oblong, fd__law_oblong, D__law_oblong⟩ := D__law_oblong
  obtain ⟨a__law_corner, fd__law_corner, D__law_corner⟩ := D__law_corner
  obtain ⟨a__law_cup, fd__law_cup, D__law_cup⟩ := D__law_cup
  obtain ⟨a__law_heard, fd__law_heard, D__law_heard⟩ := D__law_heard
  obtain ⟨a__law_always_right, fd__law_always_right, D__law_always_right⟩ := D__law_always_right
  obtain ⟨a__law_refused_right, fd__law_refused_right, D__law_refused_right⟩ := D__law_refused_right
  obtain ⟨a__law_soft_right, fd__law_soft_right, D__law_soft_right⟩ := D__law_soft_right
  obtain ⟨a_law, fd_law, D_law⟩ := D_law
  obtain ⟨i_NoCell, fdi_NoCell, I_NoCell⟩ := I_NoCell
  have e := hfa.symm.trans (mg_of X Gm D_law.g)
  cases e
  obtain ⟨G, g1, g2, g3, g4⟩ := gg K P w [(0, a_span), (1, a_borders), (2, a_mirrored), (3, a_half_turned), (4, a_stair_mirrored), (5, a_stair_half_turned), (6, a_diagonal), (7, a_can_grow), (8, a_grown), (9, a_shrunk), (10, a_shifted), (11, a_alike), (12, a_stair_shifted), (13, a_laying_shifted), (14, a_laying_mirrored), (15, a_laying_half_turned)] (fun k => ([C_NoCell, C_Unfit] : List Addr).getD k 0)
  have p_span : (0, a_span) ∈ G.pins := by rw [g3]; exact .head _
  have p_borders : (1, a_borders) ∈ G.pins := by rw [g3]; exact .tail _ (.head _)
  have p_mirrored : (2, a_mirrored) ∈ G.pins := by rw [g3]; exact .tail _ (.tail _ (.head _))
  have p_half_turned : (3, a_half_turned) ∈ G.pins := by rw [g3]; exact .tail _ (.tail _ (.tail _ (.head _)))
  have p_stair_mirrored : (4, a_stair_mirrored) ∈ G.pins := by rw [g3]; exact .tail _ (.tail _ (.tail _ (.tail _ (.head _))))
  have p_stair_half_turned : (5, a_stair_half_turned) ∈ G.pins := by rw [g3]; exact .tail _ (.tail _ (.tail _ (.tail _ (.tail _ (.head _)))))
  have p_diagonal : (6, a_diagonal) ∈ G.pins := by rw [g3]; exact .tail _ (.tail _ (.tail _ (.tail _ (.tail _ (.tail _ (.head _))))))
  have p_can_grow : (7, a_can_grow) ∈ G.pins := by rw [g3]; exact .tail _ (.tail _ (.tail _ (.tail _ (.tail _ (.tail _ (.tail _ (.head _)))))))
  have p_grown : (8, a_grown) ∈ G.pins := by rw [g3]; exact .tail _ (.tail _ (.tail _ (.tail _ (.tail _ (.tail _ (.tail _ (.tail _ (.head _))))))))
  have p_shrunk : (9, a_shrunk) ∈ G.pins := by rw [g3]; exact .tail _ (.tail _ (.tail _ (.tail _ (.tail _ (.tail _ (.tail _ (.tail _ (.tail _ (.head _)))))))))
  have p_shifted : (10, a_shifted) ∈ G.pins := by rw [g3]; exact .tail _ (.tail _ (.tail _ (.tail _ (.tail _ (.tail _ (.tail _ (.tail _ (.tail _ (.tail _ (.head _))))))))))
  have p_alike : (11, a_alike) ∈ G.pins := by rw [g3]; exact .tail _ (.tail _ (.tail _ (.tail _ (.tail _ (.tail _ (.tail _ (.tail _ (.tail _ (.tail _ (.tail _ (.head _)))))))))))
  have p_stair_shifted : (12, a_stair_shifted) ∈ G.pins := by rw [g3]; exact .tail _ (.tail _ (.tail _ (.tail _ (.tail _ (.tail _ (.tail _ (.tail _ (.tail _ (.tail _ (.tail _ (.tail _ (.head _))))))))))))
  have p_laying_shifted : (13, a_laying_shifted) ∈ G.pins := by rw [g3]; exact .tail _ (.tail _ (.tail _ (.tail _ (.tail _ (.tail _ (.tail _ (.tail _ (.tail _ (.tail _ (.tail _ (.tail _ (.tail _ (.head _)))))))))))))
  have p_laying_mirrored : (14, a_laying_mirrored) ∈ G.pins := by rw [g3]; exact .tail _ (.tail _ (.tail _ (.tail _ (.tail _ (.tail _ (.tail _ (.tail _ (.tail _ (.tail _ (.tail _ (.tail _ (.tail _ (.tail _ (.head _))))))))))))))
  have p_laying_half_turned : (15, a_laying_half_turned) ∈ G.pins := by rw [g3]; exact .tail _ (.tail _ (.tail _ (.tail _ (.tail _ (.tail _ (.tail _ (.tail _ (.tail _ (.tail _ (.tail _ (.tail _ (.tail _ (.tail _ (.tail _ (.head _)))))))))))))))
  have x_NoCell : G.xc 0 = C_NoCell := by rw [g4]; rfl
  have x_Unfit : G.xc 1 = C_Unfit := by rw [g4]; rfl
  obtain ⟨T, j_NoCell⟩ : ∃ T : Fx P w K mg G, T.i_NoCell = i_NoCell := ⟨{ hK := g1, hS := g2, m_LookupError := mg_none_of X Gm z_LookupError, m_ValueError := mg_none_of X Gm z_ValueError, m_abs := mg_none_of X Gm z_abs, m_all := mg_none_of X Gm z_all, m_bool := mg_none_of X Gm z_bool, m_enumerate := mg_none_of X Gm z_enumerate, m_int := mg_none_of X Gm z_int, m_isinstance := mg_none_of X Gm z_isinstance, m_len := mg_none_of X Gm z_len, m_list := mg_none_of X Gm z_list, m_max := mg_none_of X Gm z_max, m_min := mg_none_of X Gm z_min, m_range := mg_none_of X Gm z_range, m_set := mg_none_of X Gm z_set, m_sorted := mg_none_of X Gm z_sorted, m_str := mg_none_of X Gm z_str, m_tuple := mg_none_of X Gm z_tuple, m_type := mg_none_of X Gm z_type, m_zip := mg_none_of X Gm z_zip, i_NoCell := i_NoCell, x_NoCell := I_NoCell.xf1 K_NoCell kg X Gm x_NoCell, x_Unfit := K_Unfit.xf0 kg X Gm x_Unfit I_Unfit, kit_NoCell_LookupError := by rw [x_NoCell]; exact kit_of (by decide) t_NoCell_LookupError, kit_Unfit_ValueError := by rw [x_Unfit]; exact kit_of (by decide) t_Unfit_ValueError, exm := fun k c hk hc => match k, c, hk, hc with | 0, 0, _, _ => by rw [x_NoCell]; exact exm_of K_NoCell.ex K_NoCell.ex K_NoCell.isC K_NoCell.ty s_NoCell_NoCell | 0, 1, _, _ => by rw [x_NoCell, x_Unfit]; exact exm_of K_NoCell.ex K_Unfit.ex K_Unfit.isC K_Unfit.ty s_NoCell_Unfit | 1, 0, _, _ => by rw [x_Unfit, x_NoCell]; exact exm_of K_Unfit.ex K_NoCell.ex K_NoCell.isC K_NoCell.ty s_Unfit_NoCell | 1, 1, _, _ => by rw [x_Unfit]; exact exm_of K_Unfit.ex K_Unfit.ex K_Unfit.isC K_Unfit.ty s_Unfit_Unfit | _ + 2, _, hk, _ => absurd hk (by omega) | 0, _ + 2, _, hc => absurd hc (by omega) | 1, _ + 2, _, hc => absurd hc (by omega), v_span := fnv D_span X Gm p_span, v_borders := fnv D_borders X Gm p_borders, v_mirrored := fnv D_mirrored X Gm p_mirrored, v_half_turned := fnv D_half_turned X Gm p_half_turned, v_stair_mirrored := fnv D_stair_mirrored X Gm p_stair_mirrored, v_stair_half_turned := fnv D_stair_half_turned X Gm p_stair_half_turned, v_diagonal := fnv D_diagonal X Gm p_diagonal, v_can_grow := fnv D_can_grow X Gm p_can_grow, v_grown := fnv D_grown X Gm p_grown, v_shrunk := fnv D_shrunk X Gm p_shrunk, v_shifted := fnv D_shifted X Gm p_shifted, v_alike := fnv D_alike X Gm p_alike, v_stair_shifted := fnv D_stair_shifted X Gm p_stair_shifted, v_laying_shifted := fnv D_laying_shifted X Gm p_laying_shifted, v_laying_mirrored := fnv D_laying_mirrored X Gm p_laying_mirrored, v_laying_half_turned := fnv D_laying_half_turned X Gm p_laying_half_turned }, rfl⟩
  refine ⟨fd_law, D_law.law fun _ _ _ _ _ _ _ => rfl, fun base _ _ => ?_⟩
  have b__copied : Binds K fd__copied ["value"] [] := D__copied.binds fun _ _ _ _ _ _ us hl => match us, hl with | [_], _ => rfl
  have C__copied : CalN P w K mg base G "_copied" 6 1 (f__copied 6) [] := calR (g := f__copied) (ps := ["value"]) D__copied X Gm rfl (fun k C => ok__copied T D__copied.fa C) b__copied 6
  have I_NoCell : IniN P w K mg base G 7 0 "cell" fe_NoCell T.i_NoCell := by
    rw [j_NoCell]
    exact ⟨fdi_NoCell, ["self", "cell"], ok_init_NoCell T I_NoCell.fa C__copied, I_NoCell.binds fun _ _ _ _ _ _ us hl => match us, hl with | [_, _], _ => rfl⟩
  have b_is_number : Binds K fd_is_number ["value"] [] := D_is_number.binds fun _ _ _ _ _ _ us hl => match us, hl with | [_], _ => rfl
  have k_is_number := ok_is_number (base := base) T D_is_number.fa 
  have C_is_number : CalN P w K mg base G "is_number" 1 1 f_is_number [] := calN D_is_number X Gm k_is_number b_is_number
  have b_is_pair : Binds K fd_is_pair ["value"] [] := D_is_pair.binds fun _ _ _ _ _ _ us hl => match us, hl with | [_], _ => rfl
  have k_is_pair := ok_is_pair (base := base) T D_is_pair.fa C_is_number
  have C_is_pair : CalN P w K mg base G "is_pair" 2 1 f_is_pair [] := calN D_is_pair X Gm k_is_pair b_is_pair
  have b_is_ascending : Binds K fd_is_ascending ["values"] [] := D_is_ascending.binds fun _ _ _ _ _ _ us hl => match us, hl with | [_], _ => rfl
  have k_is_ascending := ok_is_ascending (base := base) T D_is_ascending.fa 
  have C_is_ascending : CalN P w K mg base G "is_ascending" 1 1 f_is_ascending [] := calN D_is_ascending X Gm k_is_ascending b_is_ascending
  have b_is_pair_set : Binds K fd_is_pair_set ["value"] [] := D_is_pair_set.binds fun _ _ _ _ _ _ us hl => match us, hl with | [_], _ => rfl
  have k_is_pair_set := ok_is_pair_set (base := base) T D_is_pair_set.fa C_is_ascending C_is_pair
  have C_is_pair_set : CalN P w K mg base G "is_pair_set" 3 1 f_is_pair_set [] := calN D_is_pair_set X Gm k_is_pair_set b_is_pair_set
  obtain ⟨e0_frozen, v0_frozen, b_frozen⟩ := D_frozen.binds1 (ps := ["value", "levels"]) 2 1 (fun e => nomatch e) rfl (fun _ _ _ _ _ _ _ us its h1 h2 => match us, its, h1, h2 with | [_, _], [_], _, _ => ⟨_, rfl, rfl⟩)
  cases nil_vals v0_frozen
  obtain ⟨e1_frozen, v1_frozen, b1_frozen⟩ := D_frozen.binds1 (ps := ["value", "levels"]) 1 0 (fun e => nomatch e) rfl (fun _ _ _ _ _ _ _ us its h1 h2 => match us, its, h1, h2 with | [_], [_], _, _ => ⟨_, rfl, rfl⟩)
  have r_frozen := calRd (P := P) (w := w) (base := base) (G := G) (g := f_frozen) (ps := ["value", "levels"]) D_frozen X Gm rfl (fun k C => ok_frozen T D_frozen.fa C) b_frozen 13
  have C_frozend : CalN P w K mg base G "frozen" 13 2 (f_frozen 13) [.int 12] := calDd D_frozen X Gm r_frozen b1_frozen v1_frozen ⟨_, _, rfl, rfl, rfl⟩
  have b__hang_together : Binds K fd__hang_together ["cells"] [] := D__hang_together.binds fun _ _ _ _ _ _ us hl => match us, hl with | [_], _ => rfl
  have k__hang_together := ok__hang_together (base := base) T D__hang_together.fa 
  have C__hang_together : CalN P w K mg base G "_hang_together" 1 1 f__hang_together [] := calN D__hang_together X Gm k__hang_together b__hang_together
  have b__collar : Binds K fd__collar ["cells"] [] := D__collar.binds fun _ _ _ _ _ _ us hl => match us, hl with | [_], _ => rfl
  have k__collar := ok__collar (base := base) T D__collar.fa 
  have C__collar : CalN P w K mg base G "_collar" 1 1 f__collar [] := calN D__collar X Gm k__collar b__collar
  have b_is_floor : Binds K fd_is_floor ["thing"] [] := D_is_floor.binds fun _ _ _ _ _ _ us hl => match us, hl with | [_], _ => rfl
  have k_is_floor := ok_is_floor (base := base) T D_is_floor.fa C__collar C__hang_together C_is_pair_set
  have C_is_floor : CalN P w K mg base G "is_floor" 4 1 f_is_floor [] := calN D_is_floor X Gm k_is_floor b_is_floor
  have K_is_floor_thing : CalK P w K mg base G "is_floor" 4 1 f_is_floor ["thing"] [0] := calK D_is_floor X Gm k_is_floor (D_is_floor.bindsK fun _ _ _ _ _ _ us hl => match us, hl with | [_], _ => rfl)
  have b_fit_floor : Binds K fd_fit_floor ["floor"] [] := D_fit_floor.binds fun _ _ _ _ _ _ us hl => match us, hl with | [_], _ => rfl
  have k_fit_floor := ok_fit_floor (base := base) T D_fit_floor.fa C_frozend C_is_floor
  have C_fit_floor : CalN P w K mg base G "fit_floor" 14 1 f_fit_floor [] := calN D_fit_floor X Gm k_fit_floor b_fit_floor
  have b_diagonal : Binds K fd_diagonal ["floor", "number"] [] := D_diagonal.binds fun _ _ _ _ _ _ us hl => match us, hl with | [_, _], _ => rfl
  have k_diagonal := ok_diagonal (base := base) T D_diagonal.fa C_fit_floor
  have C_diagonal : CalN P w K mg base G "diagonal" 15 2 f_diagonal [] := calN D_diagonal X Gm k_diagonal b_diagonal
  have K_diagonal_number_floor : CalK P w K mg base G "diagonal" 15 2 f_diagonal ["number", "floor"] [1, 0] := calK D_diagonal X Gm k_diagonal (D_diagonal.bindsK fun _ _ _ _ _ _ us hl => match us, hl with | [_, _], _ => rfl)
  have b_span : Binds K fd_span ["floor"] [] := D_span.binds fun _ _ _ _ _ _ us hl => match us, hl with | [_], _ => rfl
  have k_span := ok_span (base := base) T D_span.fa C_fit_floor
  have C_span : CalN P w K mg base G "span" 15 1 f_span [] := calN D_span X Gm k_span b_span
  have K_span_floor : CalK P w K mg base G "span" 15 1 f_span ["floor"] [0] := calK D_span X Gm k_span (D_span.bindsK fun _ _ _ _ _ _ us hl => match us, hl with | [_], _ => rfl)
  have b__larger : Binds K fd__larger ["floor", "cell"] [] := D__larger.binds fun _ _ _ _ _ _ us hl => match us, hl with | [_, _], _ => rfl
  have k__larger := ok__larger (base := base) T D__larger.fa C_is_floor C_is_pair
  have C__larger : CalN P w K mg base G "_larger" 5 2 f__larger [] := calN D__larger X Gm k__larger b__larger
  have b_can_grow : Binds K fd_can_grow ["floor", "cell"] [] := D_can_grow.binds fun _ _ _ _ _ _ us hl => match us, hl with | [_, _], _ => rfl
  have k_can_grow := ok_can_grow (base := base) T D_can_grow.fa C__larger C_fit_floor C_frozend
  have C_can_grow : CalN P w K mg base G "can_grow" 15 2 f_can_grow [] := calN D_can_grow X Gm k_can_grow b_can_grow
  have K_can_grow_cell_floor : CalK P w K mg base G "can_grow" 15 2 f_can_grow ["cell", "floor"] [1, 0] := calK D_can_grow X Gm k_can_grow (D_can_grow.bindsK fun _ _ _ _ _ _ us hl => match us, hl with | [_, _], _ => rfl)
  have b_grown : Binds K fd_grown ["floor", "cell"] [] := D_grown.binds fun _ _ _ _ _ _ us hl => match us, hl with | [_, _], _ => rfl
  have k_grown := ok_grown (base := base) T D_grown.fa C__larger C_fit_floor C_frozend
  have C_grown : CalN P w K mg base G "grown" 15 2 f_grown [] := calN D_grown X Gm k_grown b_grown
  have K_grown_cell_floor : CalK P w K mg base G "grown" 15 2 f_grown ["cell", "floor"] [1, 0] := calK D_grown X Gm k_grown (D_grown.bindsK fun _ _ _ _ _ _ us hl => match us, hl with | [_, _], _ => rfl)
  have b_shrunk : Binds K fd_shrunk ["floor", "cell"] [] := D_shrunk.binds fun _ _ _ _ _ _ us hl => match us, hl with | [_, _], _ => rfl
  have k_shrunk := ok_shrunk (base := base) T D_shrunk.fa C_fit_floor C_frozend C_is_pair I_NoCell
  have C_shrunk : CalN P w K mg base G "shrunk" 15 2 f_shrunk [] := calN D_shrunk X Gm k_shrunk b_shrunk
  have K_shrunk_cell_floor : CalK P w K mg base G "shrunk" 15 2 f_shrunk ["cell", "floor"] [1, 0] := calK D_shrunk X Gm k_shrunk (D_shrunk.bindsK fun _ _ _ _ _ _ us hl => match us, hl with | [_, _], _ => rfl)
  have b_borders : Binds K fd_borders ["floor"] [] := D_borders.binds fun _ _ _ _ _ _ us hl => match us, hl with | [_], _ => rfl
  have k_borders := ok_borders (base := base) T D_borders.fa C__collar C__larger C_fit_floor
  have C_borders : CalN P w K mg base G "borders" 15 1 f_borders [] := calN D_borders X Gm k_borders b_borders
  have K_borders_floor : CalK P w K mg base G "borders" 15 1 f_borders ["floor"] [0] := calK D_borders X Gm k_borders (D_borders.bindsK fun _ _ _ _ _ _ us hl => match us, hl with | [_], _ => rfl)
  have b__are_steps : Binds K fd__are_steps ["value"] [] := D__are_steps.binds fun _ _ _ _ _ _ us hl => match us, hl with | [_], _ => rfl
  have k__are_steps := ok__are_steps (base := base) T D__are_steps.fa C_is_number
  have C__are_steps : CalN P w K mg base G "_are_steps" 2 1 f__are_steps [] := calN D__are_steps X Gm k__are_steps b__are_steps
  have b_is_stair : Binds K fd_is_stair ["thing"] [] := D_is_stair.binds fun _ _ _ _ _ _ us hl => match us, hl with | [_], _ => rfl
  have k_is_stair := ok_is_stair (base := base) T D_is_stair.fa C__are_steps C_is_pair
  have C_is_stair : CalN P w K mg base G "is_stair" 3 1 f_is_stair [] := calN D_is_stair X Gm k_is_stair b_is_stair
  have b_fit_stair : Binds K fd_fit_stair ["stair"] [] := D_fit_stair.binds fun _ _ _ _ _ _ us hl => match us, hl with | [_], _ => rfl
  have k_fit_stair := ok_fit_stair (base := base) T D_fit_stair.fa C_frozend C_is_stair
  have C_fit_stair : CalN P w K mg base G "fit_stair" 14 1 f_fit_stair [] := calN D_fit_stair X Gm k_fit_stair b_fit_stair
  have b__size : Binds K fd__size ["stair"] [] := D__size.binds fun _ _ _ _ _ _ us hl => match us, hl with | [_], _ => rfl
  have k__size := ok__size (base := base) T D__size.fa 
  have C__size : CalN P w K mg base G "_size" 1 1 f__size [] := calN D__size X Gm k__size b__size
  have b__cells : Binds K fd__cells ["stair"] [] := D__cells.binds fun _ _ _ _ _ _ us hl => match us, hl with | [_], _ => rfl
  have k__cells := ok__cells (base := base) T D__cells.fa 
  have C__cells : CalN P w K mg base G "_cells" 1 1 f__cells [] := calN D__cells X Gm k__cells b__cells
  have b_cells_of : Binds K fd_cells_of ["stair"] [] := D_cells_of.binds fun _ _ _ _ _ _ us hl => match us, hl with | [_], _ => rfl
  have k_cells_of := ok_cells_of (base := base) T D_cells_of.fa C__cells C_fit_stair
  have C_cells_of : CalN P w K mg base G "cells_of" 15 1 f_cells_of [] := calN D_cells_of X Gm k_cells_of b_cells_of
  have b__are_stairs : Binds K fd__are_stairs ["value", "size"] [] := D__are_stairs.binds fun _ _ _ _ _ _ us hl => match us, hl with | [_, _], _ => rfl
  have k__are_stairs := ok__are_stairs (base := base) T D__are_stairs.fa C__size C_is_ascending C_is_stair
  have C__are_stairs : CalN P w K mg base G "_are_stairs" 4 2 f__are_stairs [] := calN D__are_stairs X Gm k__are_stairs b__are_stairs
  have b__cells_of_all : Binds K fd__cells_of_all ["stairs"] [] := D__cells_of_all.binds fun _ _ _ _ _ _ us hl => match us, hl with | [_], _ => rfl
  have k__cells_of_all := ok__cells_of_all (base := base) T D__cells_of_all.fa C__cells
  have C__cells_of_all : CalN P w K mg base G "_cells_of_all" 2 1 f__cells_of_all [] := calN D__cells_of_all X Gm k__cells_of_all b__cells_of_all
  have b_fit_laying : Binds K fd_fit_laying ["laying"] [] := D_fit_laying.binds fun _ _ _ _ _ _ us hl => match us, hl with | [_], _ => rfl
  have k_fit_laying := ok_fit_laying (base := base) T D_fit_laying.fa C__are_stairs C__cells_of_all C__size C_frozend C_is_floor C_is_stair
  have C_fit_laying : CalN P w K mg base G "fit_laying" 14 1 f_fit_laying [] := calN D_fit_laying X Gm k_fit_laying b_fit_laying
  have b_shifted : Binds K fd_shifted ["floor", "by"] [] := D_shifted.binds fun _ _ _ _ _ _ us hl => match us, hl with | [_, _], _ => rfl
  have k_shifted := ok_shifted (base := base) T D_shifted.fa C_fit_floor
  have C_shifted : CalN P w K mg base G "shifted" 15 2 f_shifted [] := calN D_shifted X Gm k_shifted b_shifted
  have K_shifted_by_floor : CalK P w K mg base G "shifted" 15 2 f_shifted ["by", "floor"] [1, 0] := calK D_shifted X Gm k_shifted (D_shifted.bindsK fun _ _ _ _ _ _ us hl => match us, hl with | [_, _], _ => rfl)
  have b_mirrored : Binds K fd_mirrored ["floor"] [] := D_mirrored.binds fun _ _ _ _ _ _ us hl => match us, hl with | [_], _ => rfl
  have k_mirrored := ok_mirrored (base := base) T D_mirrored.fa C_fit_floor
  have C_mirrored : CalN P w K mg base G "mirrored" 15 1 f_mirrored [] := calN D_mirrored X Gm k_mirrored b_mirrored
  have K_mirrored_floor : CalK P w K mg base G "mirrored" 15 1 f_mirrored ["floor"] [0] := calK D_mirrored X Gm k_mirrored (D_mirrored.bindsK fun _ _ _ _ _ _ us hl => match us, hl with | [_], _ => rfl)
  have b_half_turned : Binds K fd_half_turned ["floor"] [] := D_half_turned.binds fun _ _ _ _ _ _ us hl => match us, hl with | [_], _ => rfl
  have k_half_turned := ok_half_turned (base := base) T D_half_turned.fa C_fit_floor
  have C_half_turned : CalN P w K mg base G "half_turned" 15 1 f_half_turned [] := calN D_half_turned X Gm k_half_turned b_half_turned
  have K_half_turned_floor : CalK P w K mg base G "half_turned" 15 1 f_half_turned ["floor"] [0] := calK D_half_turned X Gm k_half_turned (D_half_turned.bindsK fun _ _ _ _ _ _ us hl => match us, hl with | [_], _ => rfl)
  have b_stair_shifted : Binds K fd_stair_shifted ["stair", "by"] [] := D_stair_shifted.binds fun _ _ _ _ _ _ us hl => match us, hl with | [_, _], _ => rfl
  have k_stair_shifted := ok_stair_shifted (base := base) T D_stair_shifted.fa C_fit_stair
  have C_stair_shifted : CalN P w K mg base G "stair_shifted" 15 2 f_stair_shifted [] := calN D_stair_shifted X Gm k_stair_shifted b_stair_shifted
  have K_stair_shifted_by_stair : CalK P w K mg base G "stair_shifted" 15 2 f_stair_shifted ["by", "stair"] [1, 0] := calK D_stair_shifted X Gm k_stair_shifted (D_stair_shifted.bindsK fun _ _ _ _ _ _ us hl => match us, hl with | [_, _], _ => rfl)
  have b_stair_mirrored : Binds K fd_stair_mirrored ["stair"] [] := D_stair_mirrored.binds fun _ _ _ _ _ _ us hl => match us, hl with | [_], _ => rfl
  have k_stair_mirrored := ok_stair_mirrored (base := base) T D_stair_mirrored.fa C_fit_stair
  have C_stair_mirrored : CalN P w K mg base G "stair_mirrored" 15 1 f_stair_mirrored [] := calN D_stair_mirrored X Gm k_stair_mirrored b_stair_mirrored
  have K_stair_mirrored_stair : CalK P w K mg base G "stair_mirrored" 15 1 f_stair_mirrored ["stair"] [0] := calK D_stair_mirrored X Gm k_stair_mirrored (D_stair_mirrored.bindsK fun _ _ _ _ _ _ us hl => match us, hl with | [_], _ => rfl)
  have b_stair_half_turned : Binds K fd_stair_half_turned ["stair"] [] := D_stair_half_turned.binds fun _ _ _ _ _ _ us hl => match us, hl with | [_], _ => rfl
  have k_stair_half_turned := ok_stair_half_turned (base := base) T D_stair_half_turned.fa C_cells_of C_fit_stair
  have C_stair_half_turned : CalN P w K mg base G "stair_half_turned" 16 1 f_stair_half_turned [] := calN D_stair_half_turned X Gm k_stair_half_turned b_stair_half_turned
  have K_stair_half_turned_stair : CalK P w K mg base G "stair_half_turned" 16 1 f_stair_half_turned ["stair"] [0] := calK D_stair_half_turned X Gm k_stair_half_turned (D_stair_half_turned.bindsK fun _ _ _ _ _ _ us hl => match us, hl with | [_], _ => rfl)
  have b_laying_shifted : Binds K fd_laying_shifted ["laying", "by"] [] := D_laying_shifted.binds fun _ _ _ _ _ _ us hl => match us, hl with | [_, _], _ => rfl
  have k_laying_shifted := ok_laying_shifted (base := base) T D_laying_shifted.fa C_fit_laying C_stair_shifted
  have K_laying_shifted_by_laying : CalK P w K mg base G "laying_shifted" 16 2 f_laying_shifted ["by", "laying"] [1, 0] := calK D_laying_shifted X Gm k_laying_shifted (D_laying_shifted.bindsK fun _ _ _ _ _ _ us hl => match us, hl with | [_, _], _ => rfl)
  have b_laying_mirrored : Binds K fd_laying_mirrored ["laying"] [] := D_laying_mirrored.binds fun _ _ _ _ _ _ us hl => match us, hl with | [_], _ => rfl
  have k_laying_mirrored := ok_laying_mirrored (base := base) T D_laying_mirrored.fa C_fit_laying C_stair_mirrored
  have K_laying_mirrored_laying : CalK P w K mg base G "laying_mirrored" 16 1 f_laying_mirrored ["laying"] [0] := calK D_laying_mirrored X Gm k_laying_mirrored (D_laying_mirrored.bindsK fun _ _ _ _ _ _ us hl => match us, hl with | [_], _ => rfl)
  have b_laying_half_turned : Binds K fd_laying_half_turned ["laying"] [] := D_laying_half_turned.binds fun _ _ _ _ _ _ us hl => match us, hl with | [_], _ => rfl
  have k_laying_half_turned := ok_laying_half_turned (base := base) T D_laying_half_turned.fa C_fit_laying C_stair_half_turned
  have K_laying_half_turned_laying : CalK P w K mg base G "laying_half_turned" 17 1 f_laying_half_turned ["laying"] [0] := calK D_laying_half_turned X Gm k_laying_half_turned (D_laying_half_turned.bindsK fun _ _ _ _ _ _ us hl => match us, hl with | [_], _ => rfl)
  have b__from_least : Binds K fd__from_least ["floor"] [] := D__from_least.binds fun _ _ _ _ _ _ us hl => match us, hl with | [_], _ => rfl
  have k__from_least := ok__from_least (base := base) T D__from_least.fa C_shifted
  have C__from_least : CalN P w K mg base G "_from_least" 16 1 f__from_least [] := calN D__from_least X Gm k__from_least b__from_least
  have b_alike : Binds K fd_alike ["floor", "other"] [] := D_alike.binds fun _ _ _ _ _ _ us hl => match us, hl with | [_, _], _ => rfl
  have k_alike := ok_alike (base := base) T D_alike.fa C__from_least C_fit_floor C_half_turned C_mirrored
  have C_alike : CalN P w K mg base G "alike" 17 2 f_alike [] := calN D_alike X Gm k_alike b_alike
  have K_alike_other_floor : CalK P w K mg base G "alike" 17 2 f_alike ["other", "floor"] [1, 0] := calK D_alike X Gm k_alike (D_alike.bindsK fun _ _ _ _ _ _ us hl => match us, hl with | [_, _], _ => rfl)
  have b__law_box : Binds K fd__law_box ["script", "k"] [] := D__law_box.binds fun _ _ _ _ _ _ us hl => match us, hl with | [_, _], _ => rfl
  have k__law_box := ok__law_box (base := base) T D__law_box.fa 
  have C__law_box : CalN P w K mg base G "_law_box" 1 2 f__law_box [] := calN D__law_box X Gm k__law_box b__law_box
  have b__law_take : Binds K fd__law_take ["tin", "below_so"] [] := D__law_take.binds fun _ _ _ _ _ _ us hl => match us, hl with | [_, _], _ => rfl
  have k__law_take := ok__law_take (base := base) T D__law_take.fa 
  have C__law_take : CalN P w K mg base G "_law_take" 1 2 f__law_take [] := calN D__law_take X Gm k__law_take b__law_take
  have b__law_cells : Binds K fd__law_cells ["script", "most_so"] [] := D__law_cells.binds fun _ _ _ _ _ _ us hl => match us, hl with | [_, _], _ => rfl
  have k__law_cells := ok__law_cells (base := base) T D__law_cells.fa 
  have C__law_cells : CalN P w K mg base G "_law_cells" 1 2 f__law_cells [] := calN D__law_cells X Gm k__law_cells b__law_cells
  have b__law_lists : Binds K fd__law_lists ["matter"] [] := D__law_lists.binds fun _ _ _ _ _ _ us hl => match us, hl with | [_], _ => rfl
  have C__law_lists : CalN P w K mg base G "_law_lists" 6 1 (f__law_lists 6) [] := calR (g := f__law_lists) (ps := ["matter"]) D__law_lists X Gm rfl (fun k C => ok__law_lists T D__law_lists.fa C) b__law_lists 6
  have b__law_same : Binds K fd__law_same ["got", "due"] [] := D__law_same.binds fun _ _ _ _ _ _ us hl => match us, hl with | [_, _], _ => rfl
  have C__law_same : CalN P w K mg base G "_law_same" 6 2 (f__law_same 6) [] := calR (g := f__law_same) (ps := ["got", "due"]) D__law_same X Gm rfl (fun k C => ok__law_same T D__law_same.fa C) b__law_same 6
  have b__law_oblong : Binds K fd__law_oblong ["wide_so", "high_so"] [] := D__law_oblong.binds fun _ _ _ _ _ _ us hl => match us, hl with | [_, _], _ => rfl
  have k__law_oblong := ok__law_oblong (base := base) T D__law_oblong.fa 
  have C__law_oblong : CalN P w K mg base G "_law_oblong" 1 2 f__law_oblong [] := calN D__law_oblong X Gm k__law_oblong b__law_oblong
  have b__law_corner : Binds K fd__law_corner [] [] := D__law_corner.binds fun _ _ _ _ _ _ us hl => match us, hl with | [], _ => rfl
  have k__law_corner := ok__law_corner (base := base) T D__law_corner.fa 
  have C__law_corner : CalN P w K mg base G "_law_corner" 1 0 f__law_corner [] := calN D__law_corner X Gm k__law_corner b__law_corner
  have b__law_cup : Binds K fd__law_cup [] [] := D__law_cup.binds fun _ _ _ _ _ _ us hl => match us, hl with | [], _ => rfl
  have k__law_cup := ok__law_cup (base := base) T D__law_cup.fa 
  have C__law_cup : CalN P w K mg base G "_law_cup" 1 0 f__law_cup [] := calN D__law_cup X Gm k__law_cup b__law_cup
  have V : ∀ i n g, Tab.at tabV i = some (n, g) → Nonempty (CalV P w K mg base G 17 i n g) := tab_cons (calV D_span k_span (by decide) p_span b_span) (tab_cons (calV D_borders k_borders (by decide) p_borders b_borders) (tab_cons (calV D_mirrored k_mirrored (by decide) p_mirrored b_mirrored) (tab_cons (calV D_half_turned k_half_turned (by decide) p_half_turned b_half_turned) (tab_cons (calV D_stair_mirrored k_stair_mirrored (by decide) p_stair_mirrored b_stair_mirrored) (tab_cons (calV D_stair_half_turned k_stair_half_turned (by decide) p_stair_half_turned b_stair_half_turned) (tab_cons (calV D_diagonal k_diagonal (by decide) p_diagonal b_diagonal) (tab_cons (calV D_can_grow k_can_grow (by decide) p_can_grow b_can_grow) (tab_cons (calV D_grown k_grown (by decide) p_grown b_grown) (tab_cons (calV D_shrunk k_shrunk (by decide) p_shrunk b_shrunk) (tab_cons (calV D_shifted k_shifted (by decide) p_shifted b_shifted) (tab_cons (calV D_alike k_alike (by decide) p_alike b_alike) (tab_cons (calV D_stair_shifted k_stair_shifted (by decide) p_stair_shifted b_stair_shifted) (tab_cons (calV D_laying_shifted k_laying_shifted (by decide) p_laying_shifted b_laying_shifted) (tab_cons (calV D_laying_mirrored k_laying_mirrored (by decide) p_laying_mirrored b_laying_mirrored) (tab_cons (calV D_laying_half_turned k_laying_half_turned (by decide) p_laying_half_turned b_laying_half_turned) (tab_nil))))))))))))))))
  have b__law_heard : Binds K fd__law_heard ["door", "one", "two"] [] := D__law_heard.binds fun _ _ _ _ _ _ us hl => match us, hl with | [_, _, _], _ => rfl
  have k__law_heard := ok__law_heard (base := base) T D__law_heard.fa V
  have C__law_heard : CalN P w K mg base G "_law_heard" 18 3 f__law_heard [] := calN D__law_heard X Gm k__law_heard b__law_heard
  have b__law_always_right : Binds K fd__law_always_right [] [] := D__law_always_right.binds fun _ _ _ _ _ _ us hl => match us, hl with | [], _ => rfl
  have k__law_always_right := ok__law_always_right (base := base) T D__law_always_right.fa C__law_corner C__law_cup C__law_heard C__law_same C_alike C_borders C_can_grow C_diagonal C_grown C_half_turned C_mirrored C_shifted C_shrunk C_span C_stair_half_turned C_stair_mirrored
  have C__law_always_right : CalN P w K mg base G "_law_always_right" 19 0 f__law_always_right [] := calN D__law_always_right X Gm k__law_always_right b__law_always_right
  have b__law_refused_right : Binds K fd__law_refused_right [] [] := D__law_refused_right.binds fun _ _ _ _ _ _ us hl => match us, hl with | [], _ => rfl
  have k__law_refused_right := ok__law_refused_right (base := base) T D__law_refused_right.fa C__law_corner C__law_cup C__law_heard C__law_oblong C__law_same
  have C__law_refused_right : CalN P w K mg base G "_law_refused_right" 19 0 f__law_refused_right [] := calN D__law_refused_right X Gm k__law_refused_right b__law_refused_right
  have b__law_soft_right : Binds K fd__law_soft_right [] [] := D__law_soft_right.binds fun _ _ _ _ _ _ us hl => match us, hl with | [], _ => rfl
  have k__law_soft_right := ok__law_soft_right (base := base) T D__law_soft_right.fa C__law_cup C__law_heard C__law_lists C__law_same C_is_floor K_alike_other_floor K_borders_floor K_can_grow_cell_floor K_diagonal_number_floor K_grown_cell_floor K_half_turned_floor K_is_floor_thing K_laying_half_turned_laying K_laying_mirrored_laying K_laying_shifted_by_laying K_mirrored_floor K_shifted_by_floor K_shrunk_cell_floor K_span_floor K_stair_half_turned_stair K_stair_mirrored_stair K_stair_shifted_by_stair
  have C__law_soft_right : CalN P w K mg base G "_law_soft_right" 19 0 f__law_soft_right [] := calN D__law_soft_right X Gm k__law_soft_right b__law_soft_right
  have b_law : Binds K fd_law ["script"] [] := D_law.binds fun _ _ _ _ _ _ us hl => match us, hl with | [_], _ => rfl
  have k_law := ok_law (base := base) T D_law.fa C__law_always_right C__law_box C__law_cells C__law_refused_right C__law_soft_right C__law_take
  exact law_sp g1 k_law rfl (by rw [g3]; exact pins_lt rfl) (by rw [g3]; exact pins_ok rfl) tr
end Eng
set_option maxRecDepth 100000
set_option maxHeartbeats 4000000
namespace Eng
open PySem PySem.Spec PySem.W PyProof.Rows PySem.HandSPX L2
theorem walk51 {l : OpenLaw} {q : Program} {loose : List Str} {XP : (Str → Option Value) → Heap → Prop} {YP : World → Heap → Prop} {d : DefRec} {K : Params → Frag} {k : Nat} (hn : l.most = some 63) (hdf : d.params.defaults = []) (hr : Room k callerA)
    (hY : ∀ (w : World) (h : Heap), YP w h → (K w.params).In h)
    (F : ∀ (w : World) (mg : Str → Option Value) (fa : Addr) (h : Heap), (K w.params).In h → h.Ns mainGlobals mg → mg d.name = some (.ref fa) →
      ∃ fd : FuncData, (∀ (s : Shared) (u : Value), BindsTo s fd ⟨[u], []⟩ [("script", u)]) ∧ ∀ base : Heap, (K w.params).In base → base.Ns mainGlobals mg → FnOk l.prog w (K w.params) mg base (L2.CX l.prog w) k fa fd ["script"] (spLaw (K w.params))) :
    WalkO q loose XP YP l.row.toRowW d [] (fun f vs => PySem.call f vs) :=
  L2.walk_of (n := 63) (k := k) (x := "script") (CX := fun w => L2.CX l.prog w) (sp := fun w => spLaw (K w.params)) hn (by decide) hdf hr hY F (fun _ _ a ns hl hO hS => ⟨a, ns, rfl, law_fl hO hS, hl, fun _ => rfl⟩) fun w H s e s' z => by
    obtain ⟨_, _, _, _, h⟩ := z
    simp_all
end Eng
open PySem PySem.W PyProof.Rows
set_option maxRecDepth 100000 in
set_option maxHeartbeats 0 in
theorem PySem.Challenge.cw_stairlaid_k51_cells_and_spaces_by_hand_a_holds : PySem.Challenge.rw_stairlaid_k51_cells_and_spaces_by_hand_a.Holds := by
  w_on; o_law; k_head; (case hw => w_witness2)
  k_fill
  refine Eng.walk51 (l := PySem.Challenge.rw_stairlaid_k51_cells_and_spaces_by_hand_a) (k := 20) rfl rfl ⟨rfl, by decide, by decide⟩ (fun w h Y => PySem.W.kIn_of Y) ?F
  case F =>
    intro w mg fa h KX G hmg
    refine' Eng.asm_all KX G hmg ?kg ?D__copied ?D_is_number ?D_is_pair ?D_is_ascending ?D_is_pair_set ?D_frozen ?D__hang_together ?D__collar ?D_is_floor ?D_fit_floor ?D_diagonal ?D_span ?D__larger ?D_can_grow ?D_grown ?D_shrunk ?D_borders ?D__are_steps ?D_is_stair ?D_fit_stair ?D__size ?D__cells ?D_cells_of ?D__are_stairs ?D__cells_of_all ?D_fit_laying ?D_shifted ?D_mirrored ?D_half_turned ?D_stair_shifted ?D_stair_mirrored ?D_stair_half_turned ?D_laying_shifted ?D_laying_mirrored ?D_laying_half_turned ?D__from_least ?D_alike ?D__law_box ?D__law_take ?D__law_cells ?D__law_lists ?D__law_same ?D__law_oblong ?D__law_corner ?D__law_cup ?D__law_heard ?D__law_always_right ?D__law_refused_right ?D__law_soft_right ?D_law ?K_NoCell ?I_NoCell ?K_Unfit ?I_Unfit ?s_NoCell_NoCell ?s_NoCell_Unfit ?s_Unfit_NoCell ?s_Unfit_Unfit ?t_NoCell_LookupError ?t_Unfit_ValueError ?z_LookupError ?z_ValueError ?z_abs ?z_all ?z_bool ?z_enumerate ?z_int ?z_isinstance ?z_len ?z_list ?z_max ?z_min ?z_range ?z_set ?z_sorted ?z_str ?z_tuple ?z_type ?z_zip  (Eng.law_of Eng.b51a Eng.b51b Eng.b51c)
    (case kg => refine' ⟨?hn, ?ht⟩; (case hn => k_is); (case ht => k_is))
    (case D__copied => refine' Eng.df_mk ?g ?l ?c ?k; (case g => k_is); (case l => k_is); (case c => k_is); (case k => k_is))
    (case D_is_number => refine' Eng.df_mk ?g ?l ?c ?k; (case g => k_is); (case l => k_is); (case c => k_is); (case k => k_is))
    (case D_is_pair => refine' Eng.df_mk ?g ?l ?c ?k; (case g => k_is); (case l => k_is); (case c => k_is); (case k => k_is))
    (case D_is_ascending => refine' Eng.df_mk ?g ?l ?c ?k; (case g => k_is); (case l => k_is); (case c => k_is); (case k => k_is))
    (case D_is_pair_set => refine' Eng.df_mk ?g ?l ?c ?k; (case g => k_is); (case l => k_is); (case c => k_is); (case k => k_is))
    (case D_frozen => refine' Eng.dd_mk ?g ?l ?c ?k ?t ?v ?d; (case g => k_is); (case l => k_is); (case c => k_is); (case k => k_is); (case t => k_is); (case v => first | exact .cons ⟨_, rfl⟩ .nil | exact .cons (.int _ _) .nil | (constructor; constructor; constructor)); (case d => exact (fun e => nomatch e)))
    (case D__hang_together => refine' Eng.df_mk ?g ?l ?c ?k; (case g => k_is); (case l => k_is); (case c => k_is); (case k => k_is))
    (case D__collar => refine' Eng.df_mk ?g ?l ?c ?k; (case g => k_is); (case l => k_is); (case c => k_is); (case k => k_is))
    (case D_is_floor => refine' Eng.df_mk ?g ?l ?c ?k; (case g => k_is); (case l => k_is); (case c => k_is); (case k => k_is))
    (case D_fit_floor => refine' Eng.df_mk ?g ?l ?c ?k; (case g => k_is); (case l => k_is); (case c => k_is); (case k => k_is))
    (case D_diagonal => refine' Eng.df_mk ?g ?l ?c ?k; (case g => k_is); (case l => k_is); (case c => k_is); (case k => k_is))
    (case D_span => refine' Eng.df_mk ?g ?l ?c ?k; (case g => k_is); (case l => k_is); (case c => k_is); (case k => k_is))
    (case D__larger => refine' Eng.df_mk ?g ?l ?c ?k; (case g => k_is); (case l => k_is); (case c => k_is); (case k => k_is))
    (case D_can_grow => refine' Eng.df_mk ?g ?l ?c ?k; (case g => k_is); (case l => k_is); (case c => k_is); (case k => k_is))
    (case D_grown => refine' Eng.df_mk ?g ?l ?c ?k; (case g => k_is); (case l => k_is); (case c => k_is); (case k => k_is))
    (case D_shrunk => refine' Eng.df_mk ?g ?l ?c ?k; (case g => k_is); (case l => k_is); (case c => k_is); (case k => k_is))
    (case D_borders => refine' Eng.df_mk ?g ?l ?c ?k; (case g => k_is); (case l => k_is); (case c => k_is); (case k => k_is))
    (case D__are_steps => refine' Eng.df_mk ?g ?l ?c ?k; (case g => k_is); (case l => k_is); (case c => k_is); (case k => k_is))
    (case D_is_stair => refine' Eng.df_mk ?g ?l ?c ?k; (case g => k_is); (case l => k_is); (case c => k_is); (case k => k_is))
    (case D_fit_stair => refine' Eng.df_mk ?g ?l ?c ?k; (case g => k_is); (case l => k_is); (case c => k_is); (case k => k_is))
    (case D__size => refine' Eng.df_mk ?g ?l ?c ?k; (case g => k_is); (case l => k_is); (case c => k_is); (case k => k_is))
    (case D__cells => refine' Eng.df_mk ?g ?l ?c ?k; (case g => k_is); (case l => k_is); (case c => k_is); (case k => k_is))
    (case D_cells_of => refine' Eng.df_mk ?g ?l ?c ?k; (case g => k_is); (case l => k_is); (case c => k_is); (case k => k_is))
    (case D__are_stairs => refine' Eng.df_mk ?g ?l ?c ?k; (case g => k_is); (case l => k_is); (case c => k_is); (case k => k_is))
    (case D__cells_of_all => refine' Eng.df_mk ?g ?l ?c ?k; (case g => k_is); (case l => k_is); (case c => k_is); (case k => k_is))
    (case D_fit_laying => refine' Eng.df_mk ?g ?l ?c ?k; (case g => k_is); (case l => k_is); (case c => k_is); (case k => k_is))
    (case D_shifted => refine' Eng.df_mk ?g ?l ?c ?k; (case g => k_is); (case l => k_is); (case c => k_is); (case k => k_is))
    (case D_mirrored => refine' Eng.df_mk ?g ?l ?c ?k; (case g => k_is); (case l => k_is); (case c => k_is); (case k => k_is))
    (case D_half_turned => refine' Eng.df_mk ?g ?l ?c ?k; (case g => k_is); (case l => k_is); (case c => k_is); (case k => k_is))
    (case D_stair_shifted => refine' Eng.df_mk ?g ?l ?c ?k; (case g => k_is); (case l => k_is); (case c => k_is); (case k => k_is))
    (case D_stair_mirrored => refine' Eng.df_mk ?g ?l ?c ?k; (case g => k_is); (case l => k_is); (case c => k_is); (case k => k_is))
    (case D_stair_half_turned => refine' Eng.df_mk ?g ?l ?c ?k; (case g => k_is); (case l => k_is); (case c => k_is); (case k => k_is))
    (case D_laying_shifted => refine' Eng.df_mk ?g ?l ?c ?k; (case g => k_is); (case l => k_is); (case c => k_is); (case k => k_is))
    (case D_laying_mirrored => refine' Eng.df_mk ?g ?l ?c ?k; (case g => k_is); (case l => k_is); (case c => k_is); (case k => k_is))
    (case D_laying_half_turned => refine' Eng.df_mk ?g ?l ?c ?k; (case g => k_is); (case l => k_is); (case c => k_is); (case k => k_is))
    (case D__from_least => refine' Eng.df_mk ?g ?l ?c ?k; (case g => k_is); (case l => k_is); (case c => k_is); (case k => k_is))
    (case D_alike => refine' Eng.df_mk ?g ?l ?c ?k; (case g => k_is); (case l => k_is); (case c => k_is); (case k => k_is))
    (case D__law_box => refine' Eng.df_mk ?g ?l ?c ?k; (case g => k_is); (case l => k_is); (case c => k_is); (case k => k_is))
    (case D__law_take => refine' Eng.df_mk ?g ?l ?c ?k; (case g => k_is); (case l => k_is); (case c => k_is); (case k => k_is))
    (case D__law_cells => refine' Eng.df_mk ?g ?l ?c ?k; (case g => k_is); (case l => k_is); (case c => k_is); (case k => k_is))
    (case D__law_lists => refine' Eng.df_mk ?g ?l ?c ?k; (case g => k_is); (case l => k_is); (case c => k_is); (case k => k_is))
    (case D__law_same => refine' Eng.df_mk ?g ?l ?c ?k; (case g => k_is); (case l => k_is); (case c => k_is); (case k => k_is))
    (case D__law_oblong => refine' Eng.df_mk ?g ?l ?c ?k; (case g => k_is); (case l => k_is); (case c => k_is); (case k => k_is))
    (case D__law_corner => refine' Eng.df_mk ?g ?l ?c ?k; (case g => k_is); (case l => k_is); (case c => k_is); (case k => k_is))
    (case D__law_cup => refine' Eng.df_mk ?g ?l ?c ?k; (case g => k_is); (case l => k_is); (case c => k_is); (case k => k_is))
    (case D__law_heard => refine' Eng.df_mk ?g ?l ?c ?k; (case g => k_is); (case l => k_is); (case c => k_is); (case k => k_is))
    (case D__law_always_right => refine' Eng.df_mk ?g ?l ?c ?k; (case g => k_is); (case l => k_is); (case c => k_is); (case k => k_is))
    (case D__law_refused_right => refine' Eng.df_mk ?g ?l ?c ?k; (case g => k_is); (case l => k_is); (case c => k_is); (case k => k_is))
    (case D__law_soft_right => refine' Eng.df_mk ?g ?l ?c ?k; (case g => k_is); (case l => k_is); (case c => k_is); (case k => k_is))
    (case D_law => refine' Eng.df_mk ?g ?l ?c ?k; (case g => k_is); (case l => k_is); (case c => k_is); (case k => k_is))
    (case K_NoCell => refine' ⟨?g, ?kp, ?ex, ?ty, ?hg, ?hk, ?hd, ?ha, ?hm, ?ic⟩; (case g => k_is); (case kp => k_is); (case ex => k_is); (case ty => k_is); (case hg => k_is); (case hk => k_is); (case hd => k_is); (case ha => k_is); (case hm => k_is); (case ic => k_is))
    (case I_NoCell => refine' Eng.ci_mk ?cl ?sa ?ic ?ti ?no ?l ?c; (case cl => k_is); (case sa => k_is); (case ic => k_is); (case ti => k_is); (case no => k_is); (case l => k_is); (case c => k_is))
    (case K_Unfit => refine' ⟨?g, ?kp, ?ex, ?ty, ?hg, ?hk, ?hd, ?ha, ?hm, ?ic⟩; (case g => k_is); (case kp => k_is); (case ex => k_is); (case ty => k_is); (case hg => k_is); (case hk => k_is); (case hd => k_is); (case ha => k_is); (case hm => k_is); (case ic => k_is))
    (case I_Unfit => first | rfl | kernel_rfl)
    (case s_NoCell_NoCell => k_is)
    (case s_NoCell_Unfit => k_is)
    (case s_Unfit_NoCell => k_is)
    (case s_Unfit_Unfit => k_is)
    (case t_NoCell_LookupError => k_is)
    (case t_Unfit_ValueError => k_is)
    (case z_LookupError => k_is)
    (case z_ValueError => k_is)
    (case z_abs => k_is)
    (case z_all => k_is)
    (case z_bool => k_is)
    (case z_enumerate => k_is)
    (case z_int => k_is)
    (case z_isinstance => k_is)
    (case z_len => k_is)
    (case z_list => k_is)
    (case z_max => k_is)
    (case z_min => k_is)
    (case z_range => k_is)
    (case z_set => k_is)
    (case z_sorted => k_is)
    (case z_str => k_is)
    (case z_tuple => k_is)
    (case z_type => k_is)
    (case z_zip => k_is)
