import PyProof.Rows.All
import Wide.All
import OpenK.AllK
import Wide.FinOn
import PyProof.EqAt
import PyProof.EqKinds
import PyProof.TupleCall
import PyProof.NoPylong
import PyProof.Fits
import HandS.ForMost
import HandS.ForExc
import HandS.Wide
import HandS.Gcd
import HandS.ExcInit
import HandS.ExcField
import HandS.TryMany
import HandS.IsInst
import HandS.Flow
import HandS.Evl
import HandS.Style
import HandS.More
import HandS.TupAny
import HandS.Zip
import HandS.Deep
import HandS.NoneIn
import HandS.Walk
import PyProof.P3In
import Flt.RightSqrt
import KE.KMathG
import HandS.List
import PySem.Challenge.RW_wholefloors_k02_whole_signs_and_floors
set_option Elab.async false
set_option linter.all false
set_option maxRecDepth 100000
set_option maxHeartbeats 4000000
/-! Lz: what a piece of a def does, by data; some lists (the cells) may be written; what is wanted of an outcome is told behind it. -/
namespace Wz
open PySem PySem.Spec PyProof.Rows L2 Evl

/-! ### the least that is asked -/
def WE (X : Cx) (e : Expr) (st : L2.St) (H : Hp) (Q : VK) : Prop :=
  ∀ (pins : List (Addr × Obj)) (s : Shared), Inv X pins st H s → wpAny (model X.prog X.w) X.A (eval e X.env) (EP X pins st Q) X.xe s
def WT (X : Cx) (e : Expr) (st : L2.St) (H : Hp) (Q : Bool → Hp → Prop) : Prop :=
  ∀ (pins : List (Addr × Obj)) (s : Shared), Inv X pins st H s → wpAny (model X.prog X.w) X.A (isTrue e X.env (eval e X.env)) (TP X pins st Q) X.xe s
def WW (X : Cx) (e : Expr) (st : L2.St) (H : Hp) (Q : Bool → Hp → Prop) : Prop :=
  ∀ (wh : Sem Value) (pins : List (Addr × Obj)) (s : Shared), Inv X pins st H s → wpAny (model X.prog X.w) X.A (isTrue e X.env wh) (TP X pins st Q) X.xe s
def WA (X : Cx) (es : List Expr) (st : L2.St) (H : Hp) (Q : List V → Hp → Prop) : Prop :=
  ∀ (pos : Pos) (pins : List (Addr × Obj)) (s : Shared), Inv X pins st H s → wpAny (model X.prog X.w) X.A (spliced (backTo pos (starEach es X.env))) (AP X pins st Q) X.xe s
def WK (X : Cx) (ks : List Keyword) (st : L2.St) (H : Hp) (Q : List V → Hp → Prop) : Prop :=
  ∀ (pos : Pos) (pins : List (Addr × Obj)) (s : Shared), Inv X pins st H s → wpAny (model X.prog X.w) X.A (evalAll ((backToKw pos (keywordEach ks X.env)).map (·.2))) (AP X pins st Q) X.xe s
def WS (X : Cx) (e : Stmt) (D : Ends) (st : L2.St) (H : Hp) : Prop :=
  ∀ (pins : List (Addr × Obj)) (s : Shared), Inv X pins st H s → wpAny (model X.prog X.w) X.A (exec e X.env) (SP X pins D) X.xe s
def WB (X : Cx) (es : List Stmt) (D : Ends) (st : L2.St) (H : Hp) : Prop :=
  ∀ (pins : List (Addr × Obj)) (s : Shared), Inv X pins st H s → wpAny (model X.prog X.w) X.A (execs es X.env) (SP X pins D) X.xe s
section
variable {X : Cx}
theorem pe_w {e : Expr} : PE X e (WE X e) := ⟨fun pins s _ _ _ I h => h pins s I⟩
theorem pt_w {e : Expr} : PT X e (WT X e) := ⟨fun pins s _ _ _ I h => h pins s I⟩
theorem pw_w {e : Expr} : PW X e (WW X e) := ⟨fun wh pins s _ _ _ I h => h wh pins s I⟩
theorem pa_w {es : List Expr} : PA X es (WA X es) := ⟨fun pos pins s _ _ _ I h => h pos pins s I⟩
theorem pk_w {es : List Keyword} : PK X es (WK X es) := ⟨fun pos pins s _ _ _ I h => h pos pins s I⟩
theorem ps_w {e : Stmt} : PS X e (WS X e) := ⟨fun pins s _ _ _ I h => h pins s I⟩
theorem pss_w {es : List Stmt} : PSs X es (WB X es) := ⟨fun pins s _ _ _ I h => h pins s I⟩
theorem we {e : Expr} {t : TE} (h : PE X e t) {st : L2.St} {H : Hp} {Q : VK} (q : t st H Q) : WE X e st H Q := fun pins s I => h.run pins s st H Q I q
theorem wt {e : Expr} {t : TT} (h : PT X e t) {st : L2.St} {H : Hp} {Q : Bool → Hp → Prop} (q : t st H Q) : WT X e st H Q := fun pins s I => h.run pins s st H Q I q
theorem ww {e : Expr} {t : TT} (h : PW X e t) {st : L2.St} {H : Hp} {Q : Bool → Hp → Prop} (q : t st H Q) : WW X e st H Q := fun wh pins s I => h.run wh pins s st H Q I q
theorem wa {es : List Expr} {t : TA} (h : PA X es t) {st : L2.St} {H : Hp} {Q : List V → Hp → Prop} (q : t st H Q) : WA X es st H Q := fun pos pins s I => h.run pos pins s st H Q I q
theorem wk {es : List Keyword} {t : TA} (h : PK X es t) {st : L2.St} {H : Hp} {Q : List V → Hp → Prop} (q : t st H Q) : WK X es st H Q := fun pos pins s I => h.run pos pins s st H Q I q
theorem wss {e : Stmt} {t : TS} (h : PS X e t) {st : L2.St} {H : Hp} {D : Ends} (q : t D st H) : WS X e D st H := fun pins s I => h.run pins s st H D I q
theorem wb {es : List Stmt} {t : TS} (h : PSs X es t) {st : L2.St} {H : Hp} {D : Ends} (q : t D st H) : WB X es D st H := fun pins s I => h.run pins s st H D I q
end

/-! ### data -/
inductive Dat where
  | non | bl (b : Bool) | int (i : Int) | str (x : Str) | tup (xs : List Dat) | lst (xs : List Dat) | cel (i : Nat) | raw (v : V)
abbrev Cs := List (List Dat)
abbrev Os := List Addr

/-- there is no list in it, and no cell -/
def noL : Dat → Bool
  | .lst _ => false
  | .cel _ => false
  | .raw _ => false
  | .tup xs => noLs xs
  | _ => true
where noLs : List Dat → Bool
  | [] => true
  | d :: ds => noL d && noLs ds
/-- all but the cells is kept -/
def Kp (o : Os) (H H' : Hp) : Prop := ∀ b u, b ∉ o → H b = some u → H' b = some u
theorem Kp.refl (o : Os) (H : Hp) : Kp o H H := fun _ _ _ h => h
theorem Kp.trans {o : Os} {H H1 H2 : Hp} (a : Kp o H H1) (b : Kp o H1 H2) : Kp o H H2 := fun x u n h => b x u n (a x u n h)
theorem Kp.of_ex {o : Os} {H H1 : Hp} (a : Ex H H1) : Kp o H H1 := fun x u _ h => a x u h
theorem Kp.ex {H H1 : Hp} (a : Kp [] H H1) : Ex H H1 := fun x u h => a x u (fun z => by cases z) h
theorem Kp.more {o o' : Os} {H H1 : Hp} (a : Kp o H H1) (h : ∀ b, b ∈ o → b ∈ o') : Kp o' H H1 := fun x u n g => a x u (fun z => n (h x z)) g

/-- a list that is read: no cell, or one of the module's own -/
def LS (K : PySem.W.Frag) (o : Os) (H : Hp) (a : Addr) (xs : List V) : Prop :=
  (Rd H a (.lst xs) ∧ a ∉ o) ∨ ∃ (ob : Obj) (its : Array Value) (n : Nat), K.lookup a = some ob ∧ ob.cls = .type "list" ∧ ob.dict = none ∧ ob.data = .seq its n ∧ its.size ≤ sizeLine ∧ Vals xs its.toList
theorem LS.sq {K : PySem.W.Frag} {o : Os} {H : Hp} {a : Addr} {xs : List V} (h : LS K o H a xs) : SqL K H a xs := by
  rcases h with h | h
  · exact .inl h.1
  · exact .inr h
theorem LS.of {K : PySem.W.Frag} {H : Hp} {a : Addr} {xs : List V} (h : SqL K H a xs) : LS K [] H a xs := by
  rcases h with h | h
  · exact .inl ⟨h, fun z => by cases z⟩
  · exact .inr h
theorem LS.less {K : PySem.W.Frag} {o o' : Os} {H : Hp} {a : Addr} {xs : List V} (w : ∀ b, b ∈ o' → b ∈ o) (h : LS K o H a xs) : LS K o' H a xs := by
  rcases h with h | h
  · exact .inl ⟨h.1, fun z => h.2 (w _ z)⟩
  · exact .inr h
theorem LS.plus {K : PySem.W.Frag} {o : Os} {H : Hp} {a p : Addr} {xs : List V} (n : H p = none) (h : LS K o H a xs) : LS K (o ++ [p]) H a xs := by
  rcases h with ⟨s, m⟩ | h
  · refine .inl ⟨s, fun z => ?_⟩
    rcases List.mem_append.mp z with z | z
    · exact m z
    · have e := List.mem_singleton.mp z
      subst e
      rcases s with s | ⟨ob, s⟩
      · rw [n] at s; cases s
      · rw [n] at s; cases s
  · exact .inr h
/-- v is d, of what stands in H, and no list of it is a cell -/
inductive DV (K : PySem.W.Frag) (o : Os) (H : Hp) : V → Dat → Prop
  | non : DV K o H .non .non
  | bl (b : Bool) : DV K o H (.bl b) (.bl b)
  | int (i : Int) : DV K o H (.int i) (.int i)
  | str (x : Str) : DV K o H (.str x) (.str x)
  | tup {a : Addr} {xs : List V} {ds : List Dat} : SqT K H a xs → xs.length = ds.length → (∀ (i : Nat) (v : V) (d : Dat), xs[i]? = some v → ds[i]? = some d → DV K o H v d) → DV K o H (.ref a) (.tup ds)
  | lst {a : Addr} {xs : List V} {ds : List Dat} : LS K o H a xs → xs.length = ds.length → (∀ (i : Nat) (v : V) (d : Dat), xs[i]? = some v → ds[i]? = some d → DV K o H v d) → DV K o H (.ref a) (.lst ds)
  | raw (v : V) : DV K o H v (.raw v)
def DVs (K : PySem.W.Frag) (o : Os) (H : Hp) (vs : List V) (ds : List Dat) : Prop := vs.length = ds.length ∧ ∀ (i : Nat) (v : V) (d : Dat), vs[i]? = some v → ds[i]? = some d → DV K o H v d
/-- v is d, a cell too -/
inductive DT (K : PySem.W.Frag) (o : Os) (H : Hp) : V → Dat → Prop
  | v {v : V} {d : Dat} : DV K o H v d → DT K o H v d
  | cel {a : Addr} {i : Nat} : o[i]? = some a → DT K o H (.ref a) (.cel i)
def DTs (K : PySem.W.Frag) (o : Os) (H : Hp) (vs : List V) (ds : List Dat) : Prop := vs.length = ds.length ∧ ∀ (i : Nat) (v : V) (d : Dat), vs[i]? = some v → ds[i]? = some d → DT K o H v d
/-- the cells -/
structure DK (K : PySem.W.Frag) (o : Os) (k : Cs) (H : Hp) : Prop where
  len : o.length = k.length
  nd : o.Nodup
  nl : ∀ s ∈ k, s.all noL = true
  at_ : ∀ (i : Nat) (a : Addr) (as : List Dat), o[i]? = some a → k[i]? = some as → ∃ xs, H a = some (.lst xs) ∧ DVs K o H xs as
theorem kp_rd {o : Os} {H H' : Hp} {a : Addr} {u : HO} (e : Kp o H H') (n : a ∉ o) (h : Rd H a u) : Rd H' a u := by
  rcases h with h | ⟨ob, h⟩
  · exact Or.inl (e a _ n h)
  · exact Or.inr ⟨ob, e a _ n h⟩
variable {K : PySem.W.Frag} {o : Os} {k : Cs} {H H' : Hp} {v : V} {d : Dat} {vs : List V} {ds as : List Dat} {a : Addr} {xs : List V}
theorem DK.cell (h : DK K o k H) (m : a ∈ o) : ∃ xs, H a = some (.lst xs) := by
  obtain ⟨i, hi⟩ := List.getElem?_of_mem m
  have hl : i < k.length := by rw [← h.len]; exact (List.getElem?_eq_some_iff.mp hi).1
  obtain ⟨xs, hx, _⟩ := h.at_ i a _ hi (List.getElem?_eq_getElem hl)
  exact ⟨xs, hx⟩
/-- what stands at a tuple's address is no cell -/
theorem LS.kp {K : PySem.W.Frag} {o o' : Os} {H H' : Hp} {a : Addr} {xs : List V} (h : LS K o' H a xs) (e : Kp o H H') (w : ∀ b, b ∈ o → b ∈ o') : LS K o' H' a xs := by
  rcases h with h | h
  · exact .inl ⟨kp_rd e (fun z => h.2 (w _ z)) h.1, h.2⟩
  · exact .inr h
theorem dk_tup (h : DK K o k H) (r : Rd H a (.tup xs)) : a ∉ o := fun m => by
  obtain ⟨ys, hy⟩ := h.cell m
  rcases r with r | ⟨ob, r⟩
  · rw [hy] at r; cases r
  · rw [hy] at r; cases r
theorem DK.ne (h : DK K o k H) (n : H a = none) : a ∉ o := fun m => by
  obtain ⟨ys, hy⟩ := h.cell m
  rw [n] at hy; cases hy
theorem kp_t (e : Kp o H H') (h0 : DK K o k H) (h : SqT K H a xs) : SqT K H' a xs := by
  rcases h with h | h
  · exact Or.inl (kp_rd e (dk_tup h0 h) h)
  · exact Or.inr h
theorem DV.kp (e : Kp o H H') (h0 : DK K o k H) (h : DV K o H v d) : DV K o H' v d := by
  induction h with
  | non => exact .non
  | bl b => exact .bl b
  | int i => exact .int i
  | str x => exact .str x
  | tup s l _ ih => exact .tup (kp_t e h0 s) l ih
  | lst s l _ ih => exact .lst (s.kp e fun _ z => z) l ih
  | raw v => exact .raw v
theorem DV.kp' {o' : Os} (e : Kp o H H') (h0 : DK K o k H) (w : ∀ b, b ∈ o → b ∈ o') (h : DV K o' H v d) : DV K o' H' v d := by
  induction h with
  | non => exact .non
  | bl b => exact .bl b
  | int i => exact .int i
  | str x => exact .str x
  | tup s l _ ih => exact .tup (kp_t e h0 s) l ih
  | lst s l _ ih => exact .lst (s.kp e w) l ih
  | raw v => exact .raw v
theorem DVs.kp (e : Kp o H H') (h0 : DK K o k H) (h : DVs K o H vs ds) : DVs K o H' vs ds := ⟨h.1, fun i v d a b => (h.2 i v d a b).kp e h0⟩
theorem DT.kp (e : Kp o H H') (h0 : DK K o k H) (h : DT K o H v d) : DT K o H' v d := by
  cases h with
  | v h => exact .v (h.kp e h0)
  | cel h => exact .cel h
theorem DTs.kp (e : Kp o H H') (h0 : DK K o k H) (h : DTs K o H vs ds) : DTs K o H' vs ds := ⟨h.1, fun i v d a b => (h.2 i v d a b).kp e h0⟩
theorem DVs.dts (h : DVs K o H vs ds) : DTs K o H vs ds := ⟨h.1, fun i v d a b => .v (h.2 i v d a b)⟩
/-- what stands new -/
theorem DK.ex (h : DK K o k H) (e : Ex H H') : DK K o k H' := ⟨h.len, h.nd, h.nl, fun i a as hi ha => by
  obtain ⟨xs, hx, hd⟩ := h.at_ i a as hi ha
  exact ⟨xs, e a _ hx, hd.kp (Kp.of_ex e) h⟩⟩
/-- fewer cells -/
theorem DV.less {o o' : Os} (h : ∀ b, b ∈ o' → b ∈ o) (q : DV K o H v d) : DV K o' H v d := by
  induction q with
  | non => exact .non
  | bl b => exact .bl b
  | int i => exact .int i
  | str x => exact .str x
  | tup s l _ ih => exact .tup s l ih
  | lst s l _ ih => exact .lst (s.less h) l ih
  | raw v => exact .raw v
theorem DVs.less {o o' : Os} (h : ∀ b, b ∈ o' → b ∈ o) (q : DVs K o H vs ds) : DVs K o' H vs ds := ⟨q.1, fun i v d a b => (q.2 i v d a b).less h⟩
/-- a new cell -/
theorem DV.plus {p : Addr} (n : H p = none) (h : DV K o H v d) : DV K (o ++ [p]) H v d := by
  induction h with
  | non => exact .non
  | bl b => exact .bl b
  | int i => exact .int i
  | str x => exact .str x
  | tup s l _ ih => exact .tup s l ih
  | lst s l _ ih => exact .lst (s.plus n) l ih
  | raw v => exact .raw v
theorem DVs.plus {p : Addr} (n : H p = none) (h : DVs K o H vs ds) : DVs K (o ++ [p]) H vs ds := ⟨h.1, fun i v d a b => (h.2 i v d a b).plus n⟩
theorem DT.plus {p : Addr} (n : H p = none) (h : DT K o H v d) : DT K (o ++ [p]) H v d := by
  cases h with
  | v h => exact .v (h.plus n)
  | cel h => exact .cel (by rw [List.getElem?_append_left (List.getElem?_eq_some_iff.mp h).1]; exact h)
theorem noLs_at : ∀ {ds : List Dat} {i : Nat} {d : Dat}, noL.noLs ds = true → ds[i]? = some d → noL d = true
  | [], _, _, _, h => by simp at h
  | d :: ds, 0, e, h, q => by
    rw [noL.noLs, Bool.and_eq_true] at h
    have : d = e := by simpa using q
    rw [← this]; exact h.1
  | d :: ds, i + 1, e, h, q => by
    rw [noL.noLs, Bool.and_eq_true] at h
    exact noLs_at h.2 (by simpa using q)
theorem DV.back (h : DV K o H v d) : noL d = true → ∀ o', DV K o' H v d := by
  induction h with
  | non => exact fun _ _ => .non
  | bl b => exact fun _ _ => .bl b
  | int i => exact fun _ _ => .int i
  | str x => exact fun _ _ => .str x
  | tup s l _ ih =>
    intro h o'
    rw [noL] at h
    exact .tup s l fun i v d a b => ih i v d a b (noLs_at h b) o'
  | lst s l _ ih => intro h; rw [noL] at h; cases h
  | raw v => intro h; rw [noL] at h; cases h
/-- no cell at the top -/
def noC : Dat → Bool
  | .cel _ => false
  | _ => true
theorem DT.unc (h : DT K o H v d) (n : noC d = true) : DV K o H v d := by
  cases h with
  | v h => exact h
  | cel h => cases n
theorem DTs.unc (h : DTs K o H vs ds) (n : ds.all noC = true) : DVs K o H vs ds := ⟨h.1, fun i v d a b => (h.2 i v d a b).unc (List.all_eq_true.mp n d (List.mem_of_getElem? b))⟩
theorem DVs.at (h : DVs K o H vs ds) {i : Nat} (e : ds[i]? = some d) : ∃ v, vs[i]? = some v ∧ DV K o H v d := by
  have hi : i < ds.length := (List.getElem?_eq_some_iff.mp e).1
  have hv : vs[i]? = some (vs[i]'(by rw [h.1]; exact hi)) := List.getElem?_eq_getElem _
  exact ⟨_, hv, h.2 i _ d hv e⟩
theorem DTs.at (h : DTs K o H vs ds) {i : Nat} (e : ds[i]? = some d) : ∃ v, vs[i]? = some v ∧ DT K o H v d := by
  have hi : i < ds.length := (List.getElem?_eq_some_iff.mp e).1
  have hv : vs[i]? = some (vs[i]'(by rw [h.1]; exact hi)) := List.getElem?_eq_getElem _
  exact ⟨_, hv, h.2 i _ d hv e⟩
theorem DVs.nil : DVs K o H [] [] := ⟨rfl, fun i v d a _ => by simp at a⟩
theorem DVs.cons (h : DV K o H v d) (r : DVs K o H vs ds) : DVs K o H (v :: vs) (d :: ds) :=
  ⟨congrArg Nat.succ r.1, fun i => match i with
    | 0 => fun w e a b => by simp at a b; subst a b; exact h
    | i + 1 => fun w e a b => r.2 i w e (by simpa using a) (by simpa using b)⟩
theorem DTs.nil : DTs K o H [] [] := ⟨rfl, fun i v d a _ => by simp at a⟩
theorem DTs.cons (h : DT K o H v d) (r : DTs K o H vs ds) : DTs K o H (v :: vs) (d :: ds) :=
  ⟨congrArg Nat.succ r.1, fun i => match i with
    | 0 => fun w e a b => by simp at a b; subst a b; exact h
    | i + 1 => fun w e a b => r.2 i w e (by simpa using a) (by simpa using b)⟩
theorem DVs.append {us : List V} {es : List Dat} (h : DVs K o H vs ds) (r : DVs K o H us es) : DVs K o H (vs ++ us) (ds ++ es) := by
  refine ⟨by rw [List.length_append, List.length_append, h.1, r.1], fun i v d ga gb => ?_⟩
  by_cases hi : i < vs.length
  · rw [List.getElem?_append_left hi] at ga
    rw [List.getElem?_append_left (by rw [← h.1]; exact hi)] at gb
    exact h.2 i v d ga gb
  · rw [List.getElem?_append_right (by omega)] at ga
    rw [List.getElem?_append_right (by rw [← h.1]; omega), ← h.1] at gb
    exact r.2 _ v d ga gb
theorem DTs.uncons {v0 : V} {d0 : Dat} (h : DTs K o H (v0 :: vs) (d0 :: ds)) : DT K o H v0 d0 ∧ DTs K o H vs ds := ⟨h.2 0 _ _ rfl rfl, by simpa using h.1, fun i v d a b => h.2 (i + 1) v d (by simpa using a) (by simpa using b)⟩
theorem DVs.uncons {v0 : V} {d0 : Dat} (h : DVs K o H (v0 :: vs) (d0 :: ds)) : DV K o H v0 d0 ∧ DVs K o H vs ds := ⟨h.2 0 _ _ rfl rfl, by simpa using h.1, fun i v d a b => h.2 (i + 1) v d (by simpa using a) (by simpa using b)⟩
theorem DT.unint {i : Int} (h : DT K o H v (.int i)) : v = .int i := by cases h with | v h => cases h; rfl
theorem DT.unbl {i : Bool} (h : DT K o H v (.bl i)) : v = .bl i := by cases h with | v h => cases h; rfl
theorem DT.unraw {w : V} (h : DT K o H v (.raw w)) : v = w := by cases h with | v h => cases h; rfl
theorem DT.uncel {i : Nat} (h : DT K o H v (.cel i)) : ∃ a, v = .ref a ∧ o[i]? = some a := by
  cases h with
  | v h => cases h
  | cel h => exact ⟨_, rfl, h⟩
theorem DV.untup (h : DV K o H v (.tup ds)) : ∃ a xs, v = .ref a ∧ SqT K H a xs ∧ DVs K o H xs ds := by
  cases h with
  | tup s l r => exact ⟨_, _, rfl, s, l, r⟩
theorem DV.unlst (h : DV K o H v (.lst ds)) : ∃ a xs, v = .ref a ∧ LS K o H a xs ∧ DVs K o H xs ds := by
  cases h with
  | lst s l r => exact ⟨_, _, rfl, s, l, r⟩
theorem DT.untup (h : DT K o H v (.tup ds)) : ∃ a xs, v = .ref a ∧ SqT K H a xs ∧ DVs K o H xs ds := (h.unc rfl).untup
theorem DT.unlst (h : DT K o H v (.lst ds)) : ∃ a xs, v = .ref a ∧ LS K o H a xs ∧ DVs K o H xs ds := (h.unc rfl).unlst
theorem DV.tup' (s : SqT K H a xs) (r : DVs K o H xs ds) : DV K o H (.ref a) (.tup ds) := .tup s r.1 r.2
theorem DV.lst' (s : Rd H a (.lst xs)) (n : a ∉ o) (r : DVs K o H xs ds) : DV K o H (.ref a) (.lst ds) := .lst (.inl ⟨s, n⟩) r.1 r.2
theorem DV.lstS (s : LS K o H a xs) (r : DVs K o H xs ds) : DV K o H (.ref a) (.lst ds) := .lst s r.1 r.2
/-- a cell is written -/
theorem noLs_all {ds : List Dat} (h : ds.all noL = true) {i : Nat} {d : Dat} (e : ds[i]? = some d) : noL d = true := List.all_eq_true.mp h d (List.mem_of_getElem? e)
theorem DVs.back (h : DVs K o H vs ds) (n : ds.all noL = true) (o' : Os) : DVs K o' H vs ds := ⟨h.1, fun i v d a b => (h.2 i v d a b).back (noLs_all n b) o'⟩
theorem dk_set {i : Nat} {ys : List V} {bs : List Dat} (h : DK K o k H) (hi : o[i]? = some a) (hy : DVs K o H ys bs) (nb : bs.all noL = true) : DK K o (k.set i bs) (upd H a (.lst ys)) ∧ Kp o H (upd H a (.lst ys)) := by
  have hm : a ∈ o := List.mem_of_getElem? hi
  have kp : Kp o H (upd H a (.lst ys)) := fun b u nb hb => by
    rw [upd_ne (fun z => nb (by rw [z]; exact hm))]
    exact hb
  refine ⟨⟨by rw [List.length_set]; exact h.len, h.nd, fun s hs => ?_, fun j b cs hj hc => ?_⟩, kp⟩
  · rcases List.mem_or_eq_of_mem_set hs with hs | rfl
    · exact h.nl s hs
    · exact nb
  by_cases e : i = j
  · subst e
    rw [hi] at hj
    cases hj
    have hl : i < k.length := by rw [← h.len]; exact (List.getElem?_eq_some_iff.mp hi).1
    rw [List.getElem?_set_self hl] at hc
    cases hc
    exact ⟨ys, upd_same, hy.kp kp h⟩
  · rw [List.getElem?_set_ne e] at hc
    obtain ⟨xs, hx, hd⟩ := h.at_ j b cs hj hc
    refine ⟨xs, ?_, hd.kp kp h⟩
    rw [upd_ne (fun z => ?_)]
    · exact hx
    · subst z
      have l1 := (List.getElem?_eq_some_iff.mp hi).1
      have l2 := (List.getElem?_eq_some_iff.mp hj).1
      exact e ((List.getElem?_inj l1 h.nd).mp (by rw [hi, hj]))
/-- a cell more -/
theorem dk_plus {p : Addr} (h : DK K o k H) (np : p ∉ o) (hp : H p = some (.lst xs)) (hd : DVs K o H xs as) (nb : as.all noL = true) : DK K (o ++ [p]) (k ++ [as]) H := by
  refine ⟨by rw [List.length_append, List.length_append, h.len]; rfl, ?_, fun s hs => ?_, fun i b bs hi hb => ?_⟩
  · exact List.nodup_append.mpr ⟨h.nd, by simp, fun x hx y hy z => np (by rw [List.mem_singleton] at hy; rw [← hy, ← z]; exact hx)⟩
  · rcases List.mem_append.mp hs with hs | hs
    · exact h.nl s hs
    · rw [List.mem_singleton] at hs
      rw [hs]
      exact nb
  · by_cases e : i < o.length
    · rw [List.getElem?_append_left e] at hi
      rw [List.getElem?_append_left (by rw [← h.len]; exact e)] at hb
      obtain ⟨ys, h1, h2⟩ := h.at_ i b bs hi hb
      exact ⟨ys, h1, h2.back (h.nl bs (List.mem_of_getElem? hb)) _⟩
    · rw [List.getElem?_append_right (by omega)] at hi
      rw [List.getElem?_append_right (by rw [← h.len]; omega), ← h.len] at hb
      cases hz : i - o.length with
      | zero =>
        rw [hz] at hi hb
        cases hi
        cases hb
        exact ⟨xs, hp, hd.back nb _⟩
      | succ q =>
        rw [hz] at hi
        simp at hi
/-- fewer cells -/
theorem dk_take {l : Os} (h : DK K (o ++ l) k H) : DK K o (k.take o.length) H := by
  refine ⟨?_, (List.nodup_append.mp h.nd).1, fun s hs => h.nl s (List.mem_of_mem_take hs), fun i b bs hi hb => ?_⟩
  · have := h.len
    rw [List.length_append] at this
    rw [List.length_take]
    omega
  · have hl := (List.getElem?_eq_some_iff.mp hi).1
    rw [List.getElem?_take] at hb
    rw [if_pos hl] at hb
    obtain ⟨ys, h1, h2⟩ := h.at_ i b bs (by rw [List.getElem?_append_left hl]; exact hi) hb
    exact ⟨ys, h1, h2.back (h.nl bs (List.mem_of_getElem? hb)) _⟩

/-- the names hold ds (none: not told) -/
def Sat (K : PySem.W.Frag) (o : Os) (st : L2.St) (H : Hp) (ds : List (Option Dat)) : Prop :=
  st.length = ds.length ∧ ∀ (i : Nat) (d : Dat), ds[i]? = some (some d) → ∃ v, st[i]? = some (some v) ∧ DT K o H v d
variable {st : L2.St} {es fs : List (Option Dat)}
theorem Sat.kp (h : Sat K o st H es) (e : Kp o H H') (h0 : DK K o k H) : Sat K o st H' es := ⟨h.1, fun i d hd => let ⟨v, a, b⟩ := h.2 i d hd; ⟨v, a, b.kp e h0⟩⟩
theorem Sat.set (h : Sat K o st H es) {i : Nat} (hv : DT K o H v d) : Sat K o (st.set i (some v)) H (es.set i (some d)) := by
  refine ⟨by rw [List.length_set, List.length_set]; exact h.1, fun j e he => ?_⟩
  by_cases hj : i = j
  · subst hj
    rw [List.getElem?_set] at he
    rw [if_pos rfl] at he
    by_cases hl : i < es.length
    · rw [if_pos hl] at he
      cases he
      refine ⟨v, ?_, hv⟩
      rw [List.getElem?_set_self (by rw [h.1]; exact hl)]
    · rw [if_neg hl] at he
      cases he
  · rw [List.getElem?_set_ne hj] at he
    obtain ⟨w, a, b⟩ := h.2 j e he
    exact ⟨w, by rw [List.getElem?_set_ne hj]; exact a, b⟩
/-- knowing less -/
theorem Sat.weak (h : Sat K o st H es) (hl : fs.length = es.length) (w : ∀ (i : Nat) (d : Dat), fs[i]? = some (some d) → es[i]? = some (some d)) : Sat K o st H fs :=
  ⟨h.1.trans hl.symm, fun i d hd => h.2 i d (w i d hd)⟩
/-- a slot without the cells from n on -/
@[reducible] def lowC (n : Nat) : Option Dat → Option Dat
  | some (.cel j) => if j < n then some (.cel j) else none
  | x => x
theorem Sat.low {l : Os} (h : Sat K (o ++ l) st H es) : Sat K o st H (es.map (lowC o.length)) := by
  refine ⟨by rw [List.length_map]; exact h.1, fun i d hd => ?_⟩
  rw [List.getElem?_map] at hd
  cases he : es[i]? with
  | none => rw [he] at hd; cases hd
  | some x =>
    rw [he] at hd
    have hd' : lowC o.length x = some d := by simpa using hd
    cases x with
    | none => cases hd'
    | some d0 =>
      obtain ⟨v, h1, h2⟩ := h.2 i d0 he
      cases h2 with
      | v h2 =>
        have e : lowC o.length (some d0) = some d0 := by cases h2 <;> rfl
        rw [e] at hd'
        cases hd'
        exact ⟨v, h1, .v (h2.less fun b hb => List.mem_append_left _ hb)⟩
      | cel h2 =>
        rename_i a j
        have hd2 : (if j < o.length then some (Dat.cel j) else none) = some d := hd'
        by_cases hj : j < o.length
        · rw [if_pos hj] at hd2
          cases hd2
          rw [List.getElem?_append_left hj] at h2
          exact ⟨_, h1, .cel h2⟩
        · rw [if_neg hj] at hd2
          cases hd2
theorem Sat.plus {p : Addr} (n : H p = none) (h : Sat K o st H es) : Sat K (o ++ [p]) st H es := ⟨h.1, fun i d hd => let ⟨v, a, b⟩ := h.2 i d hd; ⟨v, a, b.plus n⟩⟩

/-! ### judgements -/
def EvC (X : Cx) (o : Os) (e : Expr) (ds : List (Option Dat)) (k : Cs) (R : Dat → Cs → Prop) : Prop :=
  ∀ st H Q, Sat X.K o st H ds → DK X.K o k H → (∀ d k' v H', R d k' → Kp o H H' → DK X.K o k' H' → DT X.K o H' v d → Q v H') → WE X e st H Q
/-- a new list -/
def EvN (X : Cx) (o : Os) (e : Expr) (ds : List (Option Dat)) (k : Cs) (R : List Dat → Cs → Prop) : Prop :=
  ∀ st H Q, Sat X.K o st H ds → DK X.K o k H → (∀ as k' p xs H', R as k' → H p = none → Kp o H H' → DK X.K o k' H' → H' p = some (.lst xs) → DVs X.K o H' xs as → Q (.ref p) H') → WE X e st H Q
def EvT (X : Cx) (o : Os) (e : Expr) (ds : List (Option Dat)) (k : Cs) (R : Bool → Cs → Prop) : Prop :=
  ∀ st H Q, Sat X.K o st H ds → DK X.K o k H → (∀ b k' H', R b k' → Kp o H H' → DK X.K o k' H' → Q b H') → WT X e st H Q
def EvW (X : Cx) (o : Os) (e : Expr) (ds : List (Option Dat)) (k : Cs) (R : Bool → Cs → Prop) : Prop :=
  ∀ st H Q, Sat X.K o st H ds → DK X.K o k H → (∀ b k' H', R b k' → Kp o H H' → DK X.K o k' H' → Q b H') → WW X e st H Q
def EvA (X : Cx) (o : Os) (es : List Expr) (ds : List (Option Dat)) (k : Cs) (R : List Dat → Cs → Prop) : Prop :=
  ∀ st H Q, Sat X.K o st H ds → DK X.K o k H → (∀ as k' vs H', R as k' → Kp o H H' → DK X.K o k' H' → DTs X.K o H' vs as → Q vs H') → WA X es st H Q
def EvK (X : Cx) (o : Os) (es : List Keyword) (ds : List (Option Dat)) (k : Cs) (R : List Dat → Cs → Prop) : Prop :=
  ∀ st H Q, Sat X.K o st H ds → DK X.K o k H → (∀ as k' vs H', R as k' → Kp o H H' → DK X.K o k' H' → DTs X.K o H' vs as → Q vs H') → WK X es st H Q
/-- one outcome alone -/
def Ev (X : Cx) (o : Os) (e : Expr) (ds : List (Option Dat)) (k : Cs) (d : Dat) (k' : Cs) : Prop := ∀ R : Dat → Cs → Prop, R d k' → EvC X o e ds k R
def Et (X : Cx) (o : Os) (e : Expr) (ds : List (Option Dat)) (k : Cs) (b : Bool) (k' : Cs) : Prop := ∀ R : Bool → Cs → Prop, R b k' → EvT X o e ds k R
end Wz

set_option Elab.async false
set_option linter.all false
set_option maxRecDepth 100000
set_option maxHeartbeats 4000000
namespace Wz
open PySem PySem.Spec PyProof.Rows L2 Evl
@[reducible] def onI (x : Dat) (C : Int → Prop) : Prop := match x with | .int i => C i | _ => False
@[reducible] def onB (x : Dat) (C : Bool → Prop) : Prop := match x with | .bl i => C i | _ => False
@[reducible] def onT (x : Dat) (C : List Dat → Prop) : Prop := match x with | .tup i => C i | _ => False
@[reducible] def bc (b : Bool) (p q : Prop) : Prop := match b with | true => p | false => q
/-- what a list holds, a cell too -/
@[reducible] def onL (k : Cs) (x : Dat) (C : List Dat → Prop) : Prop := match x with
  | .lst as => C as
  | .cel i => match k[i]? with | some as => C as | none => False
  | _ => False
section
variable {X : Cx} {o : Os} {ds : List (Option Dat)} {k k1 k2 k3 k0 : Cs} {e a b c e1 e2 e3 : Expr} {es : List Expr} {d d1 d2 d3 : Dat} {as : List Dat} {pos p p2 p3 : Pos} {R : Dat → Cs → Prop} {RT : Bool → Cs → Prop} {x : Str}
theorem onI_ex {d : Dat} {C : Int → Prop} (h : onI d C) : ∃ i, d = .int i ∧ C i := by
  cases d <;> first | exact ⟨_, rfl, h⟩ | exact h.elim
theorem onB_ex {d : Dat} {C : Bool → Prop} (h : onB d C) : ∃ i, d = .bl i ∧ C i := by
  cases d <;> first | exact ⟨_, rfl, h⟩ | exact h.elim
theorem onT_ex {d : Dat} {C : List Dat → Prop} (h : onT d C) : ∃ i, d = .tup i ∧ C i := by
  cases d <;> first | exact ⟨_, rfl, h⟩ | exact h.elim
theorem onII_ex {d e : Dat} {C : Int → Int → Prop} (h : onI d fun i => onI e (C i)) : ∃ i j, d = .int i ∧ e = .int j ∧ C i j := by
  cases d with
  | int i =>
    cases e with
    | int j => exact ⟨i, j, rfl, rfl, h⟩
    | _ => exact h.elim
  | _ => exact h.elim
/-- a list that is read: its place, its items -/
theorem onL_ex {K : PySem.W.Frag} {H : Hp} {v : V} {C : List Dat → Prop} (hk : DK K o k H) (h : onL k d C) (hd : DT K o H v d) : ∃ p xs as, v = .ref p ∧ SqL K H p xs ∧ DVs K o H xs as ∧ C as := by
  cases d with
  | lst as =>
    obtain ⟨p, xs, rfl, h1, h2⟩ := hd.unlst
    exact ⟨p, xs, as, rfl, h1.sq, h2, h⟩
  | cel i =>
    obtain ⟨p, rfl, hp⟩ := hd.uncel
    cases hi : k[i]? with
    | none => simp only [onL, hi] at h
    | some as =>
      simp only [onL, hi] at h
      obtain ⟨xs, h1, h2⟩ := hk.at_ i p as hp hi
      exact ⟨p, xs, as, rfl, .inl (.inl h1), h2, h⟩
  | _ => exact h.elim

theorem c_name {i : Nat} (h : ds[i]? = some (some d)) (hR : R d k) (hN : X.N[i]? = some x := by rfl) (hv : Vis X.env.scope x := by first | exact Or.inl rfl | exact Or.inr (Or.inl rfl) | exact Or.inr (Or.inr rfl)) (hd : (x == ("__debug__" : Str)) = false := by decide) (hcd : (x == ("__classdict__" : Str)) = false := by decide) : EvC X o (.Name x pos) ds k R := by
  intro st H Q S hk q
  obtain ⟨v, h1, h2⟩ := S.2 i d h
  exact we (pe_var hN hv hd hcd) ⟨v, h1, q d k v H hR (Kp.refl _ _) hk h2⟩
/-- a name by its slot -/
theorem nm (i : Nat) (h : ds[i]? = some (some d)) (hR : R d k) (hN : X.N[i]? = some x := by rfl) (hv : Vis X.env.scope x := by first | exact Or.inl rfl | exact Or.inr (Or.inl rfl) | exact Or.inr (Or.inr rfl)) (hd : (x == ("__debug__" : Str)) = false := by decide) (hcd : (x == ("__classdict__" : Str)) = false := by decide) : EvC X o (.Name x pos) ds k R := c_name h hR hN hv hd hcd
theorem c_int {i : Int} {j} (hR : R (.int i) k) : EvC X o (.Constant (.int i) j pos) ds k R := fun _ H _ _ hk q => we pe_int (q _ _ _ H hR (Kp.refl _ _) hk (.v (.int _)))
theorem c_bl {i : Bool} {j} (hR : R (.bl i) k) : EvC X o (.Constant (.bool i) j pos) ds k R := fun _ H _ _ hk q => we pe_bl (q _ _ _ H hR (Kp.refl _ _) hk (.v (.bl _)))
theorem c_non {j} (hR : R .non k) : EvC X o (.Constant .none j pos) ds k R := fun _ H _ _ hk q => we pe_non (q _ _ _ H hR (Kp.refl _ _) hk (.v .non))
theorem c_str {z : Str} {j} (hR : R (.str z) k) : EvC X o (.Constant (.str z) j pos) ds k R := fun _ H _ _ hk q => we pe_str (q _ _ _ H hR (Kp.refl _ _) hk (.v (.str _)))
theorem c_raw {v : V} (h : PE X e (fun _ H Q => Q v H)) (hR : R (.raw v) k) : EvC X o e ds k R := fun _ H _ _ hk q => we h (q _ _ _ H hR (Kp.refl _ _) hk (.v (.raw _)))
theorem EvC.mono {R' : Dat → Cs → Prop} (h : EvC X o e ds k R) (w : ∀ d k, R d k → R' d k) : EvC X o e ds k R' := fun st H Q S hk q => h st H Q S hk fun d k' v H' r => q d k' v H' (w d k' r)
/-- a new list as a value -/
theorem c_ofN (h : EvN X o e ds k fun as k1 => R (.lst as) k1) : EvC X o e ds k R := fun st H Q S hk q => h st H Q S hk fun as k' p xs H' r np kp hk' hp hd => q _ k' _ H' r kp hk' (.v (.lst' (.inl hp) (hk.ne np) hd))
theorem c_det (h : Ev X o e ds k d k1) (r : R d k1) : EvC X o e ds k R := h R r
theorem det (h : ∀ R : Dat → Cs → Prop, R d k1 → EvC X o e ds k R) : Ev X o e ds k d k1 := h

/-! operators of ints -/
theorem c_opI {op : Operator} {C : Int → Int → Prop} {g : Int → Int → V} {z : Int → Int → Dat} (ho : OpR X (binaryOp op) (rI C g)) (hz : ∀ H i j, DT X.K o H (g i j) (z i j))
    (ha : EvC X o a ds k fun x k1 => EvC X o b ds k1 fun y k2 => onI x fun i => onI y fun j => C i j ∧ R (z i j) k2) : EvC X o (.BinOp a op b pos) ds k R := fun st H Q S hk q =>
  we (pe_op ho pe_w pe_w) (ha st H _ S hk fun x k1 v H1 hx e1 hk1 h1 => hx st H1 _ (S.kp e1 hk) hk1 fun y k2 w H2 hy e2 hk2 h2 => by
    obtain ⟨i, j, rfl, rfl, hc, hr⟩ := onII_ex hy
    exact ⟨i, j, h1.unint, h2.unint, hc, q _ k2 _ H2 hr (e1.trans e2) hk2 (hz _ _ _)⟩)
theorem c_opI0 {op : Operator} {g : Int → Int → V} {z : Int → Int → Dat} (ho : OpR X (binaryOp op) (rI0 g)) (hz : ∀ H i j, DT X.K o H (g i j) (z i j))
    (ha : EvC X o a ds k fun x k1 => EvC X o b ds k1 fun y k2 => onI x fun i => onI y fun j => R (z i j) k2) : EvC X o (.BinOp a op b pos) ds k R := fun st H Q S hk q =>
  we (pe_op ho pe_w pe_w) (ha st H _ S hk fun x k1 v H1 hx e1 hk1 h1 => hx st H1 _ (S.kp e1 hk) hk1 fun y k2 w H2 hy e2 hk2 h2 => by
    obtain ⟨i, j, rfl, rfl, hr⟩ := onII_ex hy
    exact ⟨i, j, h1.unint, h2.unint, q _ k2 _ H2 hr (e1.trans e2) hk2 (hz _ _ _)⟩)
theorem c_add (h : EvC X o a ds k fun x k1 => EvC X o b ds k1 fun y k2 => onI x fun i => onI y fun j => R (.int (i + j)) k2) : EvC X o (.BinOp a .Add b pos) ds k R := c_opI0 op_add (fun _ _ _ => .v (.int _)) h
theorem c_sub (h : EvC X o a ds k fun x k1 => EvC X o b ds k1 fun y k2 => onI x fun i => onI y fun j => R (.int (i - j)) k2) : EvC X o (.BinOp a .Sub b pos) ds k R := c_opI0 op_sub (fun _ _ _ => .v (.int _)) h
theorem c_mul (h : EvC X o a ds k fun x k1 => EvC X o b ds k1 fun y k2 => onI x fun i => onI y fun j => CMulW i j ∧ R (.int (i * j)) k2) : EvC X o (.BinOp a .Mult b pos) ds k R := c_opI op_mulW (fun _ _ _ => .v (.int _)) h
theorem c_mod (h : EvC X o a ds k fun x k1 => EvC X o b ds k1 fun y k2 => onI x fun i => onI y fun j => 0 < j ∧ R (.int (i % j)) k2) : EvC X o (.BinOp a .Mod b pos) ds k R := c_opI op_mod (fun _ _ _ => .v (.int _)) h
theorem c_fdiv (h : EvC X o a ds k fun x k1 => EvC X o b ds k1 fun y k2 => onI x fun i => onI y fun j => CDivW i j ∧ R (.int (i / j)) k2) : EvC X o (.BinOp a .FloorDiv b pos) ds k R := c_opI op_fdivW (fun _ _ _ => .v (.int _)) h
/-- // by any divisor but 0 below 2 ^ 9000 -/
def CDivX (_ j : Int) : Prop := j ≠ 0 ∧ j.natAbs.log2 < 9000
theorem op_fdivX : OpR X (binaryOp .FloorDiv) (rI CDivX fun i j => .int (i.fdiv j)) := opI fun i j _ _ _ _ _ hc q => floordiv_int hc.1 q (.inl (PyProof.noPylong_of_log2 hc.2))
theorem c_fdivX (h : EvC X o a ds k fun x k1 => EvC X o b ds k1 fun y k2 => onI x fun i => onI y fun j => CDivX i j ∧ R (.int (i.fdiv j)) k2) : EvC X o (.BinOp a .FloorDiv b pos) ds k R := c_opI op_fdivX (fun _ _ _ => .v (.int _)) h
theorem c_pow (h : EvC X o a ds k fun x k1 => EvC X o b ds k1 fun y k2 => onI x fun i => onI y fun j => CPow i j ∧ R (.int (i ^ j.toNat)) k2) : EvC X o (.BinOp a .Pow b pos) ds k R := c_opI op_pow (fun _ _ _ => .v (.int _)) h
theorem c_neg (h : EvC X o a ds k fun x k1 => onI x fun i => R (.int (-i)) k1) : EvC X o (.UnaryOp .USub a pos) ds k R := fun st H Q S hk q =>
  we (pe_un un_neg pe_w) (h st H _ S hk fun x k1 v H1 hx e1 hk1 h1 => by
    obtain ⟨i, rfl, hr⟩ := onI_ex hx
    exact ⟨i, h1.unint, q _ k1 _ H1 hr e1 hk1 (.v (.int _))⟩)
/-! comparisons -/
theorem c_cmp {op : CmpOp} {r : R2} (ho : OpR X (compareOp op) r) (hm : behindInMarks op b = false) {C : Dat → Dat → Cs → Bool → Prop} (hc : ∀ x y k2 v w H Q, (∃ z, C x y k2 z) → DK X.K o k2 H → DT X.K o H v x → DT X.K o H w y → (∀ z, C x y k2 z → Q (V.bl z) H) → r v w H Q)
    (h : EvC X o a ds k fun x k1 => EvC X o b ds k1 fun y k2 => (∃ z, C x y k2 z) ∧ ∀ z, C x y k2 z → R (.bl z) k2) : EvC X o (.Compare a [op] [b] pos) ds k R := fun st H Q S hk q =>
  we (pe_cmpR ho pe_w pe_w hm) (h st H _ S hk fun x k1 v H1 hx e1 hk1 h1 => hx st H1 _ (S.kp e1 hk) hk1 fun y k2 w H2 hy e2 hk2 h2 =>
    hc x y k2 v w H2 _ hy.1 hk2 (h1.kp e2 hk1) h2 fun z hz => q _ k2 _ H2 (hy.2 z hz) (e1.trans e2) hk2 (.v (.bl _)))
theorem tc_cmp {op : CmpOp} {r : R2} (ho : OpR X (compareOp op) r) (hm : behindInMarks op b = false) {C : Dat → Dat → Cs → Bool → Prop} (hc : ∀ x y k2 v w H Q, (∃ z, C x y k2 z) → DK X.K o k2 H → DT X.K o H v x → DT X.K o H w y → (∀ z, C x y k2 z → Q (V.bl z) H) → r v w H Q)
    (h : EvC X o a ds k fun x k1 => EvC X o b ds k1 fun y k2 => (∃ z, C x y k2 z) ∧ ∀ z, C x y k2 z → RT z k2) : EvT X o (.Compare a [op] [b] pos) ds k RT := fun st H Q S hk q =>
  wt (pt_cmpR ho pe_w pe_w hm) (h st H _ S hk fun x k1 v H1 hx e1 hk1 h1 => hx st H1 _ (S.kp e1 hk) hk1 fun y k2 w H2 hy e2 hk2 h2 =>
    hc x y k2 v w H2 _ hy.1 hk2 (h1.kp e2 hk1) h2 fun z hz => ⟨z, rfl, q _ k2 H2 (hy.2 z hz) (e1.trans e2) hk2⟩)
/-- two ints compared -/
def CI (g : Int → Int → Bool) (x y : Dat) (_ : Cs) (z : Bool) : Prop := onI x fun i => onI y fun j => z = g i j
theorem ci_r {g : Int → Int → Bool} (x y : Dat) (k2 : Cs) (v w : V) (H : Hp) (Q : VK) (h : ∃ z, CI g x y k2 z) (_ : DK X.K o k2 H) (h1 : DT X.K o H v x) (h2 : DT X.K o H w y) (q : ∀ z, CI g x y k2 z → Q (V.bl z) H) : rI0 (fun i j => .bl (g i j)) v w H Q := by
  obtain ⟨z, hz⟩ := h
  obtain ⟨i, j, rfl, rfl, hz⟩ := onII_ex hz
  exact ⟨i, j, h1.unint, h2.unint, q _ rfl⟩
theorem c_cmpI {op : CmpOp} {g : Int → Int → Bool} (ho : OpR X (compareOp op) (rI0 fun i j => .bl (g i j))) (hm : behindInMarks op b = false)
    (h : EvC X o a ds k fun x k1 => EvC X o b ds k1 fun y k2 => onI x fun i => onI y fun j => R (.bl (g i j)) k2) : EvC X o (.Compare a [op] [b] pos) ds k R :=
  c_cmp ho hm (C := CI g) ci_r (h.mono fun x k1 hx => hx.mono fun y k2 hy => by
    obtain ⟨i, j, rfl, rfl, hy⟩ := onII_ex hy
    exact ⟨⟨_, rfl⟩, fun z hz => by rw [show z = g i j from hz]; exact hy⟩)
theorem tc_cmpI {op : CmpOp} {P : Int → Int → Prop} [∀ i j, Decidable (P i j)] (ho : OpR X (compareOp op) (rI0 fun i j => .bl (decide (P i j)))) (hm : behindInMarks op b = false)
    (h : EvC X o a ds k fun x k1 => EvC X o b ds k1 fun y k2 => onI x fun i => onI y fun j => (P i j → RT true k2) ∧ (¬ P i j → RT false k2)) : EvT X o (.Compare a [op] [b] pos) ds k RT :=
  tc_cmp ho hm (C := CI fun i j => decide (P i j)) ci_r (h.mono fun x k1 hx => hx.mono fun y k2 hy => by
    obtain ⟨i, j, rfl, rfl, hy⟩ := onII_ex hy
    refine ⟨⟨_, rfl⟩, fun z hz => ?_⟩
    rw [show z = decide (P i j) from hz]
    by_cases hp : P i j
    · rw [decide_eq_true hp]; exact hy.1 hp
    · rw [decide_eq_false hp]; exact hy.2 hp)
theorem c_lt (h : EvC X o a ds k fun x k1 => EvC X o b ds k1 fun y k2 => onI x fun i => onI y fun j => R (.bl (decide (i < j))) k2) : EvC X o (.Compare a [.Lt] [b] pos) ds k R := c_cmpI op_lt (nobehind _ (by decide) (by decide)) h
theorem c_le (h : EvC X o a ds k fun x k1 => EvC X o b ds k1 fun y k2 => onI x fun i => onI y fun j => R (.bl (decide (i ≤ j))) k2) : EvC X o (.Compare a [.LtE] [b] pos) ds k R := c_cmpI op_le (nobehind _ (by decide) (by decide)) h
theorem c_gt (h : EvC X o a ds k fun x k1 => EvC X o b ds k1 fun y k2 => onI x fun i => onI y fun j => R (.bl (decide (j < i))) k2) : EvC X o (.Compare a [.Gt] [b] pos) ds k R := c_cmpI op_gt (nobehind _ (by decide) (by decide)) h
theorem c_ge (h : EvC X o a ds k fun x k1 => EvC X o b ds k1 fun y k2 => onI x fun i => onI y fun j => R (.bl (decide (j ≤ i))) k2) : EvC X o (.Compare a [.GtE] [b] pos) ds k R := c_cmpI op_ge (nobehind _ (by decide) (by decide)) h
theorem t_lt (h : EvC X o a ds k fun x k1 => EvC X o b ds k1 fun y k2 => onI x fun i => onI y fun j => (i < j → RT true k2) ∧ (¬ i < j → RT false k2)) : EvT X o (.Compare a [.Lt] [b] pos) ds k RT := tc_cmpI op_lt (nobehind _ (by decide) (by decide)) h
theorem t_le (h : EvC X o a ds k fun x k1 => EvC X o b ds k1 fun y k2 => onI x fun i => onI y fun j => (i ≤ j → RT true k2) ∧ (¬ i ≤ j → RT false k2)) : EvT X o (.Compare a [.LtE] [b] pos) ds k RT := tc_cmpI op_le (nobehind _ (by decide) (by decide)) h
theorem t_gt (h : EvC X o a ds k fun x k1 => EvC X o b ds k1 fun y k2 => onI x fun i => onI y fun j => (j < i → RT true k2) ∧ (¬ j < i → RT false k2)) : EvT X o (.Compare a [.Gt] [b] pos) ds k RT := tc_cmpI (P := fun i j => j < i) op_gt (nobehind _ (by decide) (by decide)) h
theorem t_ge (h : EvC X o a ds k fun x k1 => EvC X o b ds k1 fun y k2 => onI x fun i => onI y fun j => (j ≤ i → RT true k2) ∧ (¬ j ≤ i → RT false k2)) : EvT X o (.Compare a [.GtE] [b] pos) ds k RT := tc_cmpI (P := fun i j => j ≤ i) op_ge (nobehind _ (by decide) (by decide)) h
/-! == and != of plain things: what they are is told by scal -/
@[reducible] def fl : Dat → Option V
  | .non => some .non
  | .bl b => some (.bl b)
  | .int i => some (.int i)
  | .str x => some (.str x)
  | _ => none
theorem fl_is {K : PySem.W.Frag} {H : Hp} {v w : V} (f : fl d = some v) (h : DT K o H w d) : w = v := by
  cases h with
  | cel h => cases f
  | v h => cases h <;> first | (cases f; rfl) | cases f
/-- flat things compared -/
def CF (n : Bool) (x y : Dat) (_ : Cs) (z : Bool) : Prop := ∃ u w, fl x = some u ∧ fl y = some w ∧ scal u w = true ∧ z = (if n = true then !decide (u = w) else decide (u = w))
theorem bl_int (i j : Int) : decide (V.int i = V.int j) = decide (i = j) := by
  by_cases h : i = j
  · subst h
    simp
  · rw [decide_eq_false h, decide_eq_false (fun z => h (V.int.inj z))]
theorem c_eqF {u w : V} (h : EvC X o a ds k fun x k1 => EvC X o b ds k1 fun y k2 => fl x = some u ∧ fl y = some w ∧ scal u w = true ∧ R (.bl (decide (u = w))) k2) : EvC X o (.Compare a [.Eq] [b] pos) ds k R :=
  c_cmp op_eq (nobehind _ (by decide) (by decide)) (C := CF false) (fun x y k2 v w' H Q hz _ h1 h2 q => by
    obtain ⟨z, u, w, f1, f2, hs, rfl⟩ := hz
    have q1 := fl_is f1 h1
    have q2 := fl_is f2 h2
    subst q1 q2
    exact ⟨hs, q _ ⟨_, _, f1, f2, hs, rfl⟩⟩) (h.mono fun x k1 hx => hx.mono fun y k2 ⟨f1, f2, hs, hy⟩ => ⟨⟨_, _, _, f1, f2, hs, rfl⟩, fun z ⟨u', w', g1, g2, hs', e⟩ => by
      rw [f1] at g1; rw [f2] at g2
      cases g1; cases g2
      rw [e]
      exact hy⟩)
theorem t_eqF {u w : V} (h : EvC X o a ds k fun x k1 => EvC X o b ds k1 fun y k2 => fl x = some u ∧ fl y = some w ∧ scal u w = true ∧ RT (decide (u = w)) k2) : EvT X o (.Compare a [.Eq] [b] pos) ds k RT :=
  tc_cmp op_eq (nobehind _ (by decide) (by decide)) (C := CF false) (fun x y k2 v w' H Q hz _ h1 h2 q => by
    obtain ⟨z, u, w, f1, f2, hs, rfl⟩ := hz
    have q1 := fl_is f1 h1
    have q2 := fl_is f2 h2
    subst q1 q2
    exact ⟨hs, q _ ⟨_, _, f1, f2, hs, rfl⟩⟩) (h.mono fun x k1 hx => hx.mono fun y k2 ⟨f1, f2, hs, hy⟩ => ⟨⟨_, _, _, f1, f2, hs, rfl⟩, fun z ⟨u', w', g1, g2, hs', e⟩ => by
      rw [f1] at g1; rw [f2] at g2
      cases g1; cases g2
      rw [e]
      exact hy⟩)
theorem ci_eq (x y : Dat) (k2 : Cs) (v w : V) (H : Hp) (Q : VK) (h : ∃ z, CI (fun i j => decide (i = j)) x y k2 z) (_ : DK X.K o k2 H) (h1 : DT X.K o H v x) (h2 : DT X.K o H w y) (q : ∀ z, CI (fun i j => decide (i = j)) x y k2 z → Q (V.bl z) H) : scal v w = true ∧ Q (.bl (decide (v = w))) H := by
  obtain ⟨z, hz⟩ := h
  obtain ⟨i, j, rfl, rfl, hz⟩ := onII_ex hz
  have q1 := h1.unint
  have q2 := h2.unint
  subst q1 q2
  exact ⟨rfl, by rw [bl_int]; exact q _ rfl⟩
theorem ci_ne (x y : Dat) (k2 : Cs) (v w : V) (H : Hp) (Q : VK) (h : ∃ z, CI (fun i j => !decide (i = j)) x y k2 z) (_ : DK X.K o k2 H) (h1 : DT X.K o H v x) (h2 : DT X.K o H w y) (q : ∀ z, CI (fun i j => !decide (i = j)) x y k2 z → Q (V.bl z) H) : scal v w = true ∧ Q (.bl (!decide (v = w))) H := by
  obtain ⟨z, hz⟩ := h
  obtain ⟨i, j, rfl, rfl, hz⟩ := onII_ex hz
  have q1 := h1.unint
  have q2 := h2.unint
  subst q1 q2
  exact ⟨rfl, by rw [bl_int]; exact q _ rfl⟩
theorem c_eqI (h : EvC X o a ds k fun x k1 => EvC X o b ds k1 fun y k2 => onI x fun i => onI y fun j => R (.bl (decide (i = j))) k2) : EvC X o (.Compare a [.Eq] [b] pos) ds k R :=
  c_cmp op_eq (nobehind _ (by decide) (by decide)) (C := CI fun i j => decide (i = j)) ci_eq (h.mono fun x k1 hx => hx.mono fun y k2 hy => by
    obtain ⟨i, j, rfl, rfl, hy⟩ := onII_ex hy
    exact ⟨⟨_, rfl⟩, fun z hz => by rw [show z = decide (i = j) from hz]; exact hy⟩)
theorem t_eqI (h : EvC X o a ds k fun x k1 => EvC X o b ds k1 fun y k2 => onI x fun i => onI y fun j => (i = j → RT true k2) ∧ (¬ i = j → RT false k2)) : EvT X o (.Compare a [.Eq] [b] pos) ds k RT :=
  tc_cmp op_eq (nobehind _ (by decide) (by decide)) (C := CI fun i j => decide (i = j)) ci_eq (h.mono fun x k1 hx => hx.mono fun y k2 hy => by
    obtain ⟨i, j, rfl, rfl, hy⟩ := onII_ex hy
    refine ⟨⟨_, rfl⟩, fun z hz => ?_⟩
    rw [show z = decide (i = j) from hz]
    by_cases hp : i = j
    · rw [decide_eq_true hp]; exact hy.1 hp
    · rw [decide_eq_false hp]; exact hy.2 hp)
theorem c_neI (h : EvC X o a ds k fun x k1 => EvC X o b ds k1 fun y k2 => onI x fun i => onI y fun j => R (.bl (!decide (i = j))) k2) : EvC X o (.Compare a [.NotEq] [b] pos) ds k R :=
  c_cmp op_ne (nobehind _ (by decide) (by decide)) (C := CI fun i j => !decide (i = j)) ci_ne (h.mono fun x k1 hx => hx.mono fun y k2 hy => by
    obtain ⟨i, j, rfl, rfl, hy⟩ := onII_ex hy
    exact ⟨⟨_, rfl⟩, fun z hz => by rw [show z = !decide (i = j) from hz]; exact hy⟩)
theorem t_neI (h : EvC X o a ds k fun x k1 => EvC X o b ds k1 fun y k2 => onI x fun i => onI y fun j => (¬ i = j → RT true k2) ∧ (i = j → RT false k2)) : EvT X o (.Compare a [.NotEq] [b] pos) ds k RT :=
  tc_cmp op_ne (nobehind _ (by decide) (by decide)) (C := CI fun i j => !decide (i = j)) ci_ne (h.mono fun x k1 hx => hx.mono fun y k2 hy => by
    obtain ⟨i, j, rfl, rfl, hy⟩ := onII_ex hy
    refine ⟨⟨_, rfl⟩, fun z hz => ?_⟩
    rw [show z = !decide (i = j) from hz]
    by_cases hp : i = j
    · rw [decide_eq_true hp]; exact hy.2 hp
    · rw [decide_eq_false hp]; exact hy.1 hp)
/-! is None -/
@[reducible] def isN : Dat → Option Bool
  | .non => some true
  | .raw _ => none
  | _ => some false
theorem isN_is {K : PySem.W.Frag} {H : Hp} {v : V} {b : Bool} (f : isN d = some b) (h : DT K o H v d) : decide (v = .non) = b := by
  cases h with
  | cel h => cases f; exact decide_eq_false (fun z => by cases z)
  | v h => cases h <;> first | (cases f; rfl) | (cases f; exact decide_eq_false (fun z => by cases z)) | cases f
theorem t_isN {j pos'} (h : EvC X o a ds k fun x k1 => match isN x with | some b => RT b k1 | none => False) : EvT X o (.Compare a [.Is] [.Constant .none j pos'] pos) ds k RT := fun st H Q S hk q =>
  wt (pt_cmp (pc_isN pe_w)) (h st H _ S hk fun x k1 v H1 hx e1 hk1 h1 => by
    cases hb : isN x with
    | none => simp only [hb] at hx
    | some b =>
      simp only [hb] at hx
      exact ⟨_, rfl, by rw [isN_is hb h1]; exact q _ k1 H1 hx e1 hk1⟩)
theorem c_isN {j pos'} (h : EvC X o a ds k fun x k1 => match isN x with | some b => R (.bl b) k1 | none => False) : EvC X o (.Compare a [.Is] [.Constant .none j pos'] pos) ds k R := fun st H Q S hk q =>
  we (pe_cmp (pc_isN pe_w)) (h st H _ S hk fun x k1 v H1 hx e1 hk1 h1 => by
    cases hb : isN x with
    | none => simp only [hb] at hx
    | some b =>
      simp only [hb] at hx
      rw [isN_is hb h1]
      exact q _ k1 _ H1 hx e1 hk1 (.v (.bl _)))
/-! and, or, not of bools, as values -/
theorem c_one {op : BoolOp} (h : EvC X o a ds k R) : EvC X o (.BoolOp op [a] pos) ds k R := fun st H Q S hk q => we (pe_one pe_w) (h st H Q S hk q)
theorem c_and {rest : List Expr} (h : EvC X o a ds k fun x k1 => onB x fun z => bc z (EvC X o (.BoolOp .And (b :: rest) pos) ds k1 R) (R (.bl false) k1)) : EvC X o (.BoolOp .And (a :: b :: rest) pos) ds k R := fun st H Q S hk q =>
  we (pe_and pe_w pe_w) (h st H _ S hk fun x k1 v H1 hx e1 hk1 h1 => by
    obtain ⟨z, rfl, hx⟩ := onB_ex hx
    refine ⟨z, h1.unbl, ?_⟩
    cases z with
    | true => exact hx st H1 Q (S.kp e1 hk) hk1 fun y k2 w H2 hy e2 hk2 h2 => q y k2 w H2 hy (e1.trans e2) hk2 h2
    | false => exact q _ k1 _ H1 hx e1 hk1 (.v (.bl _)))
theorem c_or {rest : List Expr} (h : EvC X o a ds k fun x k1 => onB x fun z => bc z (R (.bl true) k1) (EvC X o (.BoolOp .Or (b :: rest) pos) ds k1 R)) : EvC X o (.BoolOp .Or (a :: b :: rest) pos) ds k R := fun st H Q S hk q =>
  we (pe_or pe_w pe_w) (h st H _ S hk fun x k1 v H1 hx e1 hk1 h1 => by
    obtain ⟨z, rfl, hx⟩ := onB_ex hx
    refine ⟨z, h1.unbl, ?_⟩
    cases z with
    | false => exact hx st H1 Q (S.kp e1 hk) hk1 fun y k2 w H2 hy e2 hk2 h2 => q y k2 w H2 hy (e1.trans e2) hk2 h2
    | true => exact q _ k1 _ H1 hx e1 hk1 (.v (.bl _)))
theorem c_not (h : EvC X o a ds k fun x k1 => onB x fun z => R (.bl (!z)) k1) : EvC X o (.UnaryOp .Not a pos) ds k R := fun st H Q S hk q =>
  we (pe_not pe_w) (h st H _ S hk fun x k1 v H1 hx e1 hk1 h1 => by
    obtain ⟨z, rfl, hx⟩ := onB_ex hx
    exact ⟨z, h1.unbl, q _ k1 _ H1 hx e1 hk1 (.v (.bl _))⟩)
/-! tests -/
theorem t_val (h : EvC X o e ds k fun x k1 => onB x fun z => RT z k1) (he : ∀ whole, isTrue e X.env whole = (do let v ← whole; standAt e.pos; holding [v] (truthy v)) := by intro _; rfl) : EvT X o e ds k RT := fun st H Q S hk q =>
  wt (pt_val pe_w he) (h st H _ S hk fun x k1 v H1 hx e1 hk1 h1 => by
    obtain ⟨z, rfl, hx⟩ := onB_ex hx
    exact ⟨z, h1.unbl, q _ k1 H1 hx e1 hk1⟩)
/-- the truth of an int -/
theorem t_tru (h : EvC X o e ds k fun x k1 => onI x fun i => (i ≠ 0 → RT true k1) ∧ (i = 0 → RT false k1)) (he : ∀ whole, isTrue e X.env whole = (do let v ← whole; standAt e.pos; holding [v] (truthy v)) := by intro _; rfl) : EvT X o e ds k RT := fun st H Q S hk q =>
  wt (pt_truth pe_w he) (h st H _ S hk fun x k1 v H1 hx e1 hk1 h1 => by
    obtain ⟨i, rfl, hx⟩ := onI_ex hx
    have := h1.unint
    subst this
    by_cases z : i = 0
    · exact ⟨_, rfl, by rw [show (i != 0) = false by simp [z]]; exact q _ k1 H1 (hx.2 z) e1 hk1⟩
    · exact ⟨_, rfl, by rw [show (i != 0) = true by simp [z]]; exact q _ k1 H1 (hx.1 z) e1 hk1⟩)
theorem EvT.mono {RT' : Bool → Cs → Prop} (h : EvT X o e ds k RT) (w : ∀ d k, RT d k → RT' d k) : EvT X o e ds k RT' := fun st H Q S hk q => h st H Q S hk fun d k' H' r => q d k' H' (w d k' r)
theorem t_w (h : EvW X o e ds k RT) : EvT X o e ds k RT := fun st H Q S hk q => wt pw_w.pt (h st H Q S hk q)
theorem w_and1 (h : EvT X o a ds k RT) : EvW X o (.BoolOp .And [a] pos) ds k RT := fun st H Q S hk q => ww (pw_and1 pt_w) (h st H Q S hk q)
theorem w_or1 (h : EvT X o a ds k RT) : EvW X o (.BoolOp .Or [a] pos) ds k RT := fun st H Q S hk q => ww (pw_or1 pt_w) (h st H Q S hk q)
theorem w_and {rest : List Expr} (h : EvT X o a ds k fun x k1 => bc x (EvW X o (.BoolOp .And (b :: rest) pos) ds k1 RT) (RT false k1)) : EvW X o (.BoolOp .And (a :: b :: rest) pos) ds k RT := fun st H Q S hk q =>
  ww (pw_and pt_w pw_w) (h st H _ S hk fun x k1 H1 hx e1 hk1 => by
    cases x with
    | true => exact hx st H1 Q (S.kp e1 hk) hk1 fun y k2 H2 hy e2 hk2 => q y k2 H2 hy (e1.trans e2) hk2
    | false => exact q _ k1 H1 hx e1 hk1)
theorem w_or {rest : List Expr} (h : EvT X o a ds k fun x k1 => bc x (RT true k1) (EvW X o (.BoolOp .Or (b :: rest) pos) ds k1 RT)) : EvW X o (.BoolOp .Or (a :: b :: rest) pos) ds k RT := fun st H Q S hk q =>
  ww (pw_or pt_w pw_w) (h st H _ S hk fun x k1 H1 hx e1 hk1 => by
    cases x with
    | false => exact hx st H1 Q (S.kp e1 hk) hk1 fun y k2 H2 hy e2 hk2 => q y k2 H2 hy (e1.trans e2) hk2
    | true => exact q _ k1 H1 hx e1 hk1)
theorem t_not (h : EvT X o a ds k fun x k1 => RT (!x) k1) : EvT X o (.UnaryOp .Not a pos) ds k RT := fun st H Q S hk q => wt (pt_not pt_w) (h st H _ S hk fun x k1 H1 hx e1 hk1 => q _ k1 H1 hx e1 hk1)
theorem c_if (h : EvT X o c ds k fun x k1 => bc x (EvC X o a ds k1 R) (EvC X o b ds k1 R)) : EvC X o (.IfExp c a b pos) ds k R := fun st H Q S hk q =>
  we (pe_ifExp pt_w pe_w pe_w) (h st H _ S hk fun x k1 H1 hx e1 hk1 => by
    cases x with
    | true => exact hx st H1 Q (S.kp e1 hk) hk1 fun y k2 v H2 hy e2 hk2 h2 => q y k2 v H2 hy (e1.trans e2) hk2 h2
    | false => exact hx st H1 Q (S.kp e1 hk) hk1 fun y k2 v H2 hy e2 hk2 h2 => q y k2 v H2 hy (e1.trans e2) hk2 h2)
/-- both ways joined -/
theorem c_ifJ {J : Dat → Cs → Prop} (h : EvT X o c ds k fun x k1 => bc x (EvC X o a ds k1 J) (EvC X o b ds k1 J)) (hJ : ∀ d k', J d k' → R d k') : EvC X o (.IfExp c a b pos) ds k R := (c_if h).mono hJ
/-! arguments, displays -/
theorem ca_nil {RA : List Dat → Cs → Prop} (h : RA [] k) : EvA X o [] ds k RA := fun st H Q S hk q => wa pa_nil (q [] k [] H h (Kp.refl _ _) hk DTs.nil)
theorem ca_cons {RA : List Dat → Cs → Prop} (h : EvC X o e ds k fun x k1 => EvA X o es ds k1 fun xs k2 => RA (x :: xs) k2) (hs : starEach (e :: es) X.env = (false, eval e X.env) :: starEach es X.env := by rfl) : EvA X o (e :: es) ds k RA := fun st H Q S hk q =>
  wa (pa_cons pe_w pa_w hs) (h st H _ S hk fun x k1 v H1 hx e1 hk1 h1 => hx st H1 _ (S.kp e1 hk) hk1 fun xs k2 vs H2 hy e2 hk2 h2 => q _ k2 _ H2 hy (e1.trans e2) hk2 (DTs.cons (h1.kp e2 hk1) h2))
theorem EvA.mono {RA RA' : List Dat → Cs → Prop} (h : EvA X o es ds k RA) (w : ∀ d k, RA d k → RA' d k) : EvA X o es ds k RA' := fun st H Q S hk q => h st H Q S hk fun d k' v H' r => q d k' v H' (w d k' r)
theorem ck_nil {RA : List Dat → Cs → Prop} (h : RA [] k) : EvK X o [] ds k RA := fun st H Q S hk q => wk pk_nil (q [] k [] H h (Kp.refl _ _) hk DTs.nil)
theorem ck_cons {RA : List Dat → Cs → Prop} {nm : Option Str} {kpos : Pos} {ks : List Keyword} (h : EvC X o e ds k fun x k1 => EvK X o ks ds k1 fun xs k2 => RA (x :: xs) k2) : EvK X o (⟨nm, e, kpos⟩ :: ks) ds k RA := fun st H Q S hk q =>
  wk (pk_cons pe_w pk_w) (h st H _ S hk fun x k1 v H1 hx e1 hk1 h1 => hx st H1 _ (S.kp e1 hk) hk1 fun xs k2 vs H2 hy e2 hk2 h2 => q _ k2 _ H2 hy (e1.trans e2) hk2 (DTs.cons (h1.kp e2 hk1) h2))
theorem c_tup {cx : Nat} (h : EvA X o es ds k fun xs k1 => (xs.all noC = true ∧ xs.length ≤ 1000) ∧ R (.tup xs) k1) : EvC X o (.Tuple es cx pos) ds k R := fun st H Q S hk q =>
  we (pe_tup pa_w) (h st H _ S hk fun xs k1 vs H1 hx e1 hk1 h1 => ⟨by rw [h1.1]; exact Nat.le_trans hx.1.2 (by decide), fun p np => q _ k1 _ _ hx.2 (e1.trans (Kp.of_ex (Ex.new np))) (hk1.ex (Ex.new np)) (.v (.tup' (.inl (.inl upd_same)) ((h1.unc hx.1.1).kp (Kp.of_ex (Ex.new np)) hk1)))⟩)
theorem ex_back {H H' : Hp} {q : Addr} (e : Kp o H H') (hk : DK X.K o k H) (np : H' q = none) : H q = none ∨ q ∈ o := by
  by_cases m : q ∈ o
  · exact .inr m
  · refine .inl ?_
    cases h : H q with
    | none => rfl
    | some u =>
      have := e q u m h
      rw [np] at this
      cases this
theorem fresh_back {H H' : Hp} {q : Addr} (e : Kp o H H') (hk' : DK X.K o k H') (np : H' q = none) : H q = none := by
  cases h : H q with
  | none => rfl
  | some u =>
    have := e q u (hk'.ne np) h
    rw [np] at this
    cases this
theorem n_disp {RN : List Dat → Cs → Prop} (h : EvA X o es ds k fun xs k1 => (xs.all noC = true ∧ xs.length ≤ 1000) ∧ RN xs k1) : EvN X o (.List es pos) ds k RN := fun st H Q S hk q =>
  we (pe_lst pa_w) (h st H _ S hk fun xs k1 vs H1 hx e1 hk1 h1 => ⟨by rw [h1.1]; exact Nat.le_trans hx.1.2 (by decide), fun p np => q _ k1 p vs _ hx.2 (fresh_back e1 hk1 np) (e1.trans (Kp.of_ex (Ex.new np))) (hk1.ex (Ex.new np)) upd_same ((h1.unc hx.1.1).kp (Kp.of_ex (Ex.new np)) hk1)⟩)
theorem c_lst (h : EvA X o es ds k fun xs k1 => (xs.all noC = true ∧ xs.length ≤ 1000) ∧ R (.lst xs) k1) : EvC X o (.List es pos) ds k R := c_ofN (n_disp h)
/-! t[i], xs[i] -/
@[reducible] def onAt (as : List Dat) (i : Int) (C : Dat → Prop) : Prop := ∃ (j : Nat) (d : Dat), i = (j : Int) ∧ as[j]? = some d ∧ C d
theorem c_ixT (h : EvC X o a ds k fun x k1 => EvC X o b ds k1 fun y k2 => onT x fun as => onI y fun i => onAt as i fun d => R d k2) (hp : PlainIx b := by exact fun _ _ => rfl) : EvC X o (.Subscript a b pos) ds k R := fun st H Q S hk q =>
  we (pe_ix ix_tup pe_w pe_w hp) (h st H _ S hk fun x k1 v H1 hx e1 hk1 h1 => hx st H1 _ (S.kp e1 hk) hk1 fun y k2 w H2 hy e2 hk2 h2 => by
    obtain ⟨as, rfl, hy⟩ := onT_ex hy
    obtain ⟨i, rfl, j, d, rfl, hj, hr⟩ := onI_ex hy
    have h1' := h1.kp e2 hk1
    obtain ⟨p, xs, rfl, hs, hd⟩ := h1'.untup
    obtain ⟨v, g1, g2⟩ := hd.at hj
    exact ⟨_, _, _, v, rfl, h2.unint, hs, atI_nat g1, q _ k2 v H2 hr (e1.trans e2) hk2 (.v g2)⟩)
theorem c_ixL (h : EvC X o a ds k fun x k1 => EvC X o b ds k1 fun y k2 => onL k2 x fun as => onI y fun i => onAt as i fun d => R d k2) (hp : PlainIx b := by exact fun _ _ => rfl) : EvC X o (.Subscript a b pos) ds k R := fun st H Q S hk q =>
  we (pe_ix ix_list pe_w pe_w hp) (h st H _ S hk fun x k1 v H1 hx e1 hk1 h1 => hx st H1 _ (S.kp e1 hk) hk1 fun y k2 w H2 hy e2 hk2 h2 => by
    obtain ⟨p, xs, as, rfl, hs, hd, hy⟩ := onL_ex hk2 hy (h1.kp e2 hk1)
    obtain ⟨i, rfl, j, d, rfl, hj, hr⟩ := onI_ex hy
    obtain ⟨v, g1, g2⟩ := hd.at hj
    exact ⟨_, _, _, v, rfl, h2.unint, hs, atI_nat g1, q _ k2 v H2 hr (e1.trans e2) hk2 (.v g2)⟩)
end
end Wz

set_option Elab.async false
set_option linter.all false
set_option maxRecDepth 100000
set_option maxHeartbeats 4000000
namespace Wz
open PySem PySem.Spec PyProof.Rows L2 Evl

/-! ### defs -/
abbrev FP := List Dat → (Dat → Prop) → Prop
abbrev FN := List Dat → (List Dat → Prop) → Prop
abbrev FD := List Dat → List Dat → (Dat → List Dat → Prop) → Prop
abbrev FE := List Dat → List Dat → (List Dat → List Dat → Prop) → Prop
/-- a def without side -/
def spP (K : PySem.W.Frag) (F : FP) : Sp := fun vs H Q _ => ∃ ds G, DTs K [] H vs ds ∧ F ds G ∧ ∀ d, G d → ∀ v H', Kp [] H H' → DV K [] H' v d → Q v H'
/-- one that tells a new list -/
def spN (K : PySem.W.Frag) (F : FN) : Sp := fun vs H Q _ => ∃ ds G, DTs K [] H vs ds ∧ F ds G ∧ ∀ as, G as → ∀ p xs H', H p = none → Kp [] H H' → H' p = some (.lst xs) → DVs K [] H' xs as → Q (.ref p) H'
/-- one whose first argument is a cell -/
def spD (K : PySem.W.Frag) (F : FD) : Sp := fun vs H Q _ => ∃ (a : Addr) (ws : List V) (ds s : List Dat) (G : Dat → List Dat → Prop), vs = .ref a :: ws ∧ DK K [a] [s] H ∧ DVs K [a] H ws ds ∧ F ds s G ∧ ∀ d s', G d s' → ∀ v H', Kp [a] H H' → DK K [a] [s'] H' → DV K [a] H' v d → Q v H'
/-- such a one that tells a new list -/
def spE (K : PySem.W.Frag) (F : FE) : Sp := fun vs H Q _ => ∃ (a : Addr) (ws : List V) (ds s : List Dat) (G : List Dat → List Dat → Prop), vs = .ref a :: ws ∧ DK K [a] [s] H ∧ DVs K [a] H ws ds ∧ F ds s G ∧ ∀ as s', G as s' → ∀ p xs H', H p = none → Kp [a] H H' → DK K [a] [s'] H' → H' p = some (.lst xs) → DVs K [a] H' xs as → Q (.ref p) H'
structure Cl (P : Program) (w : World) (K : PySem.W.Frag) (mg : Str → Option Value) (base : Heap) (k : Nat) (x : Str) (ps : List Str) (sp : Sp) : Prop where
  ex : ∃ (f : Addr) (fd : FuncData), mg x = some (.ref f) ∧ PySem.W.keepIn K (.ref f) = true ∧ Binds K fd ps [] ∧ FnOk P w K mg base CX0 k f fd ps sp
theorem Cl.mono {P : Program} {w : World} {K : PySem.W.Frag} {mg : Str → Option Value} {base : Heap} {j k : Nat} {x : Str} {ps : List Str} {sp : Sp} (c : Cl P w K mg base j x ps sp) (h : j ≤ k) : Cl P w K mg base k x ps sp := by
  obtain ⟨f, fd, a, b, c1, F⟩ := c.ex
  exact ⟨f, fd, a, b, c1, F.mono h⟩
/-- an argument as what is read -/
@[reducible] def rd (k : Cs) : Dat → Dat
  | .cel i => .lst (k.getD i [])
  | d => d
theorem rd_dt {K : PySem.W.Frag} {o : Os} {k : Cs} {H : Hp} {v : V} {d : Dat} (hk : DK K o k H) (h : DT K o H v d) : DT K [] H v (rd k d) := by
  cases h with
  | v h =>
    have h' : DV K [] H v d := h.less (fun b z => by cases z)
    have e : rd k d = d := by cases h <;> rfl
    rw [e]
    exact .v h'
  | cel hi =>
    rename_i a i
    have hl : i < k.length := by rw [← hk.len]; exact (List.getElem?_eq_some_iff.mp hi).1
    have hki : k[i]? = some (k.getD i []) := by rw [List.getD_eq_getElem?_getD, List.getElem?_eq_getElem hl]; rfl
    obtain ⟨xs, hx, hd⟩ := hk.at_ i a _ hi hki
    exact .v (.lst' (.inl hx) (fun z => by cases z) (hd.less fun b z => by cases z))
theorem rd_dts {K : PySem.W.Frag} {o : Os} {k : Cs} {H : Hp} {vs : List V} {ds : List Dat} (hk : DK K o k H) (h : DTs K o H vs ds) : DTs K [] H vs (ds.map (rd k)) := by
  refine ⟨by rw [List.length_map]; exact h.1, fun i v d a b => ?_⟩
  rw [List.getElem?_map] at b
  cases hd : ds[i]? with
  | none => rw [hd] at b; cases b
  | some d0 =>
    rw [hd] at b
    cases b
    exact rd_dt hk (h.2 i v d0 a hd)
/-- the first argument is a cell -/
@[reducible] def onD (k : Cs) (as : List Dat) (C : Nat → List Dat → List Dat → Prop) : Prop := match as with
  | .cel i :: bs => match k[i]? with
    | some s => C i s bs
    | none => False
  | _ => False
theorem onD_ex {k : Cs} {as : List Dat} {C : Nat → List Dat → List Dat → Prop} (h : onD k as C) : ∃ i s bs, as = .cel i :: bs ∧ k[i]? = some s ∧ C i s bs := by
  cases as with
  | nil => exact h.elim
  | cons a bs =>
    cases a with
    | cel i =>
      cases hi : k[i]? with
      | none => simp only [onD, hi] at h
      | some s =>
        simp only [onD, hi] at h
        exact ⟨i, s, bs, rfl, hi, h⟩
    | _ => exact h.elim
/-- the one cell alone -/
theorem dk_one {K : PySem.W.Frag} {o : Os} {k : Cs} {H : Hp} {i : Nat} {a : Addr} {s : List Dat} (hk : DK K o k H) (hi : o[i]? = some a) (hs : k[i]? = some s) : DK K [a] [s] H := by
  refine ⟨rfl, by simp, fun z hz => by rw [List.mem_singleton] at hz; rw [hz]; exact hk.nl s (List.mem_of_getElem? hs), fun j b cs hj hc => ?_⟩
  cases j with
  | zero =>
    cases hj
    cases hc
    obtain ⟨xs, h1, h2⟩ := hk.at_ i _ _ hi hs
    exact ⟨xs, h1, h2.less fun b hb => by rw [List.mem_singleton] at hb; rw [hb]; exact List.mem_of_getElem? hi⟩
  | succ j => cases hj
theorem dk_back {K : PySem.W.Frag} {o : Os} {k : Cs} {H H' : Hp} {i : Nat} {a : Addr} {s : List Dat} (hk : DK K o k H) (hi : o[i]? = some a) (e : Kp [a] H H') (h : DK K [a] [s] H') : DK K o (k.set i s) H' ∧ Kp o H H' := by
  have n : s.all noL = true := h.nl _ (List.mem_singleton.mpr rfl)
  have hm : a ∈ o := List.mem_of_getElem? hi
  have kp : Kp o H H' := e.more fun b hb => by rw [List.mem_singleton] at hb; rw [hb]; exact hm
  refine ⟨⟨by rw [List.length_set]; exact hk.len, hk.nd, fun z hz => ?_, fun j b cs hj hc => ?_⟩, kp⟩
  · rcases List.mem_or_eq_of_mem_set hz with hz | rfl
    · exact hk.nl z hz
    · exact h.nl _ (List.mem_singleton.mpr rfl)
  by_cases z : i = j
  · subst z
    rw [hi] at hj
    cases hj
    have hl : i < k.length := by rw [← hk.len]; exact (List.getElem?_eq_some_iff.mp hi).1
    rw [List.getElem?_set_self hl] at hc
    cases hc
    obtain ⟨xs, h1, h2⟩ := h.at_ 0 _ _ rfl rfl
    exact ⟨xs, h1, h2.back n o⟩
  · rw [List.getElem?_set_ne z] at hc
    obtain ⟨xs, hx, hd⟩ := hk.at_ j b cs hj hc
    refine ⟨xs, e b _ (fun hb => ?_) hx, hd.kp kp hk⟩
    rw [List.mem_singleton] at hb
    subst hb
    have l1 := (List.getElem?_eq_some_iff.mp hi).1
    exact z ((List.getElem?_inj l1 hk.nd).mp (by rw [hi, hj]))
section
variable {X : Cx} {o : Os} {ds : List (Option Dat)} {k k1 k2 : Cs} {e : Expr} {es : List Expr} {p pos : Pos} {R : Dat → Cs → Prop} {RN : List Dat → Cs → Prop} {x : Str} {ps : List Str} {k' : Nat}
theorem c_call {F : FP} (c : Cl X.prog X.w X.K X.mg X.base k' x ps (spP X.K F)) (hr : Room k' X.A) (h : EvA X o (e :: es) ds k fun as k1 => F (as.map (rd k1)) fun d => noL d = true ∧ R d k1) (hg : Gl X x := by rfl) (hdb : (x == ("__debug__" : Str)) = false := by decide)
    (he : starEach (e :: es) X.env = (false, eval e X.env) :: starEach es X.env := by rfl) (hpl : (backTo pos (starEach es X.env)).any (·.1) = false := by rfl) : EvC X o (.Call (.Name x p) (e :: es) [] pos) ds k R := fun st H Q St hk q => by
  obtain ⟨f, fd, a, b, c1, F1⟩ := c.ex
  refine we (pe_call F1 hr hg a b c1 .nil pass0 pa_w hdb he hpl) (h st H _ St hk fun as k1 vs H1 hx e1 hk1 h1 => ?_)
  refine ⟨as.map (rd k1), _, by rw [List.append_nil]; exact rd_dts hk1 h1, hx, fun d hd v H' e' h' => ?_⟩
  have e2 : Ex H1 H' := e'.ex
  exact q d k1 v H' hd.2 (e1.trans (Kp.of_ex e2)) (hk1.ex e2) (.v (h'.back hd.1 o))
theorem n_call {F : FN} (c : Cl X.prog X.w X.K X.mg X.base k' x ps (spN X.K F)) (hr : Room k' X.A) (h : EvA X o (e :: es) ds k fun as k1 => F (as.map (rd k1)) fun bs => bs.all noL = true ∧ RN bs k1) (hg : Gl X x := by rfl) (hdb : (x == ("__debug__" : Str)) = false := by decide)
    (he : starEach (e :: es) X.env = (false, eval e X.env) :: starEach es X.env := by rfl) (hpl : (backTo pos (starEach es X.env)).any (·.1) = false := by rfl) : EvN X o (.Call (.Name x p) (e :: es) [] pos) ds k RN := fun st H Q St hk q => by
  obtain ⟨f, fd, a, b, c1, F1⟩ := c.ex
  refine we (pe_call F1 hr hg a b c1 .nil pass0 pa_w hdb he hpl) (h st H _ St hk fun as k1 vs H1 hx e1 hk1 h1 => ?_)
  refine ⟨as.map (rd k1), _, by rw [List.append_nil]; exact rd_dts hk1 h1, hx, fun bs hd p xs H' np e' hp h' => ?_⟩
  have e2 : Ex H1 H' := e'.ex
  exact q bs k1 p xs H' hd.2 (fresh_back e1 hk1 np) (e1.trans (Kp.of_ex e2)) (hk1.ex e2) hp (h'.back hd.1 o)
/-- a cell handed on -/
theorem dts_cell {K : PySem.W.Frag} {o : Os} {k : Cs} {H : Hp} {vs : List V} {i : Nat} {s bs : List Dat} (hk : DK K o k H) (h : DTs K o H vs (.cel i :: bs)) (hs : k[i]? = some s) (n : bs.all noC = true) : ∃ a ws, vs = .ref a :: ws ∧ o[i]? = some a ∧ DK K [a] [s] H ∧ DVs K [a] H ws bs := by
  cases vs with
  | nil => exact absurd h.1 (by simp)
  | cons v ws =>
    obtain ⟨h1, h2⟩ := h.uncons
    obtain ⟨a, rfl, ha⟩ := h1.uncel
    exact ⟨a, ws, rfl, ha, dk_one hk ha hs, (h2.unc n).less fun b hb => by rw [List.mem_singleton] at hb; rw [hb]; exact List.mem_of_getElem? ha⟩
theorem c_callD {F : FD} (c : Cl X.prog X.w X.K X.mg X.base k' x ps (spD X.K F)) (hr : Room k' X.A) (h : EvA X o (e :: es) ds k fun as k1 => onD k1 as fun i s bs => bs.all noC = true ∧ F bs s fun d s' => noL d = true ∧ R d (k1.set i s')) (hg : Gl X x := by rfl) (hdb : (x == ("__debug__" : Str)) = false := by decide)
    (he : starEach (e :: es) X.env = (false, eval e X.env) :: starEach es X.env := by rfl) (hpl : (backTo pos (starEach es X.env)).any (·.1) = false := by rfl) : EvC X o (.Call (.Name x p) (e :: es) [] pos) ds k R := fun st H Q St hk q => by
  obtain ⟨f, fd, a, b, c1, F1⟩ := c.ex
  refine we (pe_call F1 hr hg a b c1 .nil pass0 pa_w hdb he hpl) (h st H _ St hk fun as k1 vs H1 hx e1 hk1 h1 => ?_)
  obtain ⟨i, s, bs, rfl, hs, hn, hx⟩ := onD_ex hx
  obtain ⟨aa, ws, rfl, ha, hk2, h2⟩ := dts_cell hk1 h1 hs hn
  refine ⟨aa, ws, bs, s, _, by rw [List.append_nil], hk2, h2, hx, fun d s' hd v H' e' hk' h' => ?_⟩
  obtain ⟨hk3, e3⟩ := dk_back hk1 ha e' hk'
  exact q d _ v H' hd.2 (e1.trans e3) hk3 (.v (h'.back hd.1 o))
theorem n_callD {F : FE} (c : Cl X.prog X.w X.K X.mg X.base k' x ps (spE X.K F)) (hr : Room k' X.A) (h : EvA X o (e :: es) ds k fun as k1 => onD k1 as fun i s bs => bs.all noC = true ∧ F bs s fun cs s' => cs.all noL = true ∧ RN cs (k1.set i s')) (hg : Gl X x := by rfl) (hdb : (x == ("__debug__" : Str)) = false := by decide)
    (he : starEach (e :: es) X.env = (false, eval e X.env) :: starEach es X.env := by rfl) (hpl : (backTo pos (starEach es X.env)).any (·.1) = false := by rfl) : EvN X o (.Call (.Name x p) (e :: es) [] pos) ds k RN := fun st H Q St hk q => by
  obtain ⟨f, fd, a, b, c1, F1⟩ := c.ex
  refine we (pe_call F1 hr hg a b c1 .nil pass0 pa_w hdb he hpl) (h st H _ St hk fun as k1 vs H1 hx e1 hk1 h1 => ?_)
  obtain ⟨i, s, bs, rfl, hs, hn, hx⟩ := onD_ex hx
  obtain ⟨aa, ws, rfl, ha, hk2, h2⟩ := dts_cell hk1 h1 hs hn
  refine ⟨aa, ws, bs, s, _, by rw [List.append_nil], hk2, h2, hx, fun cs s' hd p xs H' np e' hk' hp h' => ?_⟩
  obtain ⟨hk3, e3⟩ := dk_back hk1 ha e' hk'
  exact q cs _ p xs H' hd.2 (fresh_back e1 hk1 np) (e1.trans e3) hk3 hp (h'.back hd.1 o)
end
/-! keywords alone -/
def kperm (pi : List Nat) (n : Nat) {α : Type} (us ws : List α) : List α := match us with
  | [] => if ws.length = n then pi.filterMap (fun i => ws[i]?) else []
  | _ :: _ => []
theorem kperm_rel (pi : List Nat) (n : Nat) {vs : List V} {us : List Value} {zs : List V} {ws : List Value} (r : Vals vs us) (r2 : Vals zs ws) : Vals (kperm pi n vs zs) (kperm pi n us ws) := by
  cases r with
  | cons _ _ => exact .nil
  | nil =>
    unfold kperm
    by_cases hn : zs.length = n
    · have e2 : ws.length = n := by rw [← r2.length]; exact hn
      show Vals (if zs.length = n then pi.filterMap (fun i => zs[i]?) else []) (if ws.length = n then pi.filterMap (fun i => ws[i]?) else [])
      rw [if_pos hn, if_pos e2]
      induction pi with
      | nil => exact .nil
      | cons i pi ih =>
        rw [List.filterMap_cons, List.filterMap_cons]
        cases hz : zs[i]? with
        | none =>
          rw [r2.none_of hz]
          exact ih
        | some z =>
          obtain ⟨u, hu, ru⟩ := r2.get hz
          rw [hu]
          exact .cons ru ih
    · have e2 : ¬ ws.length = n := by rw [← r2.length]; exact hn
      show Vals (if zs.length = n then pi.filterMap (fun i => zs[i]?) else []) (if ws.length = n then pi.filterMap (fun i => ws[i]?) else [])
      rw [if_neg hn, if_neg e2]
      exact .nil
theorem Fun.kb {K : PySem.W.Frag} {x qual : Str} {st : Stmt} {f : Addr} {fd : FuncData} {ps ks : List Str} (F : Fun K x qual st f fd) (pi : List Nat) (n : Nat) (hp : 0 < ps.length)
    (h : ∀ (kV doc pm : Value) (an : Option Addr) (cdv ct : Value) (ws : List Value), ws.length = n → bindArgs (PySem.W.fnOf x qual (defArgs st) (defBody st) (defScope st) .none kV doc pm an cdv ct) ⟨[], ks.zip ws⟩ = pure (ps.zip (kperm pi n [] ws))) : KBinds K fd ps ks (kperm pi n) (kperm pi n) := by
  obtain ⟨oc, od, kV, doc, pm, an, cdv, ct, osl, rfl, lk, hcd⟩ := F.ex
  refine ⟨fun s us ws _ hl => ?_, fun r r2 => kperm_rel pi n r r2⟩
  cases us with
  | cons u us =>
    have hl' : (0 : Nat) = ps.length := hl
    omega
  | nil =>
    by_cases hw : ws.length = n
    · exact .of_eq (h kV doc pm an cdv ct ws hw)
    · have e : kperm pi n ([] : List Value) ws = [] := by
        unfold kperm
        rw [if_neg hw]
      rw [e] at hl
      have hl' : (0 : Nat) = ps.length := hl
      omega
@[reducible] def permD (pi : List Nat) (as : List Dat) : List Dat := pi.filterMap (fun i => as[i]?)
theorem DTs.perm {K : PySem.W.Frag} {o : Os} {H : Hp} {vs : List V} {as : List Dat} (h : DTs K o H vs as) (pi : List Nat) : DTs K o H (pi.filterMap fun i => vs[i]?) (permD pi as) := by
  unfold permD
  induction pi with
  | nil => exact DTs.nil
  | cons i pi ih =>
    rw [List.filterMap_cons, List.filterMap_cons]
    cases ha : as[i]? with
    | none =>
      have : vs[i]? = none := by
        rw [List.getElem?_eq_none_iff] at ha ⊢
        rw [h.1]
        exact ha
      rw [this]
      exact ih
    | some dd =>
      obtain ⟨v, hv, hd⟩ := h.at ha
      rw [hv]
      exact DTs.cons hd ih
structure ClK (P : Program) (w : World) (K : PySem.W.Frag) (mg : Str → Option Value) (base : Heap) (k : Nat) (x : Str) (ps ks : List Str) (pi : List Nat) (sp : Sp) : Prop where
  ex : ∃ (f : Addr) (fd : FuncData), mg x = some (.ref f) ∧ PySem.W.keepIn K (.ref f) = true ∧ KBinds K fd ps ks (kperm pi ks.length) (kperm pi ks.length) ∧ FnOk P w K mg base CX0 k f fd ps sp
section
variable {X : Cx} {o : Os} {ds : List (Option Dat)} {k k1 k2 : Cs} {e : Expr} {es : List Expr} {p pos : Pos} {R : Dat → Cs → Prop} {RN : List Dat → Cs → Prop} {x : Str} {ps ks : List Str} {k' : Nat} {pi : List Nat} {kws : List Keyword}
theorem c_callK {F : FP} (c : ClK X.prog X.w X.K X.mg X.base k' x ps ks pi (spP X.K F)) (hr : Room k' X.A) (h : EvK X o kws ds k fun as k1 => as.length = ks.length ∧ F (permD pi (as.map (rd k1))) fun d => noL d = true ∧ R d k1) (hg : Gl X x := by rfl)
    (hall : (backToKw pos (keywordEach kws X.env)).all (·.1.isSome) = true := by rfl) (hks : (backToKw pos (keywordEach kws X.env)).filterMap (·.1) = ks := by rfl) (hdb : (x == ("__debug__" : Str)) = false := by decide)
    (hpl : ((backTo pos (starEach [] X.env)).any (·.1) || (backToKw pos (keywordEach kws X.env)).any (·.1.isNone)) = false := by rfl) : EvC X o (.Call (.Name x p) [] kws pos) ds k R := fun st H Q St hk q => by
  obtain ⟨f, fd, hm, hkp, hb, F1⟩ := c.ex
  intro pins s I
  refine wpAny_Call_Name_kw (ld_glob I hg hm ?_ hdb)
  refine PySem.W.callWith_KW0 (h₀ := X.base) I.ok.mod.kin hkp hall (thn (h st H (fun zs H2 => spP X.K F (kperm pi ks.length [] zs) H2 Q E0) St hk (fun as k1 vs H1 hx e1 hk1 h1 => ?_) pos pins s I) fun ws s2 ⟨zs, H2, I2, rz, q2⟩ => ⟨I2.kIn, ?_⟩) hpl
  · refine ⟨permD pi (as.map (rd k1)), _, ?_, hx.2, fun d hd v H' e' h' => ?_⟩
    · unfold kperm
      rw [if_pos (by rw [h1.1]; exact hx.1)]
      exact (rd_dts hk1 h1).perm pi
    · exact q d k1 v H' hd.2 (e1.trans (Kp.of_ex e'.ex)) (hk1.ex e'.ex) (.v (h'.back hd.1 o))
  · rw [hks]
    exact run_fnk F1 hr hb pass0 I2 .nil rz q2
theorem n_callK {F : FN} (c : ClK X.prog X.w X.K X.mg X.base k' x ps ks pi (spN X.K F)) (hr : Room k' X.A) (h : EvK X o kws ds k fun as k1 => as.length = ks.length ∧ F (permD pi (as.map (rd k1))) fun bs => bs.all noL = true ∧ RN bs k1) (hg : Gl X x := by rfl)
    (hall : (backToKw pos (keywordEach kws X.env)).all (·.1.isSome) = true := by rfl) (hks : (backToKw pos (keywordEach kws X.env)).filterMap (·.1) = ks := by rfl) (hdb : (x == ("__debug__" : Str)) = false := by decide)
    (hpl : ((backTo pos (starEach [] X.env)).any (·.1) || (backToKw pos (keywordEach kws X.env)).any (·.1.isNone)) = false := by rfl) : EvN X o (.Call (.Name x p) [] kws pos) ds k RN := fun st H Q St hk q => by
  obtain ⟨f, fd, hm, hkp, hb, F1⟩ := c.ex
  intro pins s I
  refine wpAny_Call_Name_kw (ld_glob I hg hm ?_ hdb)
  refine PySem.W.callWith_KW0 (h₀ := X.base) I.ok.mod.kin hkp hall (thn (h st H (fun zs H2 => spN X.K F (kperm pi ks.length [] zs) H2 Q E0) St hk (fun as k1 vs H1 hx e1 hk1 h1 => ?_) pos pins s I) fun ws s2 ⟨zs, H2, I2, rz, q2⟩ => ⟨I2.kIn, ?_⟩) hpl
  · refine ⟨permD pi (as.map (rd k1)), _, ?_, hx.2, fun bs hd pp xs H' np e' hp h' => ?_⟩
    · unfold kperm
      rw [if_pos (by rw [h1.1]; exact hx.1)]
      exact (rd_dts hk1 h1).perm pi
    · exact q bs k1 pp xs H' hd.2 (fresh_back e1 hk1 np) (e1.trans (Kp.of_ex e'.ex)) (hk1.ex e'.ex) hp (h'.back hd.1 o)
  · rw [hks]
    exact run_fnk F1 hr hb pass0 I2 .nil rz q2
end

/-! ### blocks -/
/-- the cells are those of the entry, and new ones -/
structure Frs (o0 o : Os) (H0 : Hp) : Prop where
  pre : ∃ l, o = o0 ++ l
  new : ∀ b ∈ o, b ∉ o0 → H0 b = none
theorem Frs.kp {o0 o : Os} {H0 H H1 : Hp} (f : Frs o0 o H0) (e0 : Kp o0 H0 H) (e : Kp o H H1) : Kp o0 H0 H1 := fun b u nb hb => by
  refine e b u (fun m => ?_) (e0 b u nb hb)
  rw [f.new b m nb] at hb
  cases hb
/-- from any heap behind H0, where the names hold ds, the block does what D wants -/
def AS (X : Cx) (o0 o : Os) (sts : List Stmt) (D : Ends) (ds : List (Option Dat)) (k : Cs) (H0 : Hp) : Prop :=
  ∀ st H, Sat X.K o st H ds → DK X.K o k H → Kp o0 H0 H → Frs o0 o H0 → WB X sts D st H
/-- what a def's end wants -/
def RetC (K : PySem.W.Frag) (o0 : Os) (H0 : Hp) (rt : VK) (G : Dat → Cs → Prop) : Prop := ∀ d k' v H1, G d k' → Kp o0 H0 H1 → DK K o0 k' H1 → DV K o0 H1 v d → rt v H1
def RetN (K : PySem.W.Frag) (o0 : Os) (H0 : Hp) (rt : VK) (G : List Dat → Cs → Prop) : Prop := ∀ as k' p xs H1, G as k' → H0 p = none → p ∉ o0 → Kp o0 H0 H1 → DK K o0 k' H1 → H1 p = some (.lst xs) → DVs K o0 H1 xs as → rt (.ref p) H1
section
variable {X : Cx} {o0 o : Os} {ds : List (Option Dat)} {k k1 k2 : Cs} {e c : Expr} {d : Dat} {as : List Dat} {pos pos' : Pos} {rest body orelse : List Stmt} {D : Ends} {H0 : Hp} {G : Dat → Cs → Prop} {GN : List Dat → Cs → Prop}
theorem as_nil (h : ∀ st H, Sat X.K o st H ds → DK X.K o k H → Kp o0 H0 H → Frs o0 o H0 → D.nx st H) : AS X o0 o [] D ds k H0 := fun st H S hk e0 fr => wb pss_nil (h st H S hk e0 fr)
theorem wb_cons {s : Stmt} {st : L2.St} {H : Hp} (h : WS X s { D with nx := fun st' H' => WB X rest D st' H' } st H) : WB X (s :: rest) D st H := wb (pss_cons ps_w pss_w) h
theorem as_asg {i : Nat} {x : Str} (hN : X.N.Nodup) (h : EvC X o e ds k fun d k1 => AS X o0 o rest D (ds.set i (some d)) k1 H0) (hi : X.N[i]? = some x := by rfl) (hx : Loc X.env.scope x := by exact Or.inl rfl) (hs : swapsWith e (some (.Name x pos')) pos.line X.env = pure false := by rfl)
    (hf : X.fn x = true ∨ X.env.scope.names.lookup x = some .local := by exact .inl rfl) : AS X o0 o (.Assign [.Name x pos'] e pos :: rest) D ds k H0 := fun st H S hk e0 fr =>
  wb_cons (wss (ps_set hN hi hx pe_w hs hf) (h st H _ S hk fun d k1 v H1 hr e1 hk1 h1 => hr _ H1 ((S.kp e1 hk).set h1) hk1 (fr.kp e0 e1) fr))
/-- a new cell -/
theorem as_asgN {i : Nat} {x : Str} (hN : X.N.Nodup) (h : EvN X o e ds k fun as k1 => as.all noL = true ∧ ∀ p, AS X o0 (o ++ [p]) rest D (ds.set i (some (.cel k1.length))) (k1 ++ [as]) H0) (hi : X.N[i]? = some x := by rfl) (hx : Loc X.env.scope x := by exact Or.inl rfl) (hs : swapsWith e (some (.Name x pos')) pos.line X.env = pure false := by rfl)
    (hf : X.fn x = true ∨ X.env.scope.names.lookup x = some .local := by exact .inl rfl) : AS X o0 o (.Assign [.Name x pos'] e pos :: rest) D ds k H0 := fun st H S hk e0 fr =>
  wb_cons (wss (ps_set hN hi hx pe_w hs hf) (h st H _ S hk fun as k1 p xs H1 hr np e1 hk1 hp h1 => by
    have n1 := hk.ne np
    have hk2 := dk_plus hk1 n1 hp h1 hr.1
    have fit : ∀ (v : V) (d : Dat), DT X.K o H v d → DT X.K (o ++ [p]) H1 v d := fun v d q => by
      cases q with
      | v q => exact .v ((q.plus np).kp' e1 hk fun b hb => List.mem_append_left _ hb)
      | cel q => exact .cel (by rw [List.getElem?_append_left (List.getElem?_eq_some_iff.mp q).1]; exact q)
    have S1 : Sat X.K (o ++ [p]) st H1 ds := ⟨S.1, fun j d hd => let ⟨v, a, b⟩ := S.2 j d hd; ⟨v, a, fit v d b⟩⟩
    refine hr.2 p _ H1 (S1.set (.cel ?_)) hk2 (fr.kp e0 e1) ⟨?_, fun b hb nb => ?_⟩
    · rw [← hk1.len, List.getElem?_append_right (Nat.le_refl _), Nat.sub_self]
      rfl
    · obtain ⟨l, rfl⟩ := fr.pre
      exact ⟨l ++ [p], by rw [List.append_assoc]⟩
    · rcases List.mem_append.mp hb with hb | hb
      · exact fr.new b hb nb
      · rw [List.mem_singleton] at hb
        subst hb
        cases h0 : H0 b with
        | none => rfl
        | some u =>
          have := e0 b u nb h0
          rw [np] at this
          cases this))
theorem as_drop (h : EvC X o e ds k fun _ k1 => AS X o0 o rest D ds k1 H0) (hs : swapsWith e none pos.line X.env = pure false := by rfl) : AS X o0 o (.Expr e pos :: rest) D ds k H0 := fun st H S hk e0 fr =>
  wb_cons (wss (ps_expr pe_w hs) (h st H _ S hk fun d k1 v H1 hr e1 hk1 h1 => hr _ H1 (S.kp e1 hk) hk1 (fr.kp e0 e1) fr))
theorem as_ret (hq : RetC X.K o0 H0 D.rt G) (h : EvC X o e ds k fun d k1 => noC d = true ∧ G d (k1.take o0.length)) : AS X o0 o (.Return (some e) pos :: rest) D ds k H0 := fun st H S hk e0 fr =>
  wb_cons (wss (ps_ret pe_w) (h st H _ S hk fun d k1 v H1 hr e1 hk1 h1 => by
    obtain ⟨l, rfl⟩ := fr.pre
    exact hq d _ v H1 hr.2 (fr.kp e0 e1) (dk_take hk1) ((h1.unc hr.1).less fun b hb => List.mem_append_left _ hb)))
theorem as_retN (hq : RetN X.K o0 H0 D.rt GN) (h : EvN X o e ds k fun as k1 => GN as (k1.take o0.length)) : AS X o0 o (.Return (some e) pos :: rest) D ds k H0 := fun st H S hk e0 fr =>
  wb_cons (wss (ps_ret pe_w) (h st H _ S hk fun as k1 p xs H1 hr np e1 hk1 hp h1 => by
    have n1 := hk.ne np
    have h0 : H0 p = none := by
      cases h0 : H0 p with
      | none => rfl
      | some u =>
        obtain ⟨l, rfl⟩ := fr.pre
        have := e0 p u (fun z => n1 (List.mem_append_left _ z)) h0
        rw [np] at this
        cases this
    obtain ⟨l, rfl⟩ := fr.pre
    exact hq as _ p xs H1 hr h0 (fun z => n1 (List.mem_append_left _ z)) (fr.kp e0 e1) (dk_take hk1) hp (h1.less fun b hb => List.mem_append_left _ hb)))
/-- return x, x a cell of the def's own -/
theorem as_retC (hq : RetN X.K o0 H0 D.rt GN) (h : EvC X o e ds k fun d k1 => ∃ i s, d = .cel i ∧ o0.length ≤ i ∧ k1[i]? = some s ∧ GN s (k1.take o0.length)) : AS X o0 o (.Return (some e) pos :: rest) D ds k H0 := fun st H S hk e0 fr =>
  wb_cons (wss (ps_ret pe_w) (h st H _ S hk fun d k1 v H1 hr e1 hk1 h1 => by
    obtain ⟨i, s, rfl, hi, hs, hr⟩ := hr
    obtain ⟨a, rfl, ha⟩ := h1.uncel
    obtain ⟨xs, hx, hd⟩ := hk1.at_ i a s ha hs
    have nd := hk1.nd
    obtain ⟨l, rfl⟩ := fr.pre
    have na : a ∉ o0 := fun m => by
      rw [List.getElem?_append_right hi] at ha
      exact (List.nodup_append.mp nd).2.2 a m a (List.mem_of_getElem? ha) rfl
    exact hq s _ a xs H1 hr (fr.new a (List.mem_of_getElem? ha) na) na (fr.kp e0 e1) (dk_take hk1) hx (hd.less fun b hb => List.mem_append_left _ hb)))
theorem as_if (h : EvT X o c ds k fun b k1 => bc b (AS X o0 o body { D with nx := fun st' H' => WB X rest D st' H' } ds k1 H0) (AS X o0 o orelse { D with nx := fun st' H' => WB X rest D st' H' } ds k1 H0)) : AS X o0 o (.If c body orelse pos :: rest) D ds k H0 := fun st H S hk e0 fr =>
  wb_cons (wss (ps_if pt_w pss_w pss_w) (h st H _ S hk fun b k1 H1 hb e1 hk1 => by
    cases b with
    | true => exact hb st H1 (S.kp e1 hk) hk1 (fr.kp e0 e1) fr
    | false => exact hb st H1 (S.kp e1 hk) hk1 (fr.kp e0 e1) fr))
/-- the end of a branch: what follows the if -/
theorem as_go (h : AS X o0 o rest D ds k H0) : AS X o0 o [] { D with nx := fun st' H' => WB X rest D st' H' } ds k H0 := as_nil h
theorem as_ifn (h : EvT X o c ds k fun b k1 => bc b (AS X o0 o body { D with nx := fun st' H' => WB X rest D st' H' } ds k1 H0) (AS X o0 o rest D ds k1 H0)) : AS X o0 o (.If c body [] pos :: rest) D ds k H0 :=
  as_if (h.mono fun b k1 hb => by
    cases b with
    | true => exact hb
    | false => exact as_go hb)
/-- what is known of both branches' ends -/
theorem as_join {J : List (Option Dat) → Cs → Prop} (hJ : ∀ es q, J es q → AS X o0 o rest D es q H0) (h : AS X o0 o body { D with nx := fun st' H' => ∃ es q, J es q ∧ Sat X.K o st' H' es ∧ DK X.K o q H' ∧ Kp o0 H0 H' ∧ Frs o0 o H0 } ds k H0) : AS X o0 o body { D with nx := fun st' H' => WB X rest D st' H' } ds k H0 := fun st H S hk e0 fr => by
  have h1 := h st H S hk e0 fr
  intro pins s I
  refine thn (h1 pins s I) fun f s' hf => ?_
  cases f with
  | next =>
    obtain ⟨σ', H', I', es, q, j, S', hk', e', fr'⟩ := hf
    exact ⟨σ', H', I', hJ es q j σ' H' S' hk' e' fr'⟩
  | brk => exact hf
  | cont => exact hf
  | ret u => exact hf
theorem as_joined {J : List (Option Dat) → Cs → Prop} (j : J ds k) (hD : D.nx = fun st' H' => ∃ es q, J es q ∧ Sat X.K o st' H' es ∧ DK X.K o q H' ∧ Kp o0 H0 H' ∧ Frs o0 o H0) : AS X o0 o [] D ds k H0 := as_nil fun st H S hk e0 fr => by
  rw [hD]
  exact ⟨ds, k, j, S, hk, e0, fr⟩
/-- if .., both ways going on as J -/
theorem as_ifJ (J : List (Option Dat) → Cs → Prop) (h : EvT X o c ds k fun b k1 => bc b (AS X o0 o body { D with nx := fun st' H' => ∃ es q, J es q ∧ Sat X.K o st' H' es ∧ DK X.K o q H' ∧ Kp o0 H0 H' ∧ Frs o0 o H0 } ds k1 H0) (AS X o0 o orelse { D with nx := fun st' H' => ∃ es q, J es q ∧ Sat X.K o st' H' es ∧ DK X.K o q H' ∧ Kp o0 H0 H' ∧ Frs o0 o H0 } ds k1 H0)) (hJ : ∀ es q, J es q → AS X o0 o rest D es q H0) : AS X o0 o (.If c body orelse pos :: rest) D ds k H0 :=
  as_if (h.mono fun b k1 hb => by
    cases b with
    | true => exact as_join hJ hb
    | false => exact as_join hJ hb)
/-- a, b = t -/
theorem as_unp2 {i j : Nat} {x y : Str} {px py pt : Pos} {kt : Nat} (hN : X.N.Nodup) (hc : X.calm = true) (h : EvC X o e ds k fun d k1 => onT d fun as => ∃ d1 d2, as = [d1, d2] ∧ AS X o0 o rest D ((ds.set i (some d1)).set j (some d2)) k1 H0)
    (hi : X.N[i]? = some x := by rfl) (hj : X.N[j]? = some y := by rfl) (hx : Loc X.env.scope x := by exact Or.inl rfl) (hy : Loc X.env.scope y := by exact Or.inl rfl) (hfx : X.fn x = true ∨ X.env.scope.names.lookup x = some .local := by exact .inl rfl) (hfy : X.fn y = true ∨ X.env.scope.names.lookup y = some .local := by exact .inl rfl)
    (hs : swapsWithSole [.Tuple [.Name x px, .Name y py] kt pt] e pos.line X.env = pure false := by rfl) (hw : swappedStores [.Tuple [.Name x px, .Name y py] kt pt] e X.env = pure none := by rfl) :
    AS X o0 o (.Assign [.Tuple [.Name x px, .Name y py] kt pt] e pos :: rest) D ds k H0 := fun st H S hk e0 fr =>
  wb_cons (wss (ps_asg pe_w (pg_tup hc (pgs_cons (pg_name hN hi hx hfx) (pgs_cons (pg_name hN hj hy hfy) pgs_nil))) hs hw) (h st H _ S hk fun d k1 v H1 hr e1 hk1 h1 => by
    obtain ⟨as, rfl, hz⟩ := onT_ex hr
    obtain ⟨d1, d2, rfl, hy⟩ := hz
    obtain ⟨a, xs, rfl, hsq, hd⟩ := h1.untup
    match xs, hd with
    | [v1, v2], hd =>
      exact ⟨a, _, rfl, hsq, rfl, v1, _, rfl, v2, _, rfl, rfl, hy _ H1 (((S.kp e1 hk).set (.v (hd.2 0 _ _ rfl rfl))).set (.v (hd.2 1 _ _ rfl rfl))) hk1 (fr.kp e0 e1) fr⟩))
theorem as_unp3 {i j l : Nat} {x y z : Str} {px py pz pt : Pos} {kt : Nat} (hN : X.N.Nodup) (hc : X.calm = true) (h : EvC X o e ds k fun d k1 => onT d fun as => ∃ d1 d2 d3, as = [d1, d2, d3] ∧ AS X o0 o rest D (((ds.set i (some d1)).set j (some d2)).set l (some d3)) k1 H0)
    (hi : X.N[i]? = some x := by rfl) (hj : X.N[j]? = some y := by rfl) (hl : X.N[l]? = some z := by rfl) (hx : Loc X.env.scope x := by exact Or.inl rfl) (hy : Loc X.env.scope y := by exact Or.inl rfl) (hz : Loc X.env.scope z := by exact Or.inl rfl)
    (hfx : X.fn x = true ∨ X.env.scope.names.lookup x = some .local := by exact .inl rfl) (hfy : X.fn y = true ∨ X.env.scope.names.lookup y = some .local := by exact .inl rfl) (hfz : X.fn z = true ∨ X.env.scope.names.lookup z = some .local := by exact .inl rfl)
    (hs : swapsWithSole [.Tuple [.Name x px, .Name y py, .Name z pz] kt pt] e pos.line X.env = pure false := by rfl) (hw : swappedStores [.Tuple [.Name x px, .Name y py, .Name z pz] kt pt] e X.env = pure none := by rfl) :
    AS X o0 o (.Assign [.Tuple [.Name x px, .Name y py, .Name z pz] kt pt] e pos :: rest) D ds k H0 := fun st H S hk e0 fr =>
  wb_cons (wss (ps_asg pe_w (pg_tup hc (pgs_cons (pg_name hN hi hx hfx) (pgs_cons (pg_name hN hj hy hfy) (pgs_cons (pg_name hN hl hz hfz) pgs_nil)))) hs hw) (h st H _ S hk fun d k1 v H1 hr e1 hk1 h1 => by
    obtain ⟨as, rfl, hz⟩ := onT_ex hr
    obtain ⟨d1, d2, d3, rfl, hy⟩ := hz
    obtain ⟨a, xs, rfl, hsq, hd⟩ := h1.untup
    match xs, hd with
    | [v1, v2, v3], hd =>
      exact ⟨a, _, rfl, hsq, rfl, v1, _, rfl, v2, _, rfl, v3, _, rfl, rfl, hy _ H1 ((((S.kp e1 hk).set (.v (hd.2 0 _ _ rfl rfl))).set (.v (hd.2 1 _ _ rfl rfl))).set (.v (hd.2 2 _ _ rfl rfl))) hk1 (fr.kp e0 e1) fr⟩))
/-- a, b = e1, e2, both plain names -/
theorem as_par {i j : Nat} {x y : Str} {e1 e2 : Expr} {px py pt pt2 : Pos} {kt kt2 : Nat} (hN : X.N.Nodup) (hc : X.calm = true) (h : EvA X o [e1, e2] ds k fun as k1 => ∃ d1 d2, as = [d1, d2] ∧ AS X o0 o rest D ((ds.set i (some d1)).set j (some d2)) k1 H0)
    (hi : X.N[i]? = some x := by rfl) (hj : X.N[j]? = some y := by rfl) (hij : i ≠ j := by decide) (hx : X.env.scope.names.lookup x = some .local := by rfl) (hy : X.env.scope.names.lookup y = some .local := by rfl)
    (hw : swappedStores [.Tuple [.Name x px, .Name y py] kt pt] (.Tuple [e1, e2] kt2 pt2) X.env = pure (some [x, y]) := by rfl) (hs : swapsWithSole [.Tuple [.Name x px, .Name y py] kt pt] (.Tuple [e1, e2] kt2 pt2) pos.line X.env = pure false := by rfl) :
    AS X o0 o (.Assign [.Tuple [.Name x px, .Name y py] kt pt] (.Tuple [e1, e2] kt2 pt2) pos :: rest) D ds k H0 := fun st H S hk e0 fr =>
  wb_cons (wss (ps_par hc hN hi hj hij hx hy pa_w hw hs) (h st H _ S hk fun as k1 vs H1 hr e1 hk1 h1 => by
    obtain ⟨d1, d2, rfl, hr⟩ := hr
    match vs, h1 with
    | [v1, v2], h1 =>
      exact ⟨v1, v2, rfl, hr _ H1 (((S.kp e1 hk).set (h1.2 0 _ _ rfl rfl)).set (h1.2 1 _ _ rfl rfl)) hk1 (fr.kp e0 e1) fr⟩))
theorem as_par3 {i j l : Nat} {x y z : Str} {e1 e2 e3 : Expr} {px py pz pt pt2 : Pos} {kt kt2 : Nat} (hN : X.N.Nodup) (hc : X.calm = true) (h : EvA X o [e1, e2, e3] ds k fun as k1 => ∃ d1 d2 d3, as = [d1, d2, d3] ∧ AS X o0 o rest D (((ds.set i (some d1)).set j (some d2)).set l (some d3)) k1 H0)
    (hi : X.N[i]? = some x := by rfl) (hj : X.N[j]? = some y := by rfl) (hl : X.N[l]? = some z := by rfl) (hij : i ≠ j := by decide) (hil : i ≠ l := by decide) (hjl : j ≠ l := by decide) (hx : X.env.scope.names.lookup x = some .local := by rfl) (hy : X.env.scope.names.lookup y = some .local := by rfl) (hz : X.env.scope.names.lookup z = some .local := by rfl)
    (hw : swappedStores [.Tuple [.Name x px, .Name y py, .Name z pz] kt pt] (.Tuple [e1, e2, e3] kt2 pt2) X.env = pure (some [x, y, z]) := by rfl) (hs : swapsWithSole [.Tuple [.Name x px, .Name y py, .Name z pz] kt pt] (.Tuple [e1, e2, e3] kt2 pt2) pos.line X.env = pure false := by rfl) :
    AS X o0 o (.Assign [.Tuple [.Name x px, .Name y py, .Name z pz] kt pt] (.Tuple [e1, e2, e3] kt2 pt2) pos :: rest) D ds k H0 := fun st H S hk e0 fr =>
  wb_cons (wss (ps_par3 hc hN hi hj hl hij hil hjl hx hy hz pa_w hw hs) (h st H _ S hk fun as k1 vs H1 hr e1 hk1 h1 => by
    obtain ⟨d1, d2, d3, rfl, hr⟩ := hr
    match vs, h1 with
    | [v1, v2, v3], h1 =>
      exact ⟨v1, v2, v3, rfl, hr _ H1 ((((S.kp e1 hk).set (h1.2 0 _ _ rfl rfl)).set (h1.2 1 _ _ rfl rfl)).set (h1.2 2 _ _ rfl rfl)) hk1 (fr.kp e0 e1) fr⟩))
/-- cell[j] = e -/
theorem as_cell {eo ei : Expr} (h : EvC X o e ds k fun d k1 => EvC X o eo ds k1 fun dc k2 => EvC X o ei ds k2 fun di k3 => noL d = true ∧ ∃ (i j : Nat) (s : List Dat), dc = .cel i ∧ di = .int (j : Int) ∧ k3[i]? = some s ∧ j < s.length ∧ AS X o0 o rest D ds (k3.set i (s.set j d)) H0) {tpos : Pos}
    (hs : swapsWithSole [.Subscript eo ei tpos] e pos.line X.env = pure false := by rfl) (hw : swappedStores [.Subscript eo ei tpos] e X.env = pure none := by rfl)
    (hpg : PG X (.Subscript eo ei tpos) (gSub (WE X eo) (WE X ei) rSetL) := by exact pg_sub pe_w pe_w set_list) :
    AS X o0 o (.Assign [.Subscript eo ei tpos] e pos :: rest) D ds k H0 := fun st H S hk e0 fr =>
  wb_cons (wss (ps_asg pe_w hpg hs hw) (h st H _ S hk fun d k1 v H1 hr e1 hk1 h1 => hr st H1 _ (S.kp e1 hk) hk1 fun dc k2 u H2 hr e2 hk2 h2 => hr st H2 _ ((S.kp e1 hk).kp e2 hk1) hk2 fun di k3 w H3 hr e3 hk3 h3 => by
    obtain ⟨nd, i, j, s, rfl, rfl, hs', hj, hr⟩ := hr
    obtain ⟨a, rfl, ha⟩ := h2.uncel
    have hw' := h3.unint
    subst hw'
    obtain ⟨xs, hx, hd⟩ := hk3.at_ i a s ha hs'
    have hv := ((h1.kp e2 hk1).kp e3 hk2).unc (by cases d <;> first | rfl | cases nd)
    have S3 := ((S.kp e1 hk).kp e2 hk1).kp e3 hk2
    have hlx : j < xs.length := by rw [hd.1]; exact hj
    have hdv : DVs X.K o H3 (xs.set j v) (s.set j d) := by
      refine ⟨by rw [List.length_set, List.length_set]; exact hd.1, fun l y z ga gb => ?_⟩
      by_cases e : j = l
      · subst e
        rw [List.getElem?_set_self hlx] at ga
        rw [List.getElem?_set_self hj] at gb
        cases ga
        cases gb
        exact hv
      · rw [List.getElem?_set_ne e] at ga gb
        exact hd.2 l y z ga gb
    have nl : (s.set j d).all noL = true := List.all_eq_true.mpr fun z hz => by
      rcases List.mem_or_eq_of_mem_set hz with hz | rfl
      · exact List.all_eq_true.mp (hk3.nl s (List.mem_of_getElem? hs')) z hz
      · exact nd
    obtain ⟨hk4, e4⟩ := dk_set hk3 ha hdv nl
    exact ⟨a, xs, (j : Int), j, rfl, rfl, hx, ixN_nat hlx, hr st _ (S3.kp e4 hk3) hk4 (fr.kp (fr.kp (fr.kp (fr.kp e0 e1) e2) e3) e4) fr⟩))
end

/-! ### a def from its body -/
section
variable {P : Program} {w : World} {K : PySem.W.Frag} {mg : Str → Option Value} {base : Heap} {f : Addr} {fd : FuncData} {N ps : List Str} {k : Nat}
theorem sat_start {H : Hp} {o : Os} {vs : List V} {ds : List Dat} {m : Nat} (h : DTs K o H vs ds) (hm : N.length = ds.length + m) : Sat K o (L2.start N vs) H (ds.map some ++ List.replicate m none) := by
  refine ⟨?_, fun i d e => ?_⟩
  · unfold L2.start
    rw [List.length_append, List.length_map, List.length_replicate, List.length_append, List.length_map, List.length_replicate, h.1]
    omega
  · by_cases hi : i < ds.length
    · rw [List.getElem?_append_left (by rw [List.length_map]; exact hi), List.getElem?_map] at e
      cases q : ds[i]? with
      | none => rw [q] at e; cases e
      | some d' =>
        rw [q] at e
        have e' : d' = d := by simpa using e
        subst e'
        obtain ⟨v, h1, h2⟩ := h.at q
        refine ⟨v, ?_, h2⟩
        unfold L2.start
        rw [List.getElem?_append_left (by rw [List.length_map, h.1]; exact hi), List.getElem?_map, h1]
        rfl
    · rw [List.getElem?_append_right (by rw [List.length_map]; omega), List.getElem?_replicate] at e
      split at e <;> cases e
theorem dk_none {K : PySem.W.Frag} {H : Hp} : DK K [] [] H := DK.mk rfl (by simp) (fun s hs => absurd hs (by simp)) (fun i a as hi _ => absurd hi (by simp))
theorem frs_self {o : Os} {H : Hp} : Frs o o H := ⟨⟨[], by rw [List.append_nil]⟩, fun b hb nb => absurd hb nb⟩
theorem fn_P {x qual : Str} {st : Stmt} {F : FP} (Fn : Fun K x qual st f fd) (Sc : FnScope N ps (defScope st)) (len : ∀ ds G, F ds G → ds.length = ps.length)
    (hb : ∀ (cdv : Value) (A : Around) (outer : List Env) (s : Shared) (H : Hp) (Q : VK) (E : XK) (ds : List Dat) (G : Dat → Prop), Room k (A.deeper (envOfC qual (defScope st) s.heap.objs.size f cdv)) → F ds G → RetC K [] H Q (fun d _ => G d) →
      AS (cxOf CX0 P w K mg base N qual (defScope st) f cdv A outer s H E).nox [] [] (defBody st) { nx := fun _ H' => Q .non H', rt := Q } (ds.map some ++ List.replicate (N.length - ds.length) none) [] H) : FnOk P w K mg base CX0 (k + 1) f fd ps (spP K F) := by
  refine Fn.ok Sc (fun vs H Q E h => ?_) (fun cdv A outer s H vs Q E hr h => ⟨_, pss_w, ?_⟩)
  · obtain ⟨ds, G, h1, h2, _⟩ := h
    exact h1.1.trans (len ds G h2)
  · obtain ⟨ds, G, h1, h2, q⟩ := h
    have hN : ps.length ≤ N.length := by
      have e := congrArg List.length Sc.pre
      rw [List.length_take] at e
      omega
    refine hb cdv A outer s H Q E ds G hr h2 (fun d k' v H1 g e _ hv => q d g v H1 e hv) _ H (sat_start h1 ?_) dk_none (Kp.refl _ _) frs_self
    have := len ds G h2
    omega
theorem fn_N {x qual : Str} {st : Stmt} {F : FN} (Fn : Fun K x qual st f fd) (Sc : FnScope N ps (defScope st)) (len : ∀ ds G, F ds G → ds.length = ps.length)
    (hb : ∀ (cdv : Value) (A : Around) (outer : List Env) (s : Shared) (H : Hp) (Q : VK) (E : XK) (ds : List Dat) (G : List Dat → Prop), Room k (A.deeper (envOfC qual (defScope st) s.heap.objs.size f cdv)) → F ds G → RetN K [] H Q (fun d _ => G d) →
      AS (cxOf CX0 P w K mg base N qual (defScope st) f cdv A outer s H E).nox [] [] (defBody st) { nx := fun _ H' => Q .non H', rt := Q } (ds.map some ++ List.replicate (N.length - ds.length) none) [] H) : FnOk P w K mg base CX0 (k + 1) f fd ps (spN K F) := by
  refine Fn.ok Sc (fun vs H Q E h => ?_) (fun cdv A outer s H vs Q E hr h => ⟨_, pss_w, ?_⟩)
  · obtain ⟨ds, G, h1, h2, _⟩ := h
    exact h1.1.trans (len ds G h2)
  · obtain ⟨ds, G, h1, h2, q⟩ := h
    have hN : ps.length ≤ N.length := by
      have e := congrArg List.length Sc.pre
      rw [List.length_take] at e
      omega
    refine hb cdv A outer s H Q E ds G hr h2 (fun as k' p xs H1 g np _ e _ hp hv => q as g p xs H1 np e hp hv) _ H (sat_start h1 ?_) dk_none (Kp.refl _ _) frs_self
    have := len ds G h2
    omega
theorem fn_D {x qual : Str} {st : Stmt} {F : FD} (Fn : Fun K x qual st f fd) (Sc : FnScope N ps (defScope st)) (len : ∀ ds s G, F ds s G → ds.length + 1 = ps.length)
    (hb : ∀ (cdv : Value) (A : Around) (outer : List Env) (s : Shared) (H : Hp) (Q : VK) (E : XK) (a : Addr) (ds c : List Dat) (G : Dat → List Dat → Prop), Room k (A.deeper (envOfC qual (defScope st) s.heap.objs.size f cdv)) → F ds c G → RetC K [a] H Q (fun d k' => ∃ c', k' = [c'] ∧ G d c') →
      AS (cxOf CX0 P w K mg base N qual (defScope st) f cdv A outer s H E).nox [a] [a] (defBody st) { nx := fun _ H' => Q .non H', rt := Q } ((Dat.cel 0 :: ds).map some ++ List.replicate (N.length - (ds.length + 1)) none) [c] H) : FnOk P w K mg base CX0 (k + 1) f fd ps (spD K F) := by
  refine Fn.ok Sc (fun vs H Q E h => ?_) (fun cdv A outer s H vs Q E hr h => ⟨_, pss_w, ?_⟩)
  · obtain ⟨a, ws, ds, c, G, rfl, h0, h1, h2, _⟩ := h
    show ws.length + 1 = ps.length
    rw [h1.1]
    exact len ds c G h2
  · obtain ⟨a, ws, ds, c, G, rfl, h0, h1, h2, q⟩ := h
    have hN : ps.length ≤ N.length := by
      have e := congrArg List.length Sc.pre
      rw [List.length_take] at e
      omega
    refine hb cdv A outer s H Q E a ds c G hr h2 (fun d k' v H1 ⟨c', hc, g⟩ e hk hv => q d c' g v H1 e (hc ▸ hk) hv) _ H (sat_start (DTs.cons (.cel rfl) h1.dts) ?_) h0 (Kp.refl _ _) frs_self
    have := len ds c G h2
    show N.length = (ds.length + 1) + _
    omega
theorem fn_E {x qual : Str} {st : Stmt} {F : FE} (Fn : Fun K x qual st f fd) (Sc : FnScope N ps (defScope st)) (len : ∀ ds s G, F ds s G → ds.length + 1 = ps.length)
    (hb : ∀ (cdv : Value) (A : Around) (outer : List Env) (s : Shared) (H : Hp) (Q : VK) (E : XK) (a : Addr) (ds c : List Dat) (G : List Dat → List Dat → Prop), Room k (A.deeper (envOfC qual (defScope st) s.heap.objs.size f cdv)) → F ds c G → RetN K [a] H Q (fun d k' => ∃ c', k' = [c'] ∧ G d c') →
      AS (cxOf CX0 P w K mg base N qual (defScope st) f cdv A outer s H E).nox [a] [a] (defBody st) { nx := fun _ H' => Q .non H', rt := Q } ((Dat.cel 0 :: ds).map some ++ List.replicate (N.length - (ds.length + 1)) none) [c] H) : FnOk P w K mg base CX0 (k + 1) f fd ps (spE K F) := by
  refine Fn.ok Sc (fun vs H Q E h => ?_) (fun cdv A outer s H vs Q E hr h => ⟨_, pss_w, ?_⟩)
  · obtain ⟨a, ws, ds, c, G, rfl, h0, h1, h2, _⟩ := h
    show ws.length + 1 = ps.length
    rw [h1.1]
    exact len ds c G h2
  · obtain ⟨a, ws, ds, c, G, rfl, h0, h1, h2, q⟩ := h
    have hN : ps.length ≤ N.length := by
      have e := congrArg List.length Sc.pre
      rw [List.length_take] at e
      omega
    refine hb cdv A outer s H Q E a ds c G hr h2 (fun as k' p xs H1 ⟨c', hc, g⟩ np _ e hk hp hv => q as c' g p xs H1 np e (hc ▸ hk) hp hv) _ H (sat_start (DTs.cons (.cel rfl) h1.dts) ?_) h0 (Kp.refl _ _) frs_self
    have := len ds c G h2
    show N.length = (ds.length + 1) + _
    omega
end
end Wz

set_option Elab.async false
set_option linter.all false
set_option maxRecDepth 100000
set_option maxHeartbeats 4000000
namespace Wz
open PySem PySem.Spec PyProof.Rows L2 Evl
/-- a list that is no cell, or a tuple -/
@[reducible] def onL0 (d : Dat) (C : List Dat → Prop) : Prop := match d with | .lst as => C as | _ => False
theorem onL0_ex {d : Dat} {C : List Dat → Prop} (h : onL0 d C) : ∃ i, d = .lst i ∧ C i := by
  cases d <;> first | exact ⟨_, rfl, h⟩ | exact h.elim
/-- the end of a piece: J holds of what the names hold -/
def NX (X : Cx) (o0 o : Os) (H0 : Hp) (J : List (Option Dat) → Cs → Prop) : L2.St → Hp → Prop := fun st' H' => ∃ es q, J es q ∧ Sat X.K o st' H' es ∧ DK X.K o q H' ∧ Kp o0 H0 H' ∧ Frs o0 o H0
section
variable {X : Cx} {o0 o : Os} {ds : List (Option Dat)} {k k1 k2 : Cs} {e c a b elt : Expr} {es : List Expr} {d : Dat} {as : List Dat} {pos pos' p p1 p2 p3 : Pos} {rest body orelse : List Stmt} {D : Ends} {H0 : Hp} {R : Dat → Cs → Prop} {RN : List Dat → Cs → Prop} {x : Str}
theorem as_end {J : List (Option Dat) → Cs → Prop} (hD : D.nx = NX X o0 o H0 J) (j : J ds k) : AS X o0 o [] D ds k H0 := as_nil fun st H S hk e0 fr => by
  rw [hD]
  exact ⟨ds, k, j, S, hk, e0, fr⟩
theorem as_endL {J : List (Option Dat) → Cs → Prop} {l : Os} (hD : D.nx = NX X o0 o H0 J) (hf : ∃ l', o = o0 ++ l') (j : J (ds.map (lowC o.length)) (k.take o.length)) : AS X o0 (o ++ l) [] D ds k H0 := as_nil fun st H S hk e0 fr => by
  rw [hD]
  exact ⟨_, _, j, S.low, dk_take hk, e0, hf, fun b hb nb => fr.new b (List.mem_append_left _ hb) nb⟩
theorem as_cont {J : List (Option Dat) → Cs → Prop} (hD : D.ct = NX X o0 o H0 J) (j : J ds k) : AS X o0 o (.Continue pos :: rest) D ds k H0 := fun st H S hk e0 fr =>
  wb_cons (wss ps_continue (show D.ct st H by rw [hD]; exact ⟨ds, k, j, S, hk, e0, fr⟩))
theorem as_brk {J : List (Option Dat) → Cs → Prop} (hD : D.bk = NX X o0 o H0 J) (j : J ds k) : AS X o0 o (.Break pos :: rest) D ds k H0 := fun st H S hk e0 fr =>
  wb_cons (wss ps_break (show D.bk st H by rw [hD]; exact ⟨ds, k, j, S, hk, e0, fr⟩))
/-- while; B: at a break -/
theorem as_while {W : Nat → List (Option Dat) → Cs → Prop} {B : List (Option Dat) → Cs → Prop} (hp : PassesOwn (model X.prog X.w) X.A X.env X.xe) (m : Nat) (h0 : W m ds k)
    (hs : ∀ m es q, W m es q → EvT X o c es q fun b q1 => bc b (AS X o0 o body { D with nx := NX X o0 o H0 (fun es q => ∃ m', m' < m ∧ W m' es q), ct := NX X o0 o H0 (fun es q => ∃ m', m' < m ∧ W m' es q), bk := NX X o0 o H0 B } es q1 H0) (AS X o0 o rest D es q1 H0))
    (hB : ∀ es q, B es q → AS X o0 o rest D es q H0) : AS X o0 o (.While c body [] pos :: rest) D ds k H0 := fun st H S hk e0 fr =>
  wb_cons (wss (ps_while hp pt_w pss_w) (by
    refine ⟨fun m st H => ∃ es q, W m es q ∧ Sat X.K o st H es ∧ DK X.K o q H ∧ Kp o0 H0 H, ⟨m, ds, k, h0, S, hk, e0⟩, ?_⟩
    rintro m st H ⟨es, q, w, S, hk, e0⟩
    refine hs m es q w st H _ S hk fun b q1 H1 hb e1 hk1 => ?_
    cases b with
    | true =>
      rw [if_pos rfl]
      refine ⟨NX X o0 o H0 (fun es q => ∃ m', m' < m ∧ W m' es q), ?_, ?_⟩
      · rintro st' H' ⟨es', q', ⟨m', l, w'⟩, S', hk', e', _⟩
        exact ⟨m', l, es', q', w', S', hk', e'⟩
      · refine fun pins s I => thn (hb st H1 (S.kp e1 hk) hk1 (fr.kp e0 e1) fr pins s I) fun f s' hf => ?_
        cases f with
        | next => exact hf
        | cont => exact hf
        | ret u => exact hf
        | brk =>
          obtain ⟨σ', H', I', es', q', j, S', hk', e', fr'⟩ := hf
          exact ⟨σ', H', I', hB es' q' j σ' H' S' hk' e' fr'⟩
    | false =>
      rw [if_neg Bool.false_ne_true]
      exact hb st H1 (S.kp e1 hk) hk1 (fr.kp e0 e1) fr))
/-- what a def's end wants, seen from within a loop -/
theorem RetC.sub {K : PySem.W.Frag} {o0 o : Os} {H0 H1 : Hp} {rt : VK} {G : Dat → Cs → Prop} (h : RetC K o0 H0 rt G) (e : Kp o0 H0 H1) (fr : Frs o0 o H0) : RetC K o H1 rt (fun d k' => G d (k'.take o0.length)) := fun d k' v H2 g e2 hk hv => by
  have e' := fr.kp e e2
  obtain ⟨l, rfl⟩ := fr.pre
  exact h d _ v H2 g e' (dk_take hk) (hv.less fun b hb => List.mem_append_left _ hb)
theorem RetN.sub {K : PySem.W.Frag} {o0 o : Os} {H0 H1 : Hp} {rt : VK} {G : List Dat → Cs → Prop} (h : RetN K o0 H0 rt G) (e : Kp o0 H0 H1) (fr : Frs o0 o H0) : RetN K o H1 rt (fun d k' => G d (k'.take o0.length)) := fun as k' p xs H2 g np no e2 hk hp hv => by
  have e' := fr.kp e e2
  obtain ⟨l, rfl⟩ := fr.pre
  have no' : p ∉ o0 := fun z => no (List.mem_append_left _ z)
  have n0 : H0 p = none := by
    cases h0 : H0 p with
    | none => rfl
    | some u =>
      have := e p u no' h0
      rw [np] at this
      cases this
  exact h as _ p xs H2 g n0 no' e' (dk_take hk) hp (hv.less fun b hb => List.mem_append_left _ hb)
/-- the body of a for: a break's heap made right -/
theorem for_bk {H1 : Hp} {W : List (Option Dat) → Cs → Prop} {B : List (Option Dat) → Cs → Prop} {st : L2.St} {H : Hp} (e01 : Kp o0 H0 H1) (fr : Frs o0 o H0) (hB : ∀ es q, B es q → AS X o0 o rest D es q H0)
    (h : WB X body { D with nx := NX X o o H1 W, ct := NX X o o H1 W, bk := NX X o o H1 B } st H) : WB X body { D with nx := NX X o o H1 W, ct := NX X o o H1 W, bk := fun st' H' => WB X rest D st' H' } st H := fun pins s I => thn (h pins s I) fun f s' hf => by
  cases f with
  | next => exact hf
  | cont => exact hf
  | ret u => exact hf
  | brk =>
    obtain ⟨σ', H', I', es', q', j, S', hk', e', fr'⟩ := hf
    exact ⟨σ', H', I', hB es' q' j σ' H' S' hk' (fr.kp e01 e') fr⟩
/-- what a for over items wants: W by the turn, B at a break; H1: the heap at its start -/
structure ForW (X : Cx) (o0 o : Os) (H0 : Hp) (body rest : List Stmt) (D : Ends) (n : Nat) (it : Nat → Option Dat) (sl : Dat → List (Option Dat) → List (Option Dat)) (W : Nat → List (Option Dat) → Cs → Prop) (B : List (Option Dat) → Cs → Prop) : Prop where
  turn : ∀ H1, Kp o0 H0 H1 → Frs o0 o H0 → ∀ j d es q, j < n → it j = some d → W j es q → AS X o o body { D with nx := NX X o o H1 (W (j + 1)), ct := NX X o o H1 (W (j + 1)), bk := NX X o o H1 B } (sl d es) q H1
  done : ∀ es q, W n es q → AS X o0 o rest D es q H0
  brk : ∀ es q, B es q → AS X o0 o rest D es q H0
/-- for x in range(a) -/
theorem as_forR1 {i : Nat} {pos2 pos3 : Pos} (hN : X.N.Nodup) (hcalm : X.calm = true) (hp : PassesOwn (model X.prog X.w) X.A X.env X.xe) (hm : X.mg "range" = none)
    (h : EvA X o [a] ds k fun as k1 => ∃ (n : Int) (W : Nat → List (Option Dat) → Cs → Prop) (B : List (Option Dat) → Cs → Prop), as = [.int n] ∧ (-(2 ^ 62) ≤ n ∧ n < 2 ^ 62) ∧ W 0 ds k1 ∧ ForW X o0 o H0 body rest D n.toNat (fun j => some (.int (j : Int))) (fun d es => es.set i (some d)) W B)
    (hg : Gl X "range" := by rfl) (hi : X.N[i]? = some x := by rfl) (hx : Loc X.env.scope x := by exact Or.inl rfl) (hf : X.fn x = true ∨ X.env.scope.names.lookup x = some .local := by exact .inl rfl)
    (hst : starEach [a] X.env = [(false, eval a X.env)] := by rfl) (hset : ∀ y, foldedSetIterable (.Call (.Name "range" p) [a] [] pos2) X.env y = pure y := by intro _; rfl) :
    AS X o0 o (.For (.Name x pos3) (.Call (.Name "range" p) [a] [] pos2) body [] pos :: rest) D ds k H0 := fun st H S hk e0 fr =>
  wb_cons (wss (ps_for hp hcalm (pi_range1 hg hm pa_w hst) (pg_name hN hi hx hf) pss_w hset) (h st H _ S hk fun as k1 vs H1 hr e1 hk1 h1 => by
    obtain ⟨n, W, B, rfl, hn, h0, F⟩ := hr
    match vs, h1 with
    | [v], h1 =>
      have hv := (h1.2 0 _ _ rfl rfl).unint
      subst hv
      have e01 := fr.kp e0 e1
      refine ⟨n, rfl, hn.1, hn.2, for_range (lo := 0) (n := n.toNat) (fun j => NX X o o H1 (W j)) ⟨ds, k1, h0, S.kp e1 hk, hk1, Kp.refl _ _, frs_self⟩ ?_ ?_⟩
      · rintro j st' H' hj ⟨es, q, w, S', hk', e', fr'⟩
        have e00 : (0 : Int) + (j : Int) = (j : Int) := Int.zero_add _
        show WB X body _ (st'.set i (some (.int ((0 : Int) + (j : Int))))) H'
        rw [e00]
        exact for_bk e01 fr F.brk (F.turn H1 e01 fr j _ es q hj rfl w _ H' (S'.set (.v (.int _))) hk' e' fr')
      · rintro st' H' ⟨es, q, w, S', hk', e', fr'⟩
        exact F.done es q w st' H' S' hk' (fr.kp e01 e') fr))
/-- for x in range(a, b) -/
theorem as_forR2 {i : Nat} {pos2 pos3 : Pos} (hN : X.N.Nodup) (hcalm : X.calm = true) (hp : PassesOwn (model X.prog X.w) X.A X.env X.xe) (hm : X.mg "range" = none)
    (h : EvA X o [a, b] ds k fun as k1 => ∃ (n m : Int) (W : Nat → List (Option Dat) → Cs → Prop) (B : List (Option Dat) → Cs → Prop), as = [.int n, .int m] ∧ (-(2 ^ 62) ≤ n ∧ n < 2 ^ 62 ∧ -(2 ^ 62) ≤ m ∧ m < 2 ^ 62) ∧ W 0 ds k1 ∧ ForW X o0 o H0 body rest D (m - n).toNat (fun j => some (.int (n + (j : Int)))) (fun d es => es.set i (some d)) W B)
    (hg : Gl X "range" := by rfl) (hi : X.N[i]? = some x := by rfl) (hx : Loc X.env.scope x := by exact Or.inl rfl) (hf : X.fn x = true ∨ X.env.scope.names.lookup x = some .local := by exact .inl rfl)
    (hst : starEach [a, b] X.env = [(false, eval a X.env), (false, eval b X.env)] := by rfl) (hst2 : starEach [b] X.env = [(false, eval b X.env)] := by rfl) (hset : ∀ y, foldedSetIterable (.Call (.Name "range" p) [a, b] [] pos2) X.env y = pure y := by intro _; rfl) :
    AS X o0 o (.For (.Name x pos3) (.Call (.Name "range" p) [a, b] [] pos2) body [] pos :: rest) D ds k H0 := fun st H S hk e0 fr =>
  wb_cons (wss (ps_for hp hcalm (pi_range2 hg hm pa_w hst hst2) (pg_name hN hi hx hf) pss_w hset) (h st H _ S hk fun as k1 vs H1 hr e1 hk1 h1 => by
    obtain ⟨n, m, W, B, rfl, hn, h0, F⟩ := hr
    match vs, h1 with
    | [v, v'], h1 =>
      have hv := (h1.2 0 _ _ rfl rfl).unint
      have hv' := (h1.2 1 _ _ rfl rfl).unint
      subst hv hv'
      have e01 := fr.kp e0 e1
      refine ⟨n, m, rfl, hn, for_range (lo := n) (n := (m - n).toNat) (fun j => NX X o o H1 (W j)) ⟨ds, k1, h0, S.kp e1 hk, hk1, Kp.refl _ _, frs_self⟩ ?_ ?_⟩
      · rintro j st' H' hj ⟨es, q, w, S', hk', e', fr'⟩
        exact for_bk e01 fr F.brk (F.turn H1 e01 fr j _ es q hj rfl w _ H' (S'.set (.v (.int _))) hk' e' fr')
      · rintro st' H' ⟨es, q, w, S', hk', e', fr'⟩
        exact F.done es q w st' H' S' hk' (fr.kp e01 e') fr))
/-- for x in t, t a tuple -/
theorem as_forT {i : Nat} {pos3 : Pos} (hN : X.N.Nodup) (hcalm : X.calm = true) (hp : PassesOwn (model X.prog X.w) X.A X.env X.xe)
    (h : EvC X o e ds k fun d k1 => onT d fun as => ∃ (W : Nat → List (Option Dat) → Cs → Prop) (B : List (Option Dat) → Cs → Prop), W 0 ds k1 ∧ ForW X o0 o H0 body rest D as.length (fun j => as[j]?) (fun d es => es.set i (some d)) W B)
    (hi : X.N[i]? = some x := by rfl) (hx : Loc X.env.scope x := by exact Or.inl rfl) (hf : X.fn x = true ∨ X.env.scope.names.lookup x = some .local := by exact .inl rfl) (hset : ∀ y, foldedSetIterable e X.env y = pure y := by intro _; rfl) :
    AS X o0 o (.For (.Name x pos3) e body [] pos :: rest) D ds k H0 := fun st H S hk e0 fr =>
  wb_cons (wss (ps_for hp hcalm (pi_tup pe_w) (pg_name hN hi hx hf) pss_w hset) (h st H _ S hk fun d k1 v H1 hr e1 hk1 h1 => by
    obtain ⟨as, rfl, W, B, h0, F⟩ := onT_ex hr
    obtain ⟨t, xs, rfl, hs, hd⟩ := h1.untup
    have e01 := fr.kp e0 e1
    refine ⟨t, rfl, ⟨xs, hs⟩, for_tup (xs := xs) (fun j => NX X o o H1 (W j)) ⟨ds, k1, h0, S.kp e1 hk, hk1, Kp.refl _ _, frs_self⟩ (fun _ _ H' _ ⟨_, _, _, _, _, e', _⟩ => kp_t e' hk1 hs) ?_ ?_⟩
    · rintro j y st' H' hy ⟨es, q, w, S', hk', e', fr'⟩
      have hj : j < as.length := by
        rw [← hd.1]
        exact (List.getElem?_eq_some_iff.mp hy).1
      have hda : as[j]? = some as[j] := List.getElem?_eq_getElem hj
      have hyd := (hd.2 j y _ hy hda).kp e' hk1
      exact for_bk e01 fr F.brk (F.turn H1 e01 fr j _ es q hj hda w _ H' (S'.set (.v hyd)) hk' e' fr')
    · rintro st' H' ⟨es, q, w, S', hk', e', fr'⟩
      exact F.done es q (by rw [hd.1] at w; exact w) st' H' S' hk' (fr.kp e01 e') fr))
/-- for x in xs, a list that is no cell -/
theorem as_forL {i : Nat} {pos3 : Pos} (hN : X.N.Nodup) (hcalm : X.calm = true) (hp : PassesOwn (model X.prog X.w) X.A X.env X.xe)
    (h : EvC X o e ds k fun d k1 => onL0 d fun as => ∃ (W : Nat → List (Option Dat) → Cs → Prop) (B : List (Option Dat) → Cs → Prop), W 0 ds k1 ∧ ForW X o0 o H0 body rest D as.length (fun j => as[j]?) (fun d es => es.set i (some d)) W B)
    (hi : X.N[i]? = some x := by rfl) (hx : Loc X.env.scope x := by exact Or.inl rfl) (hf : X.fn x = true ∨ X.env.scope.names.lookup x = some .local := by exact .inl rfl) (hset : ∀ y, foldedSetIterable e X.env y = pure y := by intro _; rfl) :
    AS X o0 o (.For (.Name x pos3) e body [] pos :: rest) D ds k H0 := fun st H S hk e0 fr =>
  wb_cons (wss (ps_for hp hcalm (pi_list pe_w) (pg_name hN hi hx hf) pss_w hset) (h st H _ S hk fun d k1 v H1 hr e1 hk1 h1 => by
    obtain ⟨as, rfl, W, B, h0, F⟩ := onL0_ex hr
    obtain ⟨t, xs, rfl, hs, hd⟩ := h1.unlst
    have e01 := fr.kp e0 e1
    refine ⟨t, rfl, ⟨xs, hs.sq⟩, for_list (xs := xs) (fun j => NX X o o H1 (W j)) ⟨ds, k1, h0, S.kp e1 hk, hk1, Kp.refl _ _, frs_self⟩ (fun _ _ H' _ ⟨_, _, _, _, _, e', _⟩ => (hs.kp e' fun _ z => z).sq) ?_ ?_⟩
    · rintro j y st' H' hy ⟨es, q, w, S', hk', e', fr'⟩
      have hj : j < as.length := by
        rw [← hd.1]
        exact (List.getElem?_eq_some_iff.mp hy).1
      have hda : as[j]? = some as[j] := List.getElem?_eq_getElem hj
      have hyd := (hd.2 j y _ hy hda).kp e' hk1
      exact for_bk e01 fr F.brk (F.turn H1 e01 fr j _ es q hj hda w _ H' (S'.set (.v hyd)) hk' e' fr')
    · rintro st' H' ⟨es, q, w, S', hk', e', fr'⟩
      exact F.done es q (by rw [hd.1] at w; exact w) st' H' S' hk' (fr.kp e01 e') fr))
end
end Wz

set_option Elab.async false
set_option linter.all false
set_option maxRecDepth 100000
set_option maxHeartbeats 4000000
namespace Wz
open PySem PySem.Spec PyProof.Rows L2 Evl
section
variable {X : Cx} {o0 o : Os} {ds : List (Option Dat)} {k k1 k2 : Cs} {e c a b elt e1 e2 e3 : Expr} {es : List Expr} {d : Dat} {as : List Dat} {pos pos' p p1 p2 p3 : Pos} {rest body orelse : List Stmt} {D : Ends} {H0 : Hp} {R : Dat → Cs → Prop} {RT : Bool → Cs → Prop} {RN : List Dat → Cs → Prop} {x : Str}
/-! built-ins by value -/
theorem c_bif {id : String} {r : List V → Hp → VK → Prop} (hc : CallR X (.builtin id) r) (hm : X.mg x = none) (hv : bootBuiltins x = some (.builtin id)) (h : EvA X o (e :: es) ds k fun as k1 => ∀ vs H Q, DTs X.K o H vs as → DK X.K o k1 H → (∀ d v H', R d k1 → Ex H H' → DT X.K o H' v d → Q v H') → r vs H Q)
    (hg : Gl X x := by rfl) (hn : x ≠ "__name__" := by decide) (hdb : (x == ("__debug__" : Str)) = false := by decide) (he : starEach (e :: es) X.env = (false, eval e X.env) :: starEach es X.env := by rfl) (hpl : (backTo pos (starEach es X.env)).any (·.1) = false := by rfl) :
    EvC X o (.Call (.Name x p) (e :: es) [] pos) ds k R := fun st H Q St hk q =>
  we (pe_callB hc hg hm hv pa_w hn hdb he hpl) (h st H _ St hk fun as k1 vs H1 hx e1 hk1 h1 => hx vs H1 Q h1 hk1 fun d v H2 hr ex h2 => q d k1 v H2 hr (e1.trans (Kp.of_ex ex)) (hk1.ex ex) h2)
theorem c_bty {T : String} {r : List V → Hp → VK → Prop} (hc : CallR X (.type T) r) (hm : X.mg x = none) (hv : bootBuiltins x = some (.type T)) (h : EvA X o (e :: es) ds k fun as k1 => ∀ vs H Q, DTs X.K o H vs as → DK X.K o k1 H → (∀ d v H', R d k1 → Ex H H' → DT X.K o H' v d → Q v H') → r vs H Q)
    (hg : Gl X x := by rfl) (hn : x ≠ "__name__" := by decide) (hdb : (x == ("__debug__" : Str)) = false := by decide) (he : starEach (e :: es) X.env = (false, eval e X.env) :: starEach es X.env := by rfl) (hpl : (backTo pos (starEach es X.env)).any (·.1) = false := by rfl) :
    EvC X o (.Call (.Name x p) (e :: es) [] pos) ds k R := fun st H Q St hk q =>
  we (pe_callTy hc hg hm hv pa_w hn hdb he hpl) (h st H _ St hk fun as k1 vs H1 hx e1 hk1 h1 => hx vs H1 Q h1 hk1 fun d v H2 hr ex h2 => q d k1 v H2 hr (e1.trans (Kp.of_ex ex)) (hk1.ex ex) h2)
theorem dts1 {K : PySem.W.Frag} {H : Hp} {vs : List V} {d1 : Dat} (h : DTs K o H vs [d1]) : ∃ v1, vs = [v1] ∧ DT K o H v1 d1 := by
  match vs, h with
  | [v1], h => exact ⟨v1, rfl, h.2 0 v1 d1 rfl rfl⟩
theorem dts2 {K : PySem.W.Frag} {H : Hp} {vs : List V} {d1 d2 : Dat} (h : DTs K o H vs [d1, d2]) : ∃ v1 v2, vs = [v1, v2] ∧ DT K o H v1 d1 ∧ DT K o H v2 d2 := by
  match vs, h with
  | [v1, v2], h => exact ⟨v1, v2, rfl, h.2 0 v1 d1 rfl rfl, h.2 1 v2 d2 rfl rfl⟩
theorem dts3 {K : PySem.W.Frag} {H : Hp} {vs : List V} {d1 d2 d3 : Dat} (h : DTs K o H vs [d1, d2, d3]) : ∃ v1 v2 v3, vs = [v1, v2, v3] ∧ DT K o H v1 d1 ∧ DT K o H v2 d2 ∧ DT K o H v3 d3 := by
  match vs, h with
  | [v1, v2, v3], h => exact ⟨v1, v2, v3, rfl, h.2 0 v1 d1 rfl rfl, h.2 1 v2 d2 rfl rfl, h.2 2 v3 d3 rfl rfl⟩
@[reducible] def on1 (as : List Dat) (C : Dat → Prop) : Prop := match as with | [d] => C d | _ => False
@[reducible] def on2 (as : List Dat) (C : Dat → Dat → Prop) : Prop := match as with | [d, e] => C d e | _ => False
theorem on1_ex {as : List Dat} {C : Dat → Prop} (h : on1 as C) : ∃ d, as = [d] ∧ C d := by
  match as, h with
  | [d], h => exact ⟨d, rfl, h⟩
theorem on2_ex {as : List Dat} {C : Dat → Dat → Prop} (h : on2 as C) : ∃ d e, as = [d, e] ∧ C d e := by
  match as, h with
  | [d, e], h => exact ⟨d, e, rfl, h⟩
theorem c_abs (hm : X.mg "abs" = none) (h : EvA X o [e] ds k fun as k1 => on1 as fun d => onI d fun i => R (.int (if i < 0 then -i else i)) k1) (hg : Gl X "abs" := by rfl) (he : starEach [e] X.env = (false, eval e X.env) :: starEach [] X.env := by rfl) : EvC X o (.Call (.Name "abs" p) [e] [] pos) ds k R :=
  c_bif call_abs hm (by decide +kernel) (h.mono fun as k1 ha vs H Q h1 _ q => by
    obtain ⟨d, rfl, ha⟩ := on1_ex ha
    obtain ⟨i, rfl, ha⟩ := onI_ex ha
    obtain ⟨v, rfl, g1⟩ := dts1 h1
    have q1 := g1.unint
    subst q1
    exact ⟨i, rfl, q _ _ H ha (Ex.refl _) (.v (.int _))⟩) hg (by decide) (by decide) he
theorem c_max (hc : X.calm = true) (hm : X.mg "max" = none) (h : EvA X o [e, e2] ds k fun as k1 => on2 as fun d1 d2 => onI d1 fun i => onI d2 fun j => R (.int (if j > i then j else i)) k1) (hg : Gl X "max" := by rfl) (he : starEach [e, e2] X.env = (false, eval e X.env) :: starEach [e2] X.env := by rfl) (hpl : (backTo pos (starEach [e2] X.env)).any (·.1) = false := by rfl) : EvC X o (.Call (.Name "max" p) [e, e2] [] pos) ds k R :=
  c_bif (call_max2 hc) hm (by decide +kernel) (h.mono fun as k1 ha vs H Q h1 _ q => by
    obtain ⟨d1, d2, rfl, ha⟩ := on2_ex ha
    obtain ⟨i, j, rfl, rfl, ha⟩ := onII_ex ha
    obtain ⟨v, w, rfl, g1, g2⟩ := dts2 h1
    have q1 := g1.unint
    have q2 := g2.unint
    subst q1 q2
    exact ⟨i, j, rfl, q _ _ H ha (Ex.refl _) (.v (.int _))⟩) hg (by decide) (by decide) he hpl
theorem c_min (hc : X.calm = true) (hm : X.mg "min" = none) (h : EvA X o [e, e2] ds k fun as k1 => on2 as fun d1 d2 => onI d1 fun i => onI d2 fun j => R (.int (if j < i then j else i)) k1) (hg : Gl X "min" := by rfl) (he : starEach [e, e2] X.env = (false, eval e X.env) :: starEach [e2] X.env := by rfl) (hpl : (backTo pos (starEach [e2] X.env)).any (·.1) = false := by rfl) : EvC X o (.Call (.Name "min" p) [e, e2] [] pos) ds k R :=
  c_bif (call_min2 hc) hm (by decide +kernel) (h.mono fun as k1 ha vs H Q h1 _ q => by
    obtain ⟨d1, d2, rfl, ha⟩ := on2_ex ha
    obtain ⟨i, j, rfl, rfl, ha⟩ := onII_ex ha
    obtain ⟨v, w, rfl, g1, g2⟩ := dts2 h1
    have q1 := g1.unint
    have q2 := g2.unint
    subst q1 q2
    exact ⟨i, j, rfl, q _ _ H ha (Ex.refl _) (.v (.int _))⟩) hg (by decide) (by decide) he hpl
theorem c_lenT (hm : X.mg "len" = none) (h : EvA X o [e] ds k fun as k1 => on1 as fun d => onT d fun xs => R (.int (xs.length : Int)) k1) (hg : Gl X "len" := by rfl) (he : starEach [e] X.env = (false, eval e X.env) :: starEach [] X.env := by rfl) : EvC X o (.Call (.Name "len" p) [e] [] pos) ds k R :=
  c_bif call_len_seq hm PySem.boot_len (h.mono fun as k1 ha vs H Q h1 _ q => by
    obtain ⟨d, rfl, ha⟩ := on1_ex ha
    obtain ⟨xs, rfl, ha⟩ := onT_ex ha
    obtain ⟨v, rfl, g1⟩ := dts1 h1
    obtain ⟨a, ys, rfl, hs, hl⟩ := g1.untup
    exact ⟨a, ys, rfl, .inr hs, by rw [hl.1]; exact q _ _ H ha (Ex.refl _) (.v (.int _))⟩) hg (by decide) (by decide) he
theorem c_lenL (hm : X.mg "len" = none) (h : EvA X o [e] ds k fun as k1 => on1 as fun d => onL k1 d fun xs => R (.int (xs.length : Int)) k1) (hg : Gl X "len" := by rfl) (he : starEach [e] X.env = (false, eval e X.env) :: starEach [] X.env := by rfl) : EvC X o (.Call (.Name "len" p) [e] [] pos) ds k R :=
  c_bif call_len_seq hm PySem.boot_len (h.mono fun as k1 ha vs H Q h1 hk q => by
    obtain ⟨d, rfl, ha⟩ := on1_ex ha
    obtain ⟨v, rfl, g1⟩ := dts1 h1
    obtain ⟨p, ys, xs, rfl, hs, hl, ha⟩ := onL_ex hk ha g1
    exact ⟨p, ys, rfl, .inl hs, by rw [hl.1]; exact q _ _ H ha (Ex.refl _) (.v (.int _))⟩) hg (by decide) (by decide) he
theorem c_intI (hm : X.mg "int" = none) (h : EvA X o [e] ds k fun as k1 => on1 as fun d => onI d fun i => R (.int i) k1) (hg : Gl X "int" := by rfl) (he : starEach [e] X.env = (false, eval e X.env) :: starEach [] X.env := by rfl) : EvC X o (.Call (.Name "int" p) [e] [] pos) ds k R :=
  c_bty call_int1 hm (by decide +kernel) (h.mono fun as k1 ha vs H Q h1 _ q => by
    obtain ⟨d, rfl, ha⟩ := on1_ex ha
    obtain ⟨i, rfl, ha⟩ := onI_ex ha
    obtain ⟨v, rfl, g1⟩ := dts1 h1
    have q1 := g1.unint
    subst q1
    exact Or.inl ⟨i, rfl, q _ _ H ha (Ex.refl _) (.v (.int _))⟩) hg (by decide) (by decide) he
theorem c_intB (hm : X.mg "int" = none) (h : EvA X o [e] ds k fun as k1 => on1 as fun d => onB d fun i => R (.int (if i then 1 else 0)) k1) (hg : Gl X "int" := by rfl) (he : starEach [e] X.env = (false, eval e X.env) :: starEach [] X.env := by rfl) : EvC X o (.Call (.Name "int" p) [e] [] pos) ds k R :=
  c_bty call_int1 hm (by decide +kernel) (h.mono fun as k1 ha vs H Q h1 _ q => by
    obtain ⟨d, rfl, ha⟩ := on1_ex ha
    obtain ⟨i, rfl, ha⟩ := onB_ex ha
    obtain ⟨v, rfl, g1⟩ := dts1 h1
    have q1 := g1.unbl
    subst q1
    exact Or.inr ⟨i, rfl, q _ _ H ha (Ex.refl _) (.v (.int _))⟩) hg (by decide) (by decide) he
/-- int of a comparison of ints -/
theorem c_ty {T : String} (hm : X.mg x = none) (hv : bootBuiltins x = some (.type T)) (hR : R (.raw (.ty T)) k) (hg : Gl X x := by rfl) (hn : x ≠ "__name__" := by decide) (hd : (x == ("__debug__" : Str)) = false := by decide) : EvC X o (.Name x pos) ds k R := fun st H Q St hk q =>
  we (pe_bltn hg hm hv (v := .ty T) rfl hn hd) (q _ _ _ H hR (Kp.refl _ _) hk (.v (.raw _)))
/-- a module's tuple -/
structure KT (K : PySem.W.Frag) (mg : Str → Option Value) (x : Str) (as : List Dat) : Prop where
  ex : ∃ (C : Addr) (xs : List V), mg x = some (.ref C) ∧ (∀ H, SqT K H C xs) ∧ ∀ o H, DVs K o H xs as
theorem c_kt (t : KT X.K X.mg x as) (hR : R (.tup as) k) (hg : Gl X x := by rfl) (hd : (x == ("__debug__" : Str)) = false := by decide) : EvC X o (.Name x pos) ds k R := fun st H Q St hk q => by
  obtain ⟨C, xs, hm, h1, h2⟩ := t.ex
  exact we (pe_glob hg hm (v := .ref C) rfl hd) (q _ _ _ H hR (Kp.refl _ _) hk (.v (.tup' (h1 H) (h2 o H))))
/-! isinstance -/
@[reducible] def tyN (k : Cs) : Dat → Option String
  | .non => some "NoneType"
  | .bl _ => some "bool"
  | .int _ => some "int"
  | .str _ => some "str"
  | .tup _ => some "tuple"
  | .lst _ => some "list"
  | .cel _ => some "list"
  | .raw _ => none
theorem ty_x {K : PySem.W.Frag} {H : Hp} {v : V} {T : String} (hk : DK K o k H) (t : tyN k d = some T) (h : DT K o H v d) : TyX K H v (.type T) := by
  cases h with
  | cel hi =>
    cases t
    have hm := List.mem_of_getElem? hi
    obtain ⟨xs, hx⟩ := hk.cell hm
    exact .base (.lst hx)
  | v h =>
    cases h with
    | non => cases t; exact .base .non
    | bl b => cases t; exact .base (.bl b)
    | int i => cases t; exact .base (.int i)
    | str z => cases t; exact .base (.str z)
    | tup hs _ _ =>
      cases t
      rcases hs with (hs | ⟨ob, hs⟩) | ⟨ob, its, n, h1, h2, _⟩
      · exact .base (.tup hs)
      · exact .fTuple hs
      · exact .kTuple h1 h2
    | lst hs _ _ =>
      cases t
      rcases hs with ⟨hs | ⟨ob, hs⟩, _⟩ | ⟨ob, its, n, h1, h2, _⟩
      · exact .base (.lst hs)
      · exact .base (.frz hs)
      · exact .kList h1 h2
    | raw v => cases t
theorem kit2 {K : PySem.W.Frag} {T U1 U2 : String} {b1 b2 : Bool} (h1 : kitB T U1 = some b1) (h2 : kitB T U2 = some b2) : PySem.W.kitAny K (.type T) [.type U1, .type U2] = some (b1 || b2) := by
  refine kitAny_cons (kit_ty h1) (fun e => ?_) (fun e => by rw [e]; rfl)
  rw [e, Bool.false_or]
  refine kitAny_cons (kit_ty h2) (fun e => ?_) (fun e => e)
  rw [kitAny_nil, e]
theorem kit3 {K : PySem.W.Frag} {T U1 U2 U3 : String} {b1 b2 b3 : Bool} (h1 : kitB T U1 = some b1) (h2 : kitB T U2 = some b2) (h3 : kitB T U3 = some b3) : PySem.W.kitAny K (.type T) [.type U1, .type U2, .type U3] = some (b1 || (b2 || b3)) := by
  refine kitAny_cons (kit_ty h1) (fun e => ?_) (fun e => by rw [e]; rfl)
  rw [e, Bool.false_or]
  exact kit2 h2 h3
/-- isinstance(e, T) -/
@[reducible] def isT (U : String) : Dat → Bool
  | .bl _ => U == "bool" || U == "int"
  | .int _ => U == "int"
  | .str _ => U == "str"
  | .tup _ => U == "tuple"
  | .lst _ => U == "list"
  | .cel _ => U == "list"
  | _ => false
theorem c_isi {U : String} (hm : X.mg "isinstance" = none) (h : EvA X o [e1, e2] ds k fun as k1 => on2 as fun d1 d2 => d2 = .raw (.ty U) ∧ ∃ T b, tyN k1 d1 = some T ∧ kitB T U = some b ∧ R (.bl b) k1) (hg : Gl X "isinstance" := by rfl) (he : starEach [e1, e2] X.env = (false, eval e1 X.env) :: starEach [e2] X.env := by rfl)
    (hpl : (backTo pos (starEach [e2] X.env)).any (·.1) = false := by rfl) : EvC X o (.Call (.Name "isinstance" p) [e1, e2] [] pos) ds k R :=
  c_bif call_isi hm (by decide +kernel) (h.mono fun as k1 ha vs H Q h1 hk q => by
    obtain ⟨d1, d2, rfl, rfl, T, b, hT, hb, ha⟩ := on2_ex ha
    obtain ⟨v, w, rfl, g1, g2⟩ := dts2 h1
    have q2 := g2.unraw
    subst q2
    exact ⟨v, .ty U, _, _, b, rfl, .ty U, ty_x hk hT g1, kit_ty hb, q _ _ H ha (Ex.refl _) (.v (.bl _))⟩) hg (by decide) (by decide) he hpl
/-- isinstance(e, (T1, T2)) -/
theorem c_isi2 {U1 U2 : String} {n1 n2 : Str} {p1 p2 p3 : Pos} {cx : Nat} (hm : X.mg "isinstance" = none) (hm1 : X.mg n1 = none) (hv1 : bootBuiltins n1 = some (.type U1)) (hm2 : X.mg n2 = none) (hv2 : bootBuiltins n2 = some (.type U2))
    (h : EvC X o e1 ds k fun d k1 => ∃ T b1 b2, tyN k1 d = some T ∧ kitB T U1 = some b1 ∧ kitB T U2 = some b2 ∧ R (.bl (b1 || b2)) k1) (hg : Gl X "isinstance" := by rfl) (hg1 : Gl X n1 := by rfl) (hg2 : Gl X n2 := by rfl) (hn1 : n1 ≠ "__name__" := by decide) (hn2 : n2 ≠ "__name__" := by decide) (hd1 : (n1 == ("__debug__" : Str)) = false := by decide) (hd2 : (n2 == ("__debug__" : Str)) = false := by decide)
    (he : starEach [e1, .Tuple [.Name n1 p1, .Name n2 p2] cx p3] X.env = (false, eval e1 X.env) :: starEach [.Tuple [.Name n1 p1, .Name n2 p2] cx p3] X.env := by rfl)
    (hpl : (backTo pos (starEach [.Tuple [.Name n1 p1, .Name n2 p2] cx p3] X.env)).any (·.1) = false := by rfl) : EvC X o (.Call (.Name "isinstance" p) [e1, .Tuple [.Name n1 p1, .Name n2 p2] cx p3] [] pos) ds k R := fun st H Q St hk q =>
  we (pe_callB call_isiT hg hm (by decide +kernel) (pa_cons pe_w (pa_cons (pe_tup (pa_cons (pe_bltn hg1 hm1 hv1 (v := .ty U1) rfl hn1 hd1) (pa_cons (pe_bltn hg2 hm2 hv2 (v := .ty U2) rfl hn2 hd2) pa_nil))) pa_nil) he) (by decide) (by decide) he hpl) (h st H _ St hk fun d k1 v H1 hr ex hk1 h1 => by
    refine ⟨by show 2 ≤ sizeLine; decide, fun tp np => ?_⟩
    obtain ⟨T, b1, b2, hT, hb1, hb2, hr⟩ := hr
    have e2 := Kp.of_ex (o := o) (Ex.new (o := .tup [.ty U1, .ty U2]) np)
    have hk2 := hk1.ex (Ex.new (o := .tup [.ty U1, .ty U2]) np)
    exact ⟨v, tp, [.ty U1, .ty U2], _, [.type U1, .type U2], _, rfl, upd_same, .cons (.ty U1) (.cons (.ty U2) .nil), ty_x hk2 hT (h1.kp e2 hk1), kit2 hb1 hb2, q _ k1 _ _ hr (ex.trans e2) hk2 (.v (.bl _))⟩)
/-! slices of tuples and lists, t + u, xs + ys -/
theorem cutV_map {α β : Type} (xs : List α) (lo hi : Option Int) : True := trivial
def cutD (xs : List Dat) (lo hi : Option Int) : List Dat := (xs.drop (HT.sIx xs.length 0 lo)).take (HT.sIx xs.length xs.length hi - HT.sIx xs.length 0 lo)
theorem DVs.cut {K : PySem.W.Frag} {H : Hp} {vs : List V} {ds : List Dat} (h : DVs K o H vs ds) (lo hi : Option Int) : DVs K o H (cutV vs lo hi) (cutD ds lo hi) := by
  unfold cutV cutD
  rw [h.1]
  refine ⟨by rw [List.length_take, List.length_drop, List.length_take, List.length_drop, h.1], fun i v d a b => ?_⟩
  rw [List.getElem?_take] at a b
  split at a
  · rename_i hi'
    rw [if_pos hi'] at b
    rw [List.getElem?_drop] at a b
    exact h.2 _ v d a b
  · cases a
def WO (X : Cx) (oe : Option Expr) (st : L2.St) (H : Hp) (Q : Option Int → Hp → Prop) : Prop := ∀ (pins : List (Addr × Obj)) (s : Shared), Inv X pins st H s →
    wpAny (model X.prog X.w) X.A (evalPart oe X.env) (fun u s' => ∃ o H', Inv X pins st H' s' ∧ IsPart u o ∧ Q o H') X.xe s
theorem po_w {oe : Option Expr} : PO X oe (WO X oe) := ⟨fun pins s _ _ _ I h => h pins s I⟩
theorem wo {oe : Option Expr} {t : TO} (h : PO X oe t) {st : L2.St} {H : Hp} {Q : Option Int → Hp → Prop} (q : t st H Q) : WO X oe st H Q := fun pins s I => h.run pins s st H Q I q
/-- a part of a slice -/
def EvO (X : Cx) (o : Os) (oe : Option Expr) (ds : List (Option Dat)) (k : Cs) (R : Option Int → Cs → Prop) : Prop :=
  ∀ st H Q, Sat X.K o st H ds → DK X.K o k H → (∀ l k' H', R l k' → Kp o H H' → DK X.K o k' H' → Q l H') → WO X oe st H Q
theorem o_none {RO : Option Int → Cs → Prop} (h : RO none k) : EvO X o none ds k RO := fun st H Q S hk q => wo po_none (q none k H h (Kp.refl _ _) hk)
theorem o_some {RO : Option Int → Cs → Prop} (h : EvC X o e ds k fun d k1 => onI d fun i => RO (some i) k1) : EvO X o (some e) ds k RO := fun st H Q S hk q => wo (po_some pe_w) (h st H _ S hk fun d k1 v H1 hr e1 hk1 h1 => by
  obtain ⟨i, rfl, hr⟩ := onI_ex hr
  exact ⟨i, h1.unint, q _ k1 H1 hr e1 hk1⟩)
theorem cutD_all {ds : List Dat} {lo hi : Option Int} (h : HT.sIx ds.length 0 lo = 0 ∧ HT.sIx ds.length ds.length hi = ds.length) : cutD ds lo hi = ds := by
  unfold cutD
  rw [h.1, h.2, List.drop_zero, Nat.sub_zero, List.take_length]
theorem c_cutT {lo hi : Option Expr} (h : EvC X o e ds k fun d k1 => EvO X o lo ds k1 fun l k2 => EvO X o hi ds k2 fun u k3 => onT d fun as => R (.tup (cutD as l u)) k3) : EvC X o (.Subscript e (.Slice lo hi none p2) pos) ds k R := fun st H Q S hk q =>
  we (pe_slice sl_tupA pe_w po_w po_w) (h st H _ S hk fun d k1 v H1 hr e1 hk1 h1 => hr st H1 _ (S.kp e1 hk) hk1 fun l k2 H2 hr e2 hk2 => hr st H2 _ ((S.kp e1 hk).kp e2 hk1) hk2 fun u k3 H3 hr e3 hk3 => by
    obtain ⟨as, rfl, hr'⟩ := onT_ex hr
    obtain ⟨a, xs, rfl, hs, hd⟩ := ((h1.kp e2 hk1).kp e3 hk2).untup
    refine ⟨a, xs, rfl, hs, fun hw => ?_, fun hw p np => ?_⟩
    · rw [hd.1] at hw
      rw [cutD_all hw] at hr'
      exact q _ k3 _ H3 hr' ((e1.trans e2).trans e3) hk3 (.v (.tup' hs hd))
    · have e4 := Kp.of_ex (o := o) (Ex.new (o := .tup (cutV xs l u)) np)
      exact q _ k3 _ _ hr' (((e1.trans e2).trans e3).trans e4) (hk3.ex (Ex.new np)) (.v (.tup' (.inl (.inl upd_same)) ((hd.cut l u).kp e4 hk3))))
theorem n_cutL {lo hi : Option Expr} (h : EvC X o e ds k fun d k1 => EvO X o lo ds k1 fun l k2 => EvO X o hi ds k2 fun u k3 => onL k3 d fun as => RN (cutD as l u) k3) : EvN X o (.Subscript e (.Slice lo hi none p2) pos) ds k RN := fun st H Q S hk q =>
  we (pe_slice sl_list pe_w po_w po_w) (h st H _ S hk fun d k1 v H1 hr e1 hk1 h1 => hr st H1 _ (S.kp e1 hk) hk1 fun l k2 H2 hr e2 hk2 => hr st H2 _ ((S.kp e1 hk).kp e2 hk1) hk2 fun u k3 H3 hr e3 hk3 => by
    obtain ⟨a, xs, as, rfl, hs, hd, hr⟩ := onL_ex hk3 hr ((h1.kp e2 hk1).kp e3 hk2)
    refine ⟨a, xs, rfl, hs, fun p np => ?_⟩
    have e4 := Kp.of_ex (o := o) (Ex.new (o := .lst (cutV xs l u)) np)
    exact q _ k3 _ _ _ hr (fresh_back ((e1.trans e2).trans e3) hk3 np) (((e1.trans e2).trans e3).trans e4) (hk3.ex (Ex.new np)) upd_same ((hd.cut l u).kp e4 hk3))
theorem c_catT (h : EvC X o a ds k fun x k1 => EvC X o b ds k1 fun y k2 => onT x fun as => onT y fun bs => as.length + bs.length ≤ 1000 ∧ R (.tup (as ++ bs)) k2) : EvC X o (.BinOp a .Add b pos) ds k R := fun st H Q S hk q =>
  we (pe_op op_catA pe_w pe_w) (h st H _ S hk fun x k1 v H1 hx e1 hk1 h1 => hx st H1 _ (S.kp e1 hk) hk1 fun y k2 w H2 hy e2 hk2 h2 => by
    obtain ⟨as, rfl, hz⟩ := onT_ex hy
    obtain ⟨bs, rfl, hl, hr⟩ := onT_ex hz
    obtain ⟨pa, xs, rfl, hs, hd⟩ := (h1.kp e2 hk1).untup
    obtain ⟨pb, ys, rfl, hs2, hd2⟩ := h2.untup
    have e12 := e1.trans e2
    refine ⟨pa, pb, xs, ys, rfl, rfl, hs, hs2, ?_, fun hx => ?_, fun _ hy => ?_, fun _ _ p np => ?_⟩
    · rw [hd.1, hd2.1]
      exact Nat.le_trans hl (by decide)
    · have : as = [] := List.eq_nil_of_length_eq_zero (by rw [← hd.1, hx]; rfl)
      subst this
      exact q _ k2 _ H2 hr e12 hk2 (.v (.tup' hs2 hd2))
    · have : bs = [] := List.eq_nil_of_length_eq_zero (by rw [← hd2.1, hy]; rfl)
      subst this
      rw [List.append_nil] at hr
      exact q _ k2 _ H2 hr e12 hk2 (.v (.tup' hs hd))
    · have e4 := Kp.of_ex (o := o) (Ex.new (o := .tup (xs ++ ys)) np)
      exact q _ k2 _ _ hr (e12.trans e4) (hk2.ex (Ex.new np)) (.v (.tup' (.inl (.inl upd_same)) ((hd.append hd2).kp e4 hk2))))
def rCatR (K : PySem.W.Frag) : R2 := fun x y H Q => ∃ l b xs zs, x = .ref l ∧ y = .ref b ∧ SqL K H l xs ∧ SqL K H b zs ∧ xs.length + zs.length ≤ sizeLine ∧ ∀ p, H p = none → Q (.ref p) (upd H p (.lst (xs ++ zs)))
theorem op_catR : OpR X (binaryOp .Add) (rCatR X.K) := by
  intro pins s σ H x y v u Q I rx ry h
  obtain ⟨l, b, xs, zs, rfl, rfl, hH, hB, hz, q⟩ := h
  cases rx
  cases ry
  obtain ⟨its, r, pl, hl1⟩ := I.list hH
  obtain ⟨its2, r2, pl2, hl3⟩ := I.list hB
  have hl := r.length
  have hl2 := r2.length
  obtain ⟨⟨cls, dd, data, sl⟩, ho, hc, n, hd⟩ := pl.isList
  obtain ⟨⟨cls2, dd2, data2, sl2⟩, ho2, hc2, n2, hd2⟩ := pl2.isList
  simp only at hc hd hc2 hd2
  subst hc hd hc2 hd2
  have ea : its.toArray ++ its2.toArray = (its ++ its2).toArray := by simp
  refine concat_meets ⟨_, ho, rfl⟩ ⟨_, ho2, rfl⟩ noFill_list_add seq_list_add PySem.F.slot_list_add PySem.F.entry_list_add (PySem.F.args_list_add_2 _ _) (list_addW l b its.toArray its2.toArray n n2 dd dd2 sl sl2 (by rw [List.size_toArray, List.size_toArray]; omega)) ⟨ho, ho2, ?_⟩
  rw [ea]
  exact ⟨.ref _, _, I.lnew (t' := s.toks) (r.append r2) (by rw [List.length_append]; omega), rfl, q _ I.fresh⟩
theorem n_cat (h : EvC X o a ds k fun x k1 => EvC X o b ds k1 fun y k2 => onL k2 x fun as => onL k2 y fun bs => as.length + bs.length ≤ 10000 ∧ RN (as ++ bs) k2) : EvN X o (.BinOp a .Add b pos) ds k RN := fun st H Q S hk q =>
  we (pe_op op_catR pe_w pe_w) (h st H _ S hk fun x k1 v H1 hx e1 hk1 h1 => hx st H1 _ (S.kp e1 hk) hk1 fun y k2 w H2 hy e2 hk2 h2 => by
    obtain ⟨pa, xs, as, rfl, hs, hd, hz⟩ := onL_ex hk2 hy (h1.kp e2 hk1)
    obtain ⟨pb, ys, bs, rfl, hs2, hd2, hl, hr⟩ := onL_ex hk2 hz h2
    have e12 := e1.trans e2
    refine ⟨pa, pb, xs, ys, rfl, rfl, hs, hs2, ?_, fun p np => ?_⟩
    · rw [hd.1, hd2.1]
      exact Nat.le_trans hl (by decide)
    · have e4 := Kp.of_ex (o := o) (Ex.new (o := .lst (xs ++ ys)) np)
      exact q _ k2 p _ _ hr (fresh_back e12 hk2 np) (e12.trans e4) (hk2.ex (Ex.new np)) upd_same ((hd.append hd2).kp e4 hk2))
/-! methods of cells -/
@[reducible] def onC (x : Dat) (C : Nat → Prop) : Prop := match x with | .cel i => C i | _ => False
theorem onC_ex {d : Dat} {C : Nat → Prop} (h : onC d C) : ∃ i, d = .cel i ∧ C i := by
  cases d <;> first | exact ⟨_, rfl, h⟩ | exact h.elim
theorem cell_ty {K : PySem.W.Frag} {H : Hp} {a : Addr} {i : Nat} (hk : DK K o k H) (ha : o[i]? = some a) : tyV K "list" (.ref a) H := by
  obtain ⟨ys, hy⟩ := hk.cell (List.mem_of_getElem? ha)
  exact .inl ⟨rfl, ys, .inl (.inl hy)⟩
theorem noL_noC (n : noL d = true) : noC d = true := by cases d <;> first | rfl | cases n
theorem all_app {as bs : List Dat} (h1 : as.all noL = true) (h2 : bs.all noL = true) : (as ++ bs).all noL = true := by rw [List.all_append, h1, h2]; rfl
theorem all_one (h : noL d = true) : [d].all noL = true := by
  show (noL d && true) = true
  rw [h]; rfl
theorem c_append {eo : Expr} {apos cpos : Pos} (h : EvC X o eo ds k fun dc k1 => onC dc fun i => EvA X o [e1] ds k1 fun as k2 => on1 as fun d => noL d = true ∧ ∃ s, k2[i]? = some s ∧ s.length < 10000 ∧ R .non (k2.set i (s ++ [d])))
    (hbase : attributeBase eo "append" X.env (eval eo X.env) = eval eo X.env := by rfl)
    (hfew : ((backTo cpos (starEach [e1] X.env)).all (fun x => !x.1) && (backToKw cpos (keywordEach [] X.env)).all (fun x => x.1.isSome) && decide ([e1].length + ([] : List Keyword).length + (if ([] : List Keyword).isEmpty then 0 else 1) < 30)) = true := by rfl)
    (hline : (apos.endLine == cpos.line) = true := by rfl) (hs : starEach [e1] X.env = (false, eval e1 X.env) :: starEach [] X.env := by rfl) (hplain : (backTo cpos (starEach [] X.env)).any (·.1) = false := by rfl) : EvC X o (.Call (.Attribute eo "append" apos) [e1] [] cpos) ds k R := fun st H Q S hk q =>
  we (pe_bm PySem.F.plainAttrs_list PySem.F.slot_list_append PySem.F.type_list_append mt_append pe_w pa_w hbase hfew hline hs hplain) (h st H _ S hk fun dc k1 v H1 hx e1 hk1 h1 => by
    obtain ⟨i, rfl, hx⟩ := onC_ex hx
    obtain ⟨a, rfl, ha⟩ := h1.uncel
    refine ⟨cell_ty hk1 ha, hx st H1 _ (S.kp e1 hk) hk1 fun as k2 vs H2 hr e2 hk2 h2 => ?_⟩
    obtain ⟨d, rfl, nd, s, hs', hl, hr⟩ := on1_ex hr
    obtain ⟨w, rfl, g⟩ := dts1 h2
    obtain ⟨xs, hx', hd⟩ := hk2.at_ i a s ha hs'
    have hw := g.unc (noL_noC nd)
    obtain ⟨hk3, e3⟩ := dk_set hk2 ha (hd.append (DVs.cons hw DVs.nil)) (all_app (hk2.nl s (List.mem_of_getElem? hs')) (all_one nd))
    exact ⟨a, xs, w, rfl, rfl, hx', by rw [hd.1]; exact Nat.lt_of_lt_of_le hl (by decide), q _ _ _ _ hr ((e1.trans e2).trans e3) hk3 (.v .non)⟩)
theorem DVs.take {K : PySem.W.Frag} {H : Hp} {vs : List V} {ds : List Dat} (h : DVs K o H vs ds) (n : Nat) : DVs K o H (vs.take n) (ds.take n) := by
  refine ⟨by rw [List.length_take, List.length_take, h.1], fun i v d a b => ?_⟩
  rw [List.getElem?_take] at a b
  split at a
  · rename_i hi'
    rw [if_pos hi'] at b
    exact h.2 _ v d a b
  · cases a
theorem DVs.drop {K : PySem.W.Frag} {H : Hp} {vs : List V} {ds : List Dat} (h : DVs K o H vs ds) (n : Nat) : DVs K o H (vs.drop n) (ds.drop n) := by
  refine ⟨by rw [List.length_drop, List.length_drop, h.1], fun i v d a b => ?_⟩
  rw [List.getElem?_drop] at a b
  exact h.2 _ v d a b
theorem all_take {as : List Dat} {n : Nat} (h : as.all noL = true) : (as.take n).all noL = true := List.all_eq_true.mpr fun x hx => List.all_eq_true.mp h x (List.mem_of_mem_take hx)
theorem all_drop {as : List Dat} {n : Nat} (h : as.all noL = true) : (as.drop n).all noL = true := List.all_eq_true.mpr fun x hx => List.all_eq_true.mp h x (List.mem_of_mem_drop hx)
theorem c_insert {eo : Expr} {apos cpos : Pos} (h : EvC X o eo ds k fun dc k1 => onC dc fun i => EvA X o [e1, e2] ds k1 fun as k2 => on2 as fun dj d => onI dj fun j => noL d = true ∧ (0 ≤ j ∧ j < 2 ^ 63) ∧ ∃ s, k2[i]? = some s ∧ s.length < 10000 ∧ R .non (k2.set i (s.take j.toNat ++ [d] ++ s.drop j.toNat)))
    (hbase : attributeBase eo "insert" X.env (eval eo X.env) = eval eo X.env := by rfl)
    (hfew : ((backTo cpos (starEach [e1, e2] X.env)).all (fun x => !x.1) && (backToKw cpos (keywordEach [] X.env)).all (fun x => x.1.isSome) && decide ([e1, e2].length + ([] : List Keyword).length + (if ([] : List Keyword).isEmpty then 0 else 1) < 30)) = true := by rfl)
    (hline : (apos.endLine == cpos.line) = true := by rfl) (hs : starEach [e1, e2] X.env = (false, eval e1 X.env) :: starEach [e2] X.env := by rfl) (hplain : (backTo cpos (starEach [e2] X.env)).any (·.1) = false := by rfl) : EvC X o (.Call (.Attribute eo "insert" apos) [e1, e2] [] cpos) ds k R := fun st H Q S hk q =>
  we (pe_bm PySem.F.plainAttrs_list PySem.F.slot_list_insert PySem.F.type_list_insert mt_insert pe_w pa_w hbase hfew hline hs hplain) (h st H _ S hk fun dc k1 v H1 hx e1 hk1 h1 => by
    obtain ⟨i, rfl, hx⟩ := onC_ex hx
    obtain ⟨a, rfl, ha⟩ := h1.uncel
    refine ⟨cell_ty hk1 ha, hx st H1 _ (S.kp e1 hk) hk1 fun as k2 vs H2 hr e2 hk2 h2 => ?_⟩
    obtain ⟨dj, d, rfl, hr⟩ := on2_ex hr
    obtain ⟨j, rfl, nd, hj, s, hs', hl, hr⟩ := onI_ex hr
    obtain ⟨u, w, rfl, g0, g⟩ := dts2 h2
    have q1 := g0.unint
    subst q1
    obtain ⟨xs, hx', hd⟩ := hk2.at_ i a s ha hs'
    have hw := g.unc (noL_noC nd)
    have nl := hk2.nl s (List.mem_of_getElem? hs')
    obtain ⟨hk3, e3⟩ := dk_set hk2 ha (((hd.take j.toNat).append (DVs.cons hw DVs.nil)).append (hd.drop j.toNat)) (all_app (all_app (all_take nl) (all_one nd)) (all_drop nl))
    exact ⟨a, xs, j, w, rfl, rfl, hx', by rw [hd.1]; exact Nat.lt_of_lt_of_le hl (by decide), hj.1, hj.2, q _ _ _ _ hr ((e1.trans e2).trans e3) hk3 (.v .non)⟩)
end
end Wz

set_option Elab.async false
set_option linter.all false
set_option maxRecDepth 100000
set_option maxHeartbeats 4000000
namespace Wz
open PySem PySem.Spec PyProof.Rows L2 Evl
abbrev BX (X : Cx) (scope : Scope) (s : Shared) (H : Hp) (C : Addr) (cl : List (Str × Addr)) (fp : List Addr) : Cx := X.blk s H scope (compEnvC scope cl C X.env) fp
def bT (X : Cx) (scope : Scope) (c : Expr) : TT := fun st H Q => ∀ s0 H0 C cl fp, WT (BX X scope s0 H0 C cl fp) c st H Q
def bE (X : Cx) (scope : Scope) (c : Expr) : TE := fun st H Q => ∀ s0 H0 C cl fp, WE (BX X scope s0 H0 C cl fp) c st H Q
/-- the turn's invariant -/
def CvI (K : PySem.W.Frag) (o : Os) (H1 : Hp) (D : Addr) (W : Nat → List Dat → Cs → Prop) (i : Nat) (H' : Hp) : Prop :=
  Kp o H1 H' ∧ ∃ q acc vs, W i acc q ∧ DK K o q H' ∧ H' D = some (.lst vs) ∧ DVs K o H' vs acc ∧ acc.all noL = true ∧ acc.length ≤ i
theorem tm_upd {K : PySem.W.Frag} {H : Hp} {p : Addr} {xs ys : List V} (h : H p = some (.lst xs)) : ∀ b zs, SqT K H b zs → SqT K (upd H p (.lst ys)) b zs := fun b zs s => by
  rcases s with (s | ⟨ob, s⟩) | s
  · have n : b ≠ p := fun z => by
      rw [z, h] at s
      cases s
    exact .inl (.inl (by rw [upd_ne n]; exact s))
  · have n : b ≠ p := fun z => by
      rw [z, h] at s
      cases s
    exact .inl (.inr ⟨ob, by rw [upd_ne n]; exact s⟩)
  · exact .inr s
theorem DV.tm {K : PySem.W.Frag} {o : Os} {H H' : Hp} (m : ∀ b xs, SqT K H b xs → SqT K H' b xs) {v : V} {d : Dat} (h : DV K o H v d) : noL d = true → DV K o H' v d := by
  induction h with
  | non => intro _; exact .non
  | bl b => intro _; exact .bl b
  | int i => intro _; exact .int i
  | str x => intro _; exact .str x
  | tup s l _ ih =>
    intro h
    rw [noL] at h
    exact .tup (m _ _ s) l fun i v d a b => ih i v d a b (noLs_at h b)
  | lst s l _ ih => intro h; rw [noL] at h; cases h
  | raw v => intro h; rw [noL] at h; cases h
theorem DVs.tm {K : PySem.W.Frag} {o : Os} {H H' : Hp} (m : ∀ b xs, SqT K H b xs → SqT K H' b xs) {vs : List V} {ds : List Dat} (h : DVs K o H vs ds) (n : ds.all noL = true) : DVs K o H' vs ds := ⟨h.1, fun i v d a b => (h.2 i v d a b).tm m (noLs_all n b)⟩
theorem cv_step {K : PySem.W.Frag} {o : Os} {k1 q : Cs} {H1 H3 H4 : Hp} {D : Addr} {W : Nat → List Dat → Cs → Prop} {i : Nat} {acc : List Dat} {vs : List V} {u : V} {y : Dat} {q' : Cs} (n1 : H1 D = none) (hk1 : DK K o k1 H1) (hi : i < 10000) (w1 : Kp o H1 H3) (hk3 : DK K o q H3) (hD : H3 D = some (.lst vs)) (hv : DVs K o H3 vs acc) (na : acc.all noL = true) (hl : acc.length ≤ i)
    (e : Kp o H3 H4) (hk4 : DK K o q' H4) (hu : DT K o H4 u y) (ny : noL y = true) (hW : W (i + 1) (acc ++ [y]) q') : ∃ vs, H4 D = some (.lst vs) ∧ vs.length < sizeLine ∧ CvI K o H1 D W (i + 1) (upd H4 D (.lst (vs ++ [u]))) := by
  have nD : D ∉ o := hk1.ne n1
  have hD4 : H4 D = some (.lst vs) := e D _ nD hD
  refine ⟨vs, hD4, ?_, fun b z nb hb => ?_, q', acc ++ [y], vs ++ [u], hW, ?_, upd_same, ?_, all_app na (all_one ny), ?_⟩
  · rw [hv.1]
    exact Nat.lt_of_le_of_lt hl (Nat.lt_of_lt_of_le hi (by decide))
  · rw [upd_ne (ne_of_none hb n1)]
    exact e b z nb (w1 b z nb hb)
  · refine ⟨hk4.len, hk4.nd, hk4.nl, fun j a as ha hs => ?_⟩
    obtain ⟨xs, hx, hd⟩ := hk4.at_ j a as ha hs
    refine ⟨xs, ?_, hd.tm (tm_upd hD4) (hk4.nl as (List.mem_of_getElem? hs))⟩
    rw [upd_ne (fun z => nD (by rw [← z]; exact List.mem_of_getElem? ha))]
    exact hx
  · exact ((hv.kp e hk3).append (DVs.cons (hu.unc (noL_noC ny)) DVs.nil)).tm (tm_upd hD4) (all_app na (all_one ny))
  · rw [List.length_append]
    show acc.length + 1 ≤ i + 1
    omega
theorem set_wipe {st : L2.St} {j : Nat} {v : V} : (wipe st [j]).set j (some v) = st.set j (some v) := by
  show (st.set j none).set j (some v) = _
  rw [List.set_set]
theorem wipe_set {st : L2.St} {j : Nat} {v : V} : wipe (st.set j (some v)) [j] = wipe st [j] := by
  show (st.set j (some v)).set j none = st.set j none
  rw [List.set_set]
section
variable {X : Cx} {o0 o : Os} {ds : List (Option Dat)} {k k1 k2 : Cs} {e c a b elt e1 e2 e3 : Expr} {es : List Expr} {d : Dat} {as : List Dat} {pos pos' p p1 p2 p3 : Pos} {rest body orelse : List Stmt} {D : Ends} {H0 : Hp} {R : Dat → Cs → Prop} {RT : Bool → Cs → Prop} {RN : List Dat → Cs → Prop} {x : Str} {scope : Scope} {j : Nat}
/-- what a comprehension wants: W by the turn and what is told so far -/
structure LcW (X : Cx) (o : Os) (scope : Scope) (elt : Expr) (ds : List (Option Dat)) (n : Nat) (it : Nat → Option Dat) (sl : Dat → List (Option Dat) → List (Option Dat)) (W : Nat → List Dat → Cs → Prop) : Prop where
  turn : ∀ s H C cl fp j d acc q, j < n → it j = some d → W j acc q → EvC (BX X scope s H C cl fp) o elt (sl d ds) q fun y q' => noL y = true ∧ W (j + 1) (acc ++ [y]) q'
/-- with an if -/
structure LcC (X : Cx) (o : Os) (scope : Scope) (c elt : Expr) (ds : List (Option Dat)) (n : Nat) (it : Nat → Option Dat) (sl : Dat → List (Option Dat) → List (Option Dat)) (W : Nat → List Dat → Cs → Prop) : Prop where
  turn : ∀ s H C cl fp j d acc q, j < n → it j = some d → W j acc q → EvT (BX X scope s H C cl fp) o c (sl d ds) q fun b q1 => bc b (∀ s H C cl fp, EvC (BX X scope s H C cl fp) o elt (sl d ds) q1 fun y q' => noL y = true ∧ W (j + 1) (acc ++ [y]) q') (W (j + 1) acc q1)
/-- the turn of a comprehension without if -/
theorem lc_turn0 {n : Nat} {it : Nat → Option Dat} {W : Nat → List Dat → Cs → Prop} {H1 H' : Hp} {Dr : Addr} {st : L2.St} {i : Nat} {y : V} {d : Dat} (n1 : H1 Dr = none) (hk1 : DK X.K o k1 H1) (S1 : Sat X.K o st H1 ds) (L : LcW X o scope elt ds n it (fun d es => es.set j (some d)) W) (hn : n ≤ 10000) (hi : i < n) (hd : it i = some d) (hy : DV X.K o H1 y d) (w : CvI X.K o H1 Dr W i H') :
    wipe ((wipe st [j]).set j (some y)) [j] = wipe st [j] ∧ tYes ((wipe st [j]).set j (some y)) H' fun b H3 => if b = true then bE X scope elt ((wipe st [j]).set j (some y)) H3 fun y H4 => ∃ acc, H4 Dr = some (.lst acc) ∧ acc.length < sizeLine ∧ CvI X.K o H1 Dr W (i + 1) (upd H4 Dr (.lst (acc ++ [y]))) else CvI X.K o H1 Dr W (i + 1) H3 := by
  rw [set_wipe, wipe_set]
  refine ⟨rfl, ?_⟩
  simp only [tYes, if_true]
  obtain ⟨w1, q, acc, vs, hW, hk', hD, hv, na, hl⟩ := w
  have S2 : Sat X.K o (st.set j (some y)) H' (ds.set j (some d)) := (S1.kp w1 hk1).set (.v (hy.kp w1 hk1))
  exact fun s0 H0 C cl fp => L.turn s0 H0 C cl fp i d acc q hi hd hW _ H' _ S2 hk' fun z q' u H4 hr e4 hk4 hu => cv_step n1 hk1 (by omega) w1 hk' hD hv na hl e4 hk4 hu hr.1 hr.2
theorem lc_turn1 {n : Nat} {it : Nat → Option Dat} {W : Nat → List Dat → Cs → Prop} {H1 H' : Hp} {Dr : Addr} {st : L2.St} {i : Nat} {y : V} {d : Dat} (n1 : H1 Dr = none) (hk1 : DK X.K o k1 H1) (S1 : Sat X.K o st H1 ds) (L : LcC X o scope c elt ds n it (fun d es => es.set j (some d)) W) (hn : n ≤ 10000) (hi : i < n) (hd : it i = some d) (hy : DV X.K o H1 y d) (w : CvI X.K o H1 Dr W i H') :
    wipe ((wipe st [j]).set j (some y)) [j] = wipe st [j] ∧ bT X scope c ((wipe st [j]).set j (some y)) H' fun b H3 => if b = true then bE X scope elt ((wipe st [j]).set j (some y)) H3 fun y H4 => ∃ acc, H4 Dr = some (.lst acc) ∧ acc.length < sizeLine ∧ CvI X.K o H1 Dr W (i + 1) (upd H4 Dr (.lst (acc ++ [y]))) else CvI X.K o H1 Dr W (i + 1) H3 := by
  rw [set_wipe, wipe_set]
  refine ⟨rfl, ?_⟩
  obtain ⟨w1, q, acc, vs, hW, hk', hD, hv, na, hl⟩ := w
  have S2 : Sat X.K o (st.set j (some y)) H' (ds.set j (some d)) := (S1.kp w1 hk1).set (.v (hy.kp w1 hk1))
  have nD : Dr ∉ o := hk1.ne n1
  refine fun s0 H0 C cl fp => L.turn s0 H0 C cl fp i d acc q hi hd hW _ H' _ S2 hk' fun b q1 H3 hb e3 hk3 => ?_
  cases b with
  | true =>
    rw [if_pos rfl]
    exact fun s0 H0 C cl fp => hb s0 H0 C cl fp _ H3 _ (S2.kp e3 hk') hk3 fun z q' u H4 hr e4 hk4 hu => cv_step n1 hk1 (by omega) (w1.trans e3) hk3 (e3 Dr _ nD hD) (hv.kp e3 hk') na hl e4 hk4 hu hr.1 hr.2
  | false =>
    rw [if_neg Bool.false_ne_true]
    exact ⟨w1.trans e3, q1, acc, vs, hb, hk3, e3 Dr _ nD hD, hv.kp e3 hk', na, by omega⟩
theorem cv_start {W : Nat → List Dat → Cs → Prop} {H1 : Hp} {Dr : Addr} (n1 : H1 Dr = none) (hk1 : DK X.K o k1 H1) (h0 : W 0 [] k1) : CvI X.K o H1 Dr W 0 (upd H1 Dr (.lst [])) := ⟨Kp.of_ex (Ex.new n1), k1, [], [], h0, hk1.ex (Ex.new n1), upd_same, DVs.nil, rfl, Nat.le_refl _⟩
/-- [elt for x in range(a)] -/
theorem n_lcR (hcalm : X.calm = true) (hN : X.N.Nodup) (hm : X.mg "range" = none) (hok : BlkOk X.N X.env.scope scope [(x, j)]) (hgn : ∀ s H C cl fp, PG (BX X scope s H C cl fp) (.Name x p1) (gName j))
    (h : EvA X o [a] ds k fun as k1 => on1 as fun d => onI d fun n => (0 ≤ n ∧ n ≤ 10000) ∧ ∃ W, W 0 [] k1 ∧ LcW X o scope elt ds n.toNat (fun i => some (.int (i : Int))) (fun d es => es.set j (some d)) W ∧ ∀ acc q, W n.toNat acc q → acc.all noL = true → RN acc q) (hg : Gl X "range" := by rfl) (hst : starEach [a] X.env = [(false, eval a X.env)] := by rfl)
    (hset : ∀ y, foldedSetIterable (.Call (.Name "range" p2) [a] [] p3) X.env y = pure y := by intro _; rfl) :
    EvN X o (.ListComp elt [⟨.Name x p1, .Call (.Name "range" p2) [a] [] p3, [], 0⟩] scope pos) ds k RN := fun st H Q S hk q =>
  we (pe_lc (own := [(x, j)]) (g := gName j) (tt := tYes) (te := bE X scope elt) hcalm hN (pi_range1 hg hm pa_w hst) hok hgn
    (fun s0 H0 C cl fp => pts_nil) (fun s0 H0 C cl fp => ⟨fun pins s st H Q I h => h s0 H0 C cl fp pins s I⟩) hset) (h st H _ S hk fun as k1 vs H1 hr e1 hk1 h1 => by
    obtain ⟨d, rfl, hr⟩ := on1_ex hr
    obtain ⟨n, rfl, hn, W, h0, L, hd⟩ := onI_ex hr
    obtain ⟨u, rfl, g1⟩ := dts1 h1
    have q1 := g1.unint
    subst q1
    refine ⟨n, rfl, by omega, by omega, fun Dr nD => ?_⟩
    refine lc_range (lo := 0) (n := n.toNat) (g := gName j) (tt := tYes) (te := bE X scope elt) (vs := [j]) (σ := st) (Qd := fun H' => Q (.ref Dr) H') (CvI X.K o H1 Dr W) (cv_start nD hk1 h0) (fun i H' hi w => ?_) (fun H' w => ?_)
    · have e0 : (0 : Int) + (i : Int) = (i : Int) := Int.zero_add _
      show wipe ((wipe st [j]).set j (some (.int ((0 : Int) + (i : Int))))) [j] = wipe st [j] ∧ _
      rw [e0]
      exact lc_turn0 nD hk1 (S.kp e1 hk) L (by omega) hi rfl (.int _) w
    · obtain ⟨w1, q', acc, vs, hW, hk', hD, hv, na, hl⟩ := w
      exact q acc q' Dr vs H' (hd acc q' hW na) (fresh_back e1 hk1 nD) (e1.trans w1) hk' hD hv)
/-- [elt for x in t], t a tuple -/
theorem n_lcT (hcalm : X.calm = true) (hN : X.N.Nodup) (hok : BlkOk X.N X.env.scope scope [(x, j)]) (hgn : ∀ s H C cl fp, PG (BX X scope s H C cl fp) (.Name x p1) (gName j))
    (h : EvC X o a ds k fun d k1 => onT d fun as => as.length ≤ 10000 ∧ ∃ W, W 0 [] k1 ∧ LcW X o scope elt ds as.length (fun i => as[i]?) (fun d es => es.set j (some d)) W ∧ ∀ acc q, W as.length acc q → acc.all noL = true → RN acc q)
    (hset : ∀ y, foldedSetIterable a X.env y = pure y := by intro _; rfl) :
    EvN X o (.ListComp elt [⟨.Name x p1, a, [], 0⟩] scope pos) ds k RN := fun st H Q S hk q =>
  we (pe_lc (own := [(x, j)]) (g := gName j) (tt := tYes) (te := bE X scope elt) hcalm hN (pi_tup pe_w) hok hgn
    (fun s0 H0 C cl fp => pts_nil) (fun s0 H0 C cl fp => ⟨fun pins s st H Q I h => h s0 H0 C cl fp pins s I⟩) hset) (h st H _ S hk fun d k1 v H1 hr e1 hk1 h1 => by
    obtain ⟨as, rfl, hn, W, h0, L, hd⟩ := onT_ex hr
    obtain ⟨t, xs, rfl, hs, hdv⟩ := h1.untup
    refine ⟨t, rfl, ⟨xs, hs⟩, fun Dr nD => ?_⟩
    refine lc_tup (xs := xs) (g := gName j) (tt := tYes) (te := bE X scope elt) (vs := [j]) (σ := st) (Qd := fun H' => Q (.ref Dr) H') (CvI X.K o H1 Dr W) (cv_start nD hk1 h0) (fun i H' _ w => kp_t w.1 hk1 hs) (fun i y H' hy w => ?_) (fun H' w => ?_)
    · have hi : i < as.length := by
        rw [← hdv.1]
        exact (List.getElem?_eq_some_iff.mp hy).1
      have hda : as[i]? = some as[i] := List.getElem?_eq_getElem hi
      exact lc_turn0 nD hk1 (S.kp e1 hk) L hn hi hda (hdv.2 i y _ hy hda) w
    · obtain ⟨w1, q', acc, vs, hW, hk', hD, hv, na, hl⟩ := w
      rw [hdv.1] at hW
      exact q acc q' Dr vs H' (hd acc q' hW na) (fresh_back e1 hk1 nD) (e1.trans w1) hk' hD hv)
/-- [elt for x in xs], xs a list that is no cell -/
theorem n_lcL (hcalm : X.calm = true) (hN : X.N.Nodup) (hok : BlkOk X.N X.env.scope scope [(x, j)]) (hgn : ∀ s H C cl fp, PG (BX X scope s H C cl fp) (.Name x p1) (gName j))
    (h : EvC X o a ds k fun d k1 => onL0 d fun as => as.length ≤ 10000 ∧ ∃ W, W 0 [] k1 ∧ LcW X o scope elt ds as.length (fun i => as[i]?) (fun d es => es.set j (some d)) W ∧ ∀ acc q, W as.length acc q → acc.all noL = true → RN acc q)
    (hset : ∀ y, foldedSetIterable a X.env y = pure y := by intro _; rfl) :
    EvN X o (.ListComp elt [⟨.Name x p1, a, [], 0⟩] scope pos) ds k RN := fun st H Q S hk q =>
  we (pe_lc (own := [(x, j)]) (g := gName j) (tt := tYes) (te := bE X scope elt) hcalm hN (pi_list pe_w) hok hgn
    (fun s0 H0 C cl fp => pts_nil) (fun s0 H0 C cl fp => ⟨fun pins s st H Q I h => h s0 H0 C cl fp pins s I⟩) hset) (h st H _ S hk fun d k1 v H1 hr e1 hk1 h1 => by
    obtain ⟨as, rfl, hn, W, h0, L, hd⟩ := onL0_ex hr
    obtain ⟨t, xs, rfl, hs, hdv⟩ := h1.unlst
    refine ⟨t, rfl, ⟨xs, hs.sq⟩, fun Dr nD => ?_⟩
    refine lc_list (xs := xs) (g := gName j) (tt := tYes) (te := bE X scope elt) (vs := [j]) (σ := st) (Qd := fun H' => Q (.ref Dr) H') (CvI X.K o H1 Dr W) (cv_start nD hk1 h0) (fun i H' _ w => (hs.kp w.1 fun _ z => z).sq) (fun i y H' hy w => ?_) (fun H' w => ?_)
    · have hi : i < as.length := by
        rw [← hdv.1]
        exact (List.getElem?_eq_some_iff.mp hy).1
      have hda : as[i]? = some as[i] := List.getElem?_eq_getElem hi
      exact lc_turn0 nD hk1 (S.kp e1 hk) L hn hi hda (hdv.2 i y _ hy hda) w
    · obtain ⟨w1, q', acc, vs, hW, hk', hD, hv, na, hl⟩ := w
      rw [hdv.1] at hW
      exact q acc q' Dr vs H' (hd acc q' hW na) (fresh_back e1 hk1 nD) (e1.trans w1) hk' hD hv)
end
end Wz

set_option Elab.async false
set_option linter.all false
set_option maxRecDepth 100000
set_option maxHeartbeats 4000000
namespace Wz
open PySem PySem.Spec PyProof.Rows L2 Evl
/-! deep == -/
def noR : Dat → Bool
  | .raw _ => false
  | .cel _ => false
  | .lst xs => noRs xs
  | .tup xs => noRs xs
  | _ => true
where noRs : List Dat → Bool
  | [] => true
  | d :: ds => noR d && noRs ds
def pd : Dat → PyData
  | .non => .none
  | .bl b => .bool b
  | .int i => .int i
  | .str x => .str x
  | .tup xs => .tuple (pds xs)
  | .lst xs => .list (pds xs)
  | .cel _ => .none
  | .raw _ => .none
where pds : List Dat → List PyData
  | [] => []
  | d :: ds => pd d :: pds ds
theorem noRs_at : ∀ {ds : List Dat} {i : Nat} {d : Dat}, noR.noRs ds = true → ds[i]? = some d → noR d = true
  | [], _, _, _, h => by simp at h
  | d :: ds, 0, e, h, q => by
    simp at q
    subst q
    rw [noR.noRs, Bool.and_eq_true] at h
    exact h.1
  | d :: ds, i + 1, e, h, q => by
    rw [noR.noRs, Bool.and_eq_true] at h
    exact noRs_at (i := i) h.2 (by simpa using q)
theorem dpall {K : PySem.W.Frag} {H : Hp} : ∀ {xs : List V} {ds : List Dat}, xs.length = ds.length → (∀ (i : Nat) (v : V) (d : Dat), xs[i]? = some v → ds[i]? = some d → Dp K H v (pd d)) → DpAll K H xs (pd.pds ds)
  | [], [], _, _ => .nil
  | x :: xs, d :: ds, hl, h => .cons (h 0 x d rfl rfl) (dpall (by simpa using hl) fun i v e a b => h (i + 1) v e (by simpa using a) (by simpa using b))
theorem DV.dp {K : PySem.W.Frag} {o : Os} {H : Hp} {v : V} {d : Dat} (h : DV K o H v d) : noR d = true → Dp K H v (pd d) := by
  induction h with
  | non => intro _; exact .non
  | bl b => intro _; exact .bl b
  | int i => intro _; exact .int i
  | str x => intro _; exact .str x
  | tup s l _ ih =>
    intro n
    rw [noR] at n
    exact .tup s (dpall l fun i v d a b => ih i v d a b (noRs_at n b))
  | lst s l _ ih =>
    intro n
    rw [noR] at n
    exact .lst (s.sq) (dpall l fun i v d a b => ih i v d a b (noRs_at n b))
  | raw v => intro n; rw [noR] at n; cases n
theorem noR_noC {d : Dat} (n : noR d = true) : noC d = true := by cases d <;> first | rfl | cases n
/-- what is compared is data of few depths -/
@[reducible] def eqOk (x y : Dat) : Prop := (noR x = true ∧ noR y = true) ∧ SeqAt.shaped (pd x) = true ∧ SeqAt.shaped (pd y) = true
section
variable {X : Cx} {o0 o : Os} {ds : List (Option Dat)} {k k1 k2 : Cs} {e c a b elt e1 e2 e3 : Expr} {es : List Expr} {d : Dat} {as : List Dat} {pos pos' p p1 p2 p3 : Pos} {rest body orelse : List Stmt} {D : Ends} {H0 : Hp} {R : Dat → Cs → Prop} {RT : Bool → Cs → Prop} {RN : List Dat → Cs → Prop} {x : Str} {scope : Scope} {j : Nat}
def CD (n : Bool) (x y : Dat) (_ : Cs) (z : Bool) : Prop := eqOk x y ∧ z = (if n = true then !PyData.eqv (pd x) (pd y) else PyData.eqv (pd x) (pd y))
theorem c_eqD (hu : X.A.units + 64 < cLine) (h : EvC X o a ds k fun x k1 => EvC X o b ds k1 fun y k2 => eqOk x y ∧ R (.bl (PyData.eqv (pd x) (pd y))) k2) : EvC X o (.Compare a [.Eq] [b] pos) ds k R :=
  c_cmp (op_eqD hu) (nobehind _ (by decide) (by decide)) (C := CD false) (fun x y k2 v w H Q hz _ h1 h2 q => by
    obtain ⟨z, ⟨⟨n1, n2⟩, s1, s2⟩, rfl⟩ := hz
    exact ⟨_, _, (h1.unc (noR_noC n1)).dp n1, (h2.unc (noR_noC n2)).dp n2, s1, s2, q _ ⟨⟨⟨n1, n2⟩, s1, s2⟩, rfl⟩⟩) (h.mono fun x k1 hx => hx.mono fun y k2 ⟨ok, hy⟩ => ⟨⟨_, ok, rfl⟩, fun z ⟨_, e⟩ => by
      rw [e]
      exact hy⟩)
theorem t_eqD (hu : X.A.units + 64 < cLine) (h : EvC X o a ds k fun x k1 => EvC X o b ds k1 fun y k2 => eqOk x y ∧ RT (PyData.eqv (pd x) (pd y)) k2) : EvT X o (.Compare a [.Eq] [b] pos) ds k RT :=
  tc_cmp (op_eqD hu) (nobehind _ (by decide) (by decide)) (C := CD false) (fun x y k2 v w H Q hz _ h1 h2 q => by
    obtain ⟨z, ⟨⟨n1, n2⟩, s1, s2⟩, rfl⟩ := hz
    exact ⟨_, _, (h1.unc (noR_noC n1)).dp n1, (h2.unc (noR_noC n2)).dp n2, s1, s2, q _ ⟨⟨⟨n1, n2⟩, s1, s2⟩, rfl⟩⟩) (h.mono fun x k1 hx => hx.mono fun y k2 ⟨ok, hy⟩ => ⟨⟨_, ok, rfl⟩, fun z ⟨_, e⟩ => by
      rw [e]
      exact hy⟩)
theorem c_neD (hu : X.A.units + 64 < cLine) (h : EvC X o a ds k fun x k1 => EvC X o b ds k1 fun y k2 => eqOk x y ∧ R (.bl (!PyData.eqv (pd x) (pd y))) k2) : EvC X o (.Compare a [.NotEq] [b] pos) ds k R :=
  c_cmp (op_neD hu) (nobehind _ (by decide) (by decide)) (C := CD true) (fun x y k2 v w H Q hz _ h1 h2 q => by
    obtain ⟨z, ⟨⟨n1, n2⟩, s1, s2⟩, rfl⟩ := hz
    exact ⟨_, _, (h1.unc (noR_noC n1)).dp n1, (h2.unc (noR_noC n2)).dp n2, s1, s2, q _ ⟨⟨⟨n1, n2⟩, s1, s2⟩, rfl⟩⟩) (h.mono fun x k1 hx => hx.mono fun y k2 ⟨ok, hy⟩ => ⟨⟨_, ok, rfl⟩, fun z ⟨_, e⟩ => by
      rw [e]
      exact hy⟩)
theorem t_neD (hu : X.A.units + 64 < cLine) (h : EvC X o a ds k fun x k1 => EvC X o b ds k1 fun y k2 => eqOk x y ∧ RT (!PyData.eqv (pd x) (pd y)) k2) : EvT X o (.Compare a [.NotEq] [b] pos) ds k RT :=
  tc_cmp (op_neD hu) (nobehind _ (by decide) (by decide)) (C := CD true) (fun x y k2 v w H Q hz _ h1 h2 q => by
    obtain ⟨z, ⟨⟨n1, n2⟩, s1, s2⟩, rfl⟩ := hz
    exact ⟨_, _, (h1.unc (noR_noC n1)).dp n1, (h2.unc (noR_noC n2)).dp n2, s1, s2, q _ ⟨⟨⟨n1, n2⟩, s1, s2⟩, rfl⟩⟩) (h.mono fun x k1 hx => hx.mono fun y k2 ⟨ok, hy⟩ => ⟨⟨_, ok, rfl⟩, fun z ⟨_, e⟩ => by
      rw [e]
      exact hy⟩)
/-- an int in a tuple of ints -/
theorem vints {K : PySem.W.Frag} {H : Hp} {xs : List V} {is : List Int} (hd : DVs K o H xs (is.map Dat.int)) : xs = is.map V.int := by
  refine List.ext_getElem? fun j => ?_
  by_cases hj : j < xs.length
  · have hj2 : j < is.length := by rw [hd.1, List.length_map] at hj; exact hj
    have q1 : (is.map Dat.int)[j]? = some (.int is[j]) := by rw [List.getElem?_map, List.getElem?_eq_getElem hj2]; rfl
    have q2 := hd.2 j _ _ (List.getElem?_eq_getElem hj) q1
    rw [List.getElem?_eq_getElem hj, List.getElem?_map, List.getElem?_eq_getElem hj2]
    generalize xs[j] = vv at q2
    cases q2
    rfl
  · have hj2 : ¬ j < is.length := by rw [hd.1, List.length_map] at hj; exact hj
    rw [List.getElem?_eq_none (by omega), List.getElem?_eq_none (by rw [List.length_map]; omega)]
theorem inV_ints {i : Int} : ∀ {is : List Int}, inV (.int i) (is.map V.int) = decide (i ∈ is)
  | [] => by simp [inV]
  | j :: is => by
    have ih := inV_ints (i := i) (is := is)
    unfold inV at *
    rw [List.map_cons, List.any_cons, ih]
    by_cases h : i = j
    · subst h
      simp [eqV]
    · have : eqV (V.int j) (V.int i) = false := by
        simp [eqV]
        omega
      simp [this, h]
theorem c_inI {is : List Int} (h : EvC X o a ds k fun x k1 => EvC X o b ds k1 fun y k2 => onI x fun i => y = .tup (is.map Dat.int) ∧ R (.bl (decide (i ∈ is))) k2) (hm : behindInMarks .In b = false := by rfl) : EvC X o (.Compare a [.In] [b] pos) ds k R := fun st H Q S hk q =>
  we (pe_cmpR op_in_seq pe_w pe_w hm) (h st H _ S hk fun x k1 v H1 hx e1 hk1 h1 => hx st H1 _ (S.kp e1 hk) hk1 fun y k2 w H2 hy e2 hk2 h2 => by
    obtain ⟨i, rfl, rfl, hr⟩ := onI_ex hy
    have q1 := h1.unint
    subst q1
    obtain ⟨pp, xs, rfl, hs, hd⟩ := h2.untup
    have ex := vints hd
    subst ex
    refine ⟨pp, _, rfl, .inr hs, rfl, ?_, ?_⟩
    · rw [List.all_map]
      exact List.all_eq_true.mpr fun _ _ => rfl
    · show Q (.bl (if false = true then !inV (.int i) (is.map V.int) else inV (.int i) (is.map V.int))) H2
      rw [if_neg Bool.false_ne_true, inV_ints]
      exact q _ k2 _ H2 hr (e1.trans e2) hk2 (.v (.bl _)))
/-! unpacking -/
/-- (a, b), (c, d) = t -/
theorem as_unp22 {i j l m : Nat} {x y z u : Str} {px py pz pu pt1 pt2 pt : Pos} {kt1 kt2 kt : Nat} (hN : X.N.Nodup) (hc : X.calm = true) (h : EvC X o e ds k fun d k1 => ∃ d1 d2 d3 d4, d = .tup [.tup [d1, d2], .tup [d3, d4]] ∧ AS X o0 o rest D ((((ds.set i (some d1)).set j (some d2)).set l (some d3)).set m (some d4)) k1 H0)
    (hi : X.N[i]? = some x := by rfl) (hj : X.N[j]? = some y := by rfl) (hl : X.N[l]? = some z := by rfl) (hm : X.N[m]? = some u := by rfl) (hx : Loc X.env.scope x := by exact Or.inl rfl) (hy : Loc X.env.scope y := by exact Or.inl rfl) (hz : Loc X.env.scope z := by exact Or.inl rfl) (hu : Loc X.env.scope u := by exact Or.inl rfl)
    (hfx : X.fn x = true ∨ X.env.scope.names.lookup x = some .local := by exact .inl rfl) (hfy : X.fn y = true ∨ X.env.scope.names.lookup y = some .local := by exact .inl rfl) (hfz : X.fn z = true ∨ X.env.scope.names.lookup z = some .local := by exact .inl rfl) (hfu : X.fn u = true ∨ X.env.scope.names.lookup u = some .local := by exact .inl rfl)
    (hs : swapsWithSole [.Tuple [.Tuple [.Name x px, .Name y py] kt1 pt1, .Tuple [.Name z pz, .Name u pu] kt2 pt2] kt pt] e pos.line X.env = pure false := by rfl) (hw : swappedStores [.Tuple [.Tuple [.Name x px, .Name y py] kt1 pt1, .Tuple [.Name z pz, .Name u pu] kt2 pt2] kt pt] e X.env = pure none := by rfl) :
    AS X o0 o (.Assign [.Tuple [.Tuple [.Name x px, .Name y py] kt1 pt1, .Tuple [.Name z pz, .Name u pu] kt2 pt2] kt pt] e pos :: rest) D ds k H0 := fun st H S hk e0 fr =>
  wb_cons (wss (ps_asg pe_w (pg_tup hc (pgs_cons (pg_tup hc (pgs_cons (pg_name hN hi hx hfx) (pgs_cons (pg_name hN hj hy hfy) pgs_nil))) (pgs_cons (pg_tup hc (pgs_cons (pg_name hN hl hz hfz) (pgs_cons (pg_name hN hm hu hfu) pgs_nil))) pgs_nil))) hs hw) (h st H _ S hk fun d k1 v H1 hr e1 hk1 h1 => by
    obtain ⟨d1, d2, d3, d4, rfl, hy⟩ := hr
    obtain ⟨a, xs, rfl, hsq, hd⟩ := h1.untup
    match xs, hd with
    | [v1, v2], hd =>
      obtain ⟨a1, ys, rfl, hs1, hd1⟩ := (hd.2 0 _ _ rfl rfl).untup
      obtain ⟨a2, zs, rfl, hs2, hd2⟩ := (hd.2 1 _ _ rfl rfl).untup
      match ys, hd1, zs, hd2 with
      | [u1, u2], hd1, [u3, u4], hd2 =>
        exact ⟨a, _, rfl, hsq, rfl, _, _, rfl, ⟨a1, _, rfl, hs1, rfl, u1, _, rfl, u2, _, rfl, rfl, _, _, rfl, ⟨a2, _, rfl, hs2, rfl, u3, _, rfl, u4, _, rfl, rfl, rfl, hy _ H1 (((((S.kp e1 hk).set (.v (hd1.2 0 _ _ rfl rfl))).set (.v (hd1.2 1 _ _ rfl rfl))).set (.v (hd2.2 0 _ _ rfl rfl))).set (.v (hd2.2 1 _ _ rfl rfl))) hk1 (fr.kp e0 e1) fr⟩⟩⟩))
end
end Wz

set_option Elab.async false
set_option linter.all false
set_option maxRecDepth 100000
set_option maxHeartbeats 4000000
namespace Wz
open PySem PySem.Spec PyProof.Rows L2 Evl RZ
/-! x in t, t a tuple of data -/
def rInDT (K : PySem.W.Frag) : R2 := fun x y H Q => ∃ d ds, Dp K H x d ∧ Dp K H y (.tuple ds) ∧ SeqAt.shaped d = true ∧ SeqAt.shaped (.tuple ds) = true ∧ Q (.bl (ds.any fun z => PyData.eqv z d)) H
theorem op_inDT {X : Cx} (hu : X.A.units + 65 < cLine) : OpR X (compareOp .In) (rInDT X.K) := by
  intro pins s σ H x y v u Q I rx ry h
  obtain ⟨d, ds, hd, he, sd, se, q⟩ := h
  obtain ⟨as, r1⟩ := Dp.reads I d x v hd rx
  obtain ⟨bs, r2⟩ := Dp.reads I (.tuple ds) y u he ry
  exact SeqAt.in_tuple_reads r2 r1 (SeqAt.canLay_of_shaped se) (SeqAt.canLay_of_shaped sd) (room_in_shaped sd hu) ⟨.bl _, H, I, rfl, q⟩
section
variable {X : Cx} {o0 o : Os} {ds : List (Option Dat)} {k k1 k2 : Cs} {e c a b elt e1 e2 e3 : Expr} {es : List Expr} {d : Dat} {as : List Dat} {pos pos' pos2 p p1 p2 p3 : Pos} {rest body orelse : List Stmt} {D : Ends} {H0 : Hp} {R : Dat → Cs → Prop} {RT : Bool → Cs → Prop} {RN : List Dat → Cs → Prop} {x : Str} {scope : Scope} {j : Nat}
theorem c_inDT (hu : X.A.units + 65 < cLine) (h : EvC X o a ds k fun x k1 => EvC X o b ds k1 fun y k2 => onT y fun as => eqOk x (.tup as) ∧ R (.bl ((pd.pds as).any fun z => PyData.eqv z (pd x))) k2) (hm : behindInMarks .In b = false := by rfl) : EvC X o (.Compare a [.In] [b] pos) ds k R := fun st H Q S hk q =>
  we (pe_cmpR (op_inDT hu) pe_w pe_w hm) (h st H _ S hk fun x k1 v H1 hx e1 hk1 h1 => hx st H1 _ (S.kp e1 hk) hk1 fun y k2 w H2 hy e2 hk2 h2 => by
    obtain ⟨as, rfl, ⟨⟨n1, n2⟩, s1, s2⟩, hr⟩ := onT_ex hy
    exact ⟨_, _, ((h1.kp e2 hk1).unc (noR_noC n1)).dp n1, (h2.unc rfl).dp n2, s1, s2, q _ k2 _ H2 hr (e1.trans e2) hk2 (.v (.bl _))⟩)
/-! unpacking a list -/
theorem as_unpL2 {i j : Nat} {x y : Str} {px py pt : Pos} {kt : Nat} (hN : X.N.Nodup) (hc : X.calm = true) (h : EvC X o e ds k fun d k1 => onL k1 d fun as => ∃ d1 d2, as = [d1, d2] ∧ AS X o0 o rest D ((ds.set i (some d1)).set j (some d2)) k1 H0)
    (hi : X.N[i]? = some x := by rfl) (hj : X.N[j]? = some y := by rfl) (hx : Loc X.env.scope x := by exact Or.inl rfl) (hy : Loc X.env.scope y := by exact Or.inl rfl) (hfx : X.fn x = true ∨ X.env.scope.names.lookup x = some .local := by exact .inl rfl) (hfy : X.fn y = true ∨ X.env.scope.names.lookup y = some .local := by exact .inl rfl)
    (hs : swapsWithSole [.Tuple [.Name x px, .Name y py] kt pt] e pos.line X.env = pure false := by rfl) (hw : swappedStores [.Tuple [.Name x px, .Name y py] kt pt] e X.env = pure none := by rfl) :
    AS X o0 o (.Assign [.Tuple [.Name x px, .Name y py] kt pt] e pos :: rest) D ds k H0 := fun st H S hk e0 fr =>
  wb_cons (wss (ps_asg pe_w (pg_unl hc (pgs_cons (pg_name hN hi hx hfx) (pgs_cons (pg_name hN hj hy hfy) pgs_nil))) hs hw) (h st H _ S hk fun d k1 v H1 hr e1 hk1 h1 => by
    obtain ⟨a, xs, as, rfl, hsq, hd, hz⟩ := onL_ex hk1 hr h1
    obtain ⟨d1, d2, rfl, hy⟩ := hz
    match xs, hd with
    | [v1, v2], hd =>
      exact ⟨a, _, rfl, hsq, rfl, v1, _, rfl, v2, _, rfl, rfl, hy _ H1 (((S.kp e1 hk).set (.v (hd.2 0 _ _ rfl rfl))).set (.v (hd.2 1 _ _ rfl rfl))) hk1 (fr.kp e0 e1) fr⟩))
/-! {2: .., 3: .., 5: ..}[i] -/
theorem tm_dk {K : PySem.W.Frag} {H : Hp} {p : Addr} {xs ys : List (Key × V)} (h : H p = some (.dK xs)) : ∀ b zs, SqT K H b zs → SqT K (upd H p (.dK ys)) b zs := fun b zs s => by
  rcases s with s | s
  · rcases s with s | ⟨o, s⟩
    · by_cases e : b = p
      · rw [e, h] at s; cases s
      · exact .inl (.inl (by rw [upd_ne e]; exact s))
    · by_cases e : b = p
      · rw [e, h] at s; cases s
      · exact .inl (.inr ⟨o, by rw [upd_ne e]; exact s⟩)
  · exact .inr s
def pick (d1 d2 d3 : Dat) (i : Int) : Dat := if i = 2 then d1 else if i = 3 then d2 else d3
theorem kv_one (i : Int) (v1 v2 v3 : V) (hi : i = 2 ∨ i = 3 ∨ i = 5) : valV (mergeK ([] : List (Key × V)) [(.inl 2, v1), (.inl 3, v2), (.inl 5, v3)]) (.inl i) = some (if i = 2 then v1 else if i = 3 then v2 else v3) := by
  rcases hi with rfl | rfl | rfl <;> rfl
/-- lists at no place but those that stand -/
theorem DV.dict {K : PySem.W.Frag} {H : Hp} {p : Addr} {v : V} {d : Dat} {xs ys : List (Key × V)} (h : H p = some (.dK xs)) (q : DV K o H v d) : DV K o (upd H p (.dK ys)) v d := by
  induction q with
  | non => exact .non
  | bl b => exact .bl b
  | int i => exact .int i
  | str x => exact .str x
  | tup s l _ ih => exact .tup (tm_dk h _ _ s) l ih
  | lst s l _ ih =>
    refine .lst ?_ l ih
    rcases s with ⟨s | ⟨ob, s⟩, n⟩ | s
    · exact .inl ⟨.inl (by rw [upd_ne (fun e => by rw [e, h] at s; cases s)]; exact s), n⟩
    · exact .inl ⟨.inr ⟨ob, by rw [upd_ne (fun e => by rw [e, h] at s; cases s)]; exact s⟩, n⟩
    · exact .inr s
  | raw v => exact .raw v
theorem c_disp3 {d1 d2 d3 : Dat} {j1 j2 j3 : Nat} (hu : X.A.units + 64 < cLine) (h1 : Ev X o e1 ds k d1 k) (h2 : Ev X o e2 ds k d2 k) (h3 : Ev X o e3 ds k d3 k) (n : noC d1 = true ∧ noC d2 = true ∧ noC d3 = true) (hb : EvC X o b ds k fun y k2 => onI y fun i => (i = 2 ∨ i = 3 ∨ i = 5) ∧ R (pick d1 d2 d3 i) k2) (hs : NoSl b := by exact fun _ _ => rfl) :
    EvC X o (.Subscript (.Dict [some (.Constant (.int 2) j1 p1), some (.Constant (.int 3) j2 p2), some (.Constant (.int 5) j3 p3)] [e1, e2, e3] pos) b pos2) ds k R := fun st H Q S hk q =>
  we (pe_dget (Nat.lt_of_le_of_lt (Nat.add_le_add_left (by decide : 1 ≤ 64) _) hu) (pe_disp (pps_cons pe_int pe_w (pps_cons pe_int pe_w (pps_cons pe_int pe_w pps_nil))) rfl rfl (by simp) (Nat.le_of_ble_eq_true rfl)) pe_w hs) (fun p np => by
    have ne := hk.ne np
    have k0 : Kp o H (upd H p (.dK [])) := Kp.of_ex (Ex.new np)
    have hk0 := hk.ex (Ex.new (o := .dK []) np)
    refine h1 (fun d k' => d = d1 ∧ k' = k) ⟨rfl, rfl⟩ st _ _ (S.kp k0 hk) hk0 fun d1' k1' v1 H1 r1 c1 hk1 g1 => ?_
    obtain ⟨rfl, rfl⟩ := r1
    refine h2 (fun d k' => d = d2 ∧ k' = k1') ⟨rfl, rfl⟩ st H1 _ (S.kp (k0.trans c1) hk) hk1 fun d2' k2' v2 H2 r2 c2 hk2 g2 => ?_
    obtain ⟨rfl, rfl⟩ := r2
    refine h3 (fun d k' => d = d3 ∧ k' = k2') ⟨rfl, rfl⟩ st H2 _ (S.kp ((k0.trans c1).trans c2) hk) hk2 fun d3' k3' v3 H3 r3 c3 hk3 g3 => ?_
    obtain ⟨rfl, rfl⟩ := r3
    have hp : H3 p = some (.dK []) := c3 p _ ne (c2 p _ ne (c1 p _ ne upd_same))
    refine ⟨hp, [(.inl 2, v1), (.inl 3, v2), (.inl 5, v3)], rfl, (by decide : 3 ≤ 15), ?_⟩
    have k3 : Kp o H (upd H3 p (.dK (mergeK [] [(.inl 2, v1), (.inl 3, v2), (.inl 5, v3)]))) := fun bb u nb hbb => by
      rw [upd_ne (ne_of_none hbb np)]
      exact (((k0.trans c1).trans c2).trans c3) bb u nb hbb
    have hk4 : DK X.K o k3' (upd H3 p (.dK (mergeK [] [(.inl 2, v1), (.inl 3, v2), (.inl 5, v3)]))) := by
      refine ⟨hk3.len, hk3.nd, hk3.nl, fun j a as ha hs => ?_⟩
      obtain ⟨xs, hx, hd⟩ := hk3.at_ j a as ha hs
      refine ⟨xs, ?_, ⟨hd.1, fun i v d ga gb => (hd.2 i v d ga gb).dict hp⟩⟩
      rw [upd_ne (fun z => ne (by rw [← z]; exact List.mem_of_getElem? ha))]
      exact hx
    refine hb st _ _ (S.kp k3 hk) hk4 fun y k5 v H5 hr c5 hk5 g5 => ?_
    obtain ⟨i, rfl, hi, hr⟩ := onI_ex hr
    have q5 := g5.unint
    subst q5
    have w1 := (((((g1.unc n.1).kp c2 hk1).kp c3 hk2).dict (ys := mergeK [] [(.inl 2, v1), (.inl 3, v2), (.inl 5, v3)]) hp).kp c5 hk4)
    have w2 := ((((g2.unc n.2.1).kp c3 hk2).dict (ys := mergeK [] [(.inl 2, v1), (.inl 3, v2), (.inl 5, v3)]) hp).kp c5 hk4)
    have w3 := (((g3.unc n.2.2).dict (ys := mergeK [] [(.inl 2, v1), (.inl 3, v2), (.inl 5, v3)]) hp).kp c5 hk4)
    refine ⟨p, _, rfl, .inl ⟨_, .inl i, .inl (c5 p _ ne upd_same), rfl, (kv_one i v1 v2 v3 hi).symm⟩, q _ k5 _ H5 hr (k3.trans c5) hk5 (.v ?_)⟩
    unfold pick
    split
    · exact w1
    · split
      · exact w2
      · exact w3)
theorem c_disp3I {i1 i2 i3 : Int} {j1 j2 j3 : Nat} (hu : X.A.units + 64 < cLine) (h1 : Ev X o e1 ds k (.int i1) k) (h2 : Ev X o e2 ds k (.int i2) k) (h3 : Ev X o e3 ds k (.int i3) k) (hb : EvC X o b ds k fun y k2 => onI y fun i => (i = 2 ∨ i = 3 ∨ i = 5) ∧ R (.int (if i = 2 then i1 else if i = 3 then i2 else i3)) k2) (hs : NoSl b := by exact fun _ _ => rfl) :
    EvC X o (.Subscript (.Dict [some (.Constant (.int 2) j1 p1), some (.Constant (.int 3) j2 p2), some (.Constant (.int 5) j3 p3)] [e1, e2, e3] pos) b pos2) ds k R :=
  c_disp3 hu h1 h2 h3 ⟨rfl, rfl, rfl⟩ (hb.mono fun y k2 hy => by
    obtain ⟨i, rfl, hi, hr⟩ := onI_ex hy
    refine ⟨hi, ?_⟩
    have e : pick (.int i1) (.int i2) (.int i3) i = .int (if i = 2 then i1 else if i = 3 then i2 else i3) := by
      unfold pick
      split
      · rfl
      · split <;> rfl
    rw [e]
    exact hr) hs
/-! [elt for x, y in zip(t, u)] -/
structure LcZ (X : Cx) (o : Os) (scope : Scope) (elt : Expr) (ds : List (Option Dat)) (i j : Nat) (as bs : List Dat) (W : Nat → List Dat → Cs → Prop) : Prop where
  turn : ∀ s H C cl fp l d1 d2 acc q, as[l]? = some d1 → bs[l]? = some d2 → W l acc q → EvC (BX X scope s H C cl fp) o elt ((ds.set i (some d1)).set j (some d2)) q fun y q' => noL y = true ∧ W (l + 1) (acc ++ [y]) q'
theorem walk_zipT {K : PySem.W.Frag} {a b : Addr} {xs ys : List V} {n : Nat} (hn : n = min xs.length ys.length) : Walk (ItzT K a b) n (fun H => SqT K H a xs ∧ SqT K H b ys) (YPair (fun i => xs[i]?) (fun i => ys[i]?)) := by
  subst hn
  refine ⟨fun i _ hi q => ?_, fun _ q => ⟨xs, ys, q.1, q.2, by omega⟩, fun i H v H' _ q y => ?_⟩
  · have h1 : i < xs.length := by omega
    have h2 : i < ys.length := by omega
    exact ⟨xs, ys, xs[i], ys[i], q.1, q.2, by simp [h1], by simp [h2]⟩
  · obtain ⟨T, x, z, h1, h2, h3, h4, h5⟩ := y
    exact ⟨T, x, z, h1, h2, h3, h4 xs q.1, h5 ys q.2⟩
/-! all([..]) -/
theorem bls_of {K : PySem.W.Frag} {H : Hp} {xs : List V} {bs : List Bool} (hd : DVs K o H xs (bs.map Dat.bl)) : xs = bs.map V.bl := by
  refine List.ext_getElem? fun j => ?_
  by_cases hj : j < xs.length
  · have hj2 : j < bs.length := by rw [hd.1, List.length_map] at hj; exact hj
    have q1 : (bs.map Dat.bl)[j]? = some (.bl bs[j]) := by rw [List.getElem?_map, List.getElem?_eq_getElem hj2]; rfl
    have q2 := hd.2 j _ _ (List.getElem?_eq_getElem hj) q1
    rw [List.getElem?_eq_getElem hj, List.getElem?_map, List.getElem?_eq_getElem hj2]
    generalize xs[j] = vv at q2
    cases q2
    rfl
  · have hj2 : ¬ j < bs.length := by rw [hd.1, List.length_map] at hj; exact hj
    rw [List.getElem?_eq_none (by omega), List.getElem?_eq_none (by rw [List.length_map]; omega)]
theorem c_all (hc : X.calm = true) (hm : X.mg "all" = none) (h : EvA X o [e] ds k fun as k1 => on1 as fun d => onL k1 d fun xs => ∃ bs : List Bool, xs = bs.map Dat.bl ∧ R (.bl (bs.all id)) k1) (hg : Gl X "all" := by rfl) (he : starEach [e] X.env = (false, eval e X.env) :: starEach [] X.env := by rfl) : EvC X o (.Call (.Name "all" p) [e] [] pos) ds k R :=
  c_bif (cr_all hc) hm (by decide +kernel) (h.mono fun as k1 ha vs H Q h1 hk q => by
    obtain ⟨d, rfl, ha⟩ := on1_ex ha
    obtain ⟨v, rfl, g1⟩ := dts1 h1
    obtain ⟨p, ys, xs, rfl, hs, hl, bs, rfl, ha⟩ := onL_ex hk ha g1
    have e := bls_of hl
    subst e
    exact ⟨p, bs, rfl, hs, q _ _ H ha (Ex.refl _) (.v (.bl _))⟩) hg (by decide) (by decide) he
theorem wipe2 {st : L2.St} {i j : Nat} {a b : V} (h : i ≠ j) : ((wipe st [i, j]).set i (some a)).set j (some b) = (st.set i (some a)).set j (some b) := by
  show ((((st.set j none).set i none).set i (some a)).set j (some b)) = _
  rw [List.set_set]
  have e : (st.set j none).set i (some a) = (st.set i (some a)).set j none := List.set_comm _ _ (Ne.symm h)
  rw [e, List.set_set]
theorem wipe2_back {st : L2.St} {i j : Nat} {a b : V} (h : i ≠ j) : wipe ((st.set i (some a)).set j (some b)) [i, j] = wipe st [i, j] := by
  show ((((st.set i (some a)).set j (some b)).set j none).set i none) = (st.set j none).set i none
  rw [List.set_set]
  have e : (st.set i (some a)).set j none = (st.set j none).set i (some a) := List.set_comm _ _ h
  rw [e, List.set_set]
theorem lc_turnZ {as bs : List Dat} {i j l : Nat} {W : Nat → List Dat → Cs → Prop} {H1 H' : Hp} {Dr T : Addr} {st : L2.St} {y1 y2 : V} {d1 d2 : Dat} {N2 : List Str} (hij : i ≠ j) (n1 : H1 Dr = none) (hk1 : DK X.K o k1 H1) (S1 : Sat X.K o st H1 ds) (L : LcZ X o scope elt ds i j as bs W) (hn : l < 10000) (ha : as[l]? = some d1) (hb : bs[l]? = some d2) (hy1 : DV X.K o H1 y1 d1) (hy2 : DV X.K o H1 y2 d2) (w : CvI X.K o H1 Dr W l H') (nT : H' T = none) :
    gTup X.K 2 (gCons (gName i) (gCons (gName j) gNil)) (.ref T) (wipe st [i, j]) (upd H' T (.tup [y1, y2])) fun σ2 H2 => wipe σ2 [i, j] = wipe st [i, j] ∧ tYes σ2 H2 fun b H3 => if b = true then bE X scope elt σ2 H3 fun y H4 => ∃ acc, H4 Dr = some (.lst acc) ∧ acc.length < sizeLine ∧ CvI X.K o H1 Dr W (l + 1) (upd H4 Dr (.lst (acc ++ [y]))) else CvI X.K o H1 Dr W (l + 1) H3 := by
  obtain ⟨w1, q, acc, vs, hW, hk', hD, hv, na, hl⟩ := w
  have eT : Ex H' (upd H' T (.tup [y1, y2])) := Ex.new nT
  have w2 : Kp o H1 (upd H' T (.tup [y1, y2])) := w1.trans (Kp.of_ex eT)
  have hk2 := hk'.ex eT
  have S2 : Sat X.K o ((st.set i (some y1)).set j (some y2)) (upd H' T (.tup [y1, y2])) ((ds.set i (some d1)).set j (some d2)) := ((S1.kp w2 hk1).set (.v (hy1.kp w2 hk1))).set (.v (hy2.kp w2 hk1))
  refine ⟨T, [y1, y2], rfl, .inl (.inl upd_same), rfl, y1, [y2], rfl, y2, [], rfl, rfl, ?_⟩
  rw [wipe2 hij]
  refine ⟨wipe2_back hij, ?_⟩
  simp only [tYes, if_true]
  exact fun s0 H0 C cl fp => L.turn s0 H0 C cl fp l d1 d2 acc q ha hb hW _ _ _ S2 hk2 fun z q' u H4 hr e4 hk4 hu => cv_step n1 hk1 hn w2 hk2 (eT _ _ hD) (hv.kp (Kp.of_ex eT) hk') na hl e4 hk4 hu hr.1 hr.2
/-- two tuples, or two lists that are no cells, of one length -/
theorem n_lcZ {y : Str} {i j : Nat} {p4 p5 : Pos} {kk : Nat} (hij : i ≠ j) (hcalm : X.calm = true) (hN : X.N.Nodup) (hm : X.mg "zip" = none) (hok : BlkOk X.N X.env.scope scope [(x, i), (y, j)])
    (hgn : ∀ s H C cl fp, PG (BX X scope s H C cl fp) (.Tuple [.Name x p1, .Name y p2] kk p3) (gTup X.K 2 (gCons (gName i) (gCons (gName j) gNil))))
    (h : EvA X o [a, b] ds k fun as k1 => on2 as fun d1 d2 => ∃ as bs, (d1 = .tup as ∧ d2 = .tup bs ∨ d1 = .lst as ∧ d2 = .lst bs) ∧ as.length = bs.length ∧ as.length ≤ 10000 ∧ ∃ W, W 0 [] k1 ∧ LcZ X o scope elt ds i j as bs W ∧ ∀ acc q, W as.length acc q → acc.all noL = true → RN acc q) (hg : Gl X "zip" := by rfl)
    (hs : starEach [a, b] X.env = (false, eval a X.env) :: starEach [b] X.env := by rfl) (hpl : (backTo p5 (starEach [b] X.env)).any (·.1) = false := by rfl)
    (hset : ∀ y, foldedSetIterable (.Call (.Name "zip" p4) [a, b] [] p5) X.env y = pure y := by intro _; rfl) :
    EvN X o (.ListComp elt [⟨.Tuple [.Name x p1, .Name y p2] kk p3, .Call (.Name "zip" p4) [a, b] [] p5, [], 0⟩] scope pos) ds k RN := fun st H Q S hk q =>
  we (pe_lc (own := [(x, i), (y, j)]) (g := gTup X.K 2 (gCons (gName i) (gCons (gName j) gNil))) (tt := tYes) (te := bE X scope elt) hcalm hN (pi_zipA hg hm pa_w hs hpl) hok hgn
    (fun s0 H0 C cl fp => pts_nil) (fun s0 H0 C cl fp => ⟨fun pins s st H Q I h => h s0 H0 C cl fp pins s I⟩) hset) (h st H _ S hk fun as0 k1 vs H1 hr e1 hk1 h1 => by
    obtain ⟨d1, d2, rfl, as, bs, hd12, hl, hn, W, h0, L, hd⟩ := on2_ex hr
    obtain ⟨v1, v2, rfl, g1, g2⟩ := dts2 h1
    have fin : ∀ (Dr : Addr) (nD : H1 Dr = none) (H' : Hp), CvI X.K o H1 Dr W as.length H' → Q (.ref Dr) H' := fun Dr nD H' w => by
      obtain ⟨w1, q', acc, vs, hW, hk', hD, hv, na, hl⟩ := w
      exact q acc q' Dr vs H' (hd acc q' hW na) (fresh_back e1 hk1 nD) (e1.trans w1) hk' hD hv
    rcases hd12 with ⟨rfl, rfl⟩ | ⟨rfl, rfl⟩
    · obtain ⟨t, xs, rfl, hs, hdv⟩ := g1.untup
      obtain ⟨t2, ys, rfl, hs2, hdv2⟩ := g2.untup
      refine ⟨t, t2, xs, ys, rfl, .inr ⟨hs, hs2, fun Dr nD => ?_⟩⟩
      refine lc_it (walk_zipT (xs := xs) (ys := ys) (n := as.length) (by rw [hdv.1, hdv2.1, ← hl]; omega)) (g := gTup X.K 2 (gCons (gName i) (gCons (gName j) gNil))) (tt := tYes) (te := bE X scope elt) (vs := [i, j]) (σ := st) (Qd := fun H' => Q (.ref Dr) H') (CvI X.K o H1 Dr W) (cv_start nD hk1 h0) (fun l H' _ w => ⟨kp_t w.1 hk1 hs, kp_t w.1 hk1 hs2⟩) (fun l v H' H'' hi w yy => ?_) (fin Dr nD)
      obtain ⟨T, y1, y2, rfl, nT, rfl, hy1, hy2⟩ := yy
      have hda : as[l]? = some as[l] := List.getElem?_eq_getElem hi
      have hdb : bs[l]? = some (bs[l]'(by omega)) := List.getElem?_eq_getElem _
      exact lc_turnZ (N2 := []) hij nD hk1 (S.kp e1 hk) L (by omega) hda hdb (hdv.2 l y1 _ hy1 hda) (hdv2.2 l y2 _ hy2 hdb) w nT
    · obtain ⟨t, xs, rfl, hs, hdv⟩ := g1.unlst
      obtain ⟨t2, ys, rfl, hs2, hdv2⟩ := g2.unlst
      refine ⟨t, t2, xs, ys, rfl, .inl ⟨hs.sq, hs2.sq, fun Dr nD => ?_⟩⟩
      refine lc_it (walk_zip (xs := xs) (ys := ys) (n := as.length) (by rw [hdv.1, hdv2.1, ← hl]; omega)) (g := gTup X.K 2 (gCons (gName i) (gCons (gName j) gNil))) (tt := tYes) (te := bE X scope elt) (vs := [i, j]) (σ := st) (Qd := fun H' => Q (.ref Dr) H') (CvI X.K o H1 Dr W) (cv_start nD hk1 h0) (fun l H' _ w => ⟨(hs.kp w.1 fun _ z => z).sq, (hs2.kp w.1 fun _ z => z).sq⟩) (fun l v H' H'' hi w yy => ?_) (fin Dr nD)
      obtain ⟨T, y1, y2, rfl, nT, rfl, hy1, hy2⟩ := yy
      have hda : as[l]? = some as[l] := List.getElem?_eq_getElem hi
      have hdb : bs[l]? = some (bs[l]'(by omega)) := List.getElem?_eq_getElem _
      exact lc_turnZ (N2 := []) hij nD hk1 (S.kp e1 hk) L (by omega) hda hdb (hdv.2 l y1 _ hy1 hda) (hdv2.2 l y2 _ hy2 hdb) w nT)
end
end Wz

set_option Elab.async false
set_option linter.all false
set_option maxRecDepth 100000
set_option maxHeartbeats 4000000
namespace Wz
open PySem PySem.Spec PyProof.Rows L2 Evl RZ
/-! ### sizes of ints -/
def Bd (n : Nat) (i : Int) : Prop := i.natAbs < 2 ^ n
theorem Bd.mono {n m : Nat} {i : Int} (h : Bd n i) (l : n ≤ m) : Bd m i := Nat.lt_of_lt_of_le h (Nat.pow_le_pow_right (by decide) l)
theorem Bd.mul {n m : Nat} {i j : Int} (h : Bd n i) (g : Bd m j) : Bd (n + m) (i * j) := wide_lt h g
theorem pow2_le {n m : Nat} (h : n ≤ m) : 2 ^ n ≤ 2 ^ m := Nat.pow_le_pow_right (by decide) h
theorem Bd.add {n m : Nat} {i j : Int} (h : Bd n i) (g : Bd m j) : Bd (max n m + 1) (i + j) := by
  have h1 : i.natAbs < 2 ^ n := h
  have h2 : j.natAbs < 2 ^ m := g
  have q1 := pow2_le (n := n) (m := max n m) (Nat.le_max_left _ _)
  have q2 := pow2_le (n := m) (m := max n m) (Nat.le_max_right _ _)
  have q3 : 2 ^ (max n m + 1) = 2 * 2 ^ (max n m) := by rw [Nat.pow_succ]; omega
  show (i + j).natAbs < _
  rw [q3]
  omega
theorem Bd.neg {n : Nat} {i : Int} (h : Bd n i) : Bd n (-i) := by
  show (-i).natAbs < _
  rw [Int.natAbs_neg]
  exact h
theorem Bd.sub {n m : Nat} {i j : Int} (h : Bd n i) (g : Bd m j) : Bd (max n m + 1) (i - j) := by
  rw [Int.sub_eq_add_neg]
  exact h.add g.neg
theorem Bd.z : Bd 0 0 := (by decide : (0 : Int).natAbs < 2 ^ 0)
theorem Bd.of (i : Int) : Bd (i.natAbs.log2 + 1) i := Nat.lt_log2_self
theorem Bd.pow {n : Nat} {i : Int} (h : Bd n i) (m : Nat) : Bd (n * m + 1) (i ^ m) := by
  induction m with
  | zero =>
    rw [Int.pow_zero, Nat.mul_zero]
    exact (by decide : (1 : Int).natAbs < 2 ^ (0 + 1))
  | succ m ih =>
    rw [Int.pow_succ]
    exact (ih.mul h).mono (by rw [Nat.mul_succ]; omega)
theorem Bd.ite {n m : Nat} {i j : Int} {c : Prop} [Decidable c] (h : Bd n i) (g : Bd m j) : Bd (max n m) (if c then i else j) := by
  split
  · exact h.mono (Nat.le_max_left _ _)
  · exact g.mono (Nat.le_max_right _ _)
theorem Bd.rng {n : Nat} {i : Int} (h1 : -(2 ^ n : Int) < i) (h2 : i < 2 ^ n) : Bd n i := by
  show i.natAbs < 2 ^ n
  have e : ((2 ^ n : Nat) : Int) = (2 : Int) ^ n := by simp
  omega
theorem cm {n m : Nat} {i j : Int} (h : Bd n i) (g : Bd m j) (l : n + m + 2 ≤ 1000000) : CMulW i j := wide_mul (h.mono (Nat.le_succ n)) (g.mono (Nat.le_succ m)) (Nat.succ_pos _) (Nat.succ_pos _) (by omega)
theorem cdx {n : Nat} {i j : Int} (h0 : j ≠ 0) (h : Bd n j) (l : n + 1 ≤ 9000) : CDivX i j := ⟨h0, Nat.lt_of_lt_of_le (PySem.Flt.log2_lt_of (Nat.succ_pos n) (h.mono (Nat.le_succ n))) l⟩
theorem cdw {n : Nat} {i j : Int} (h0 : 0 < j) (h : Bd n j) (l : n + 1 ≤ 9000) : CDivW i j := ⟨h0, Nat.lt_of_lt_of_le (PySem.Flt.log2_lt_of (Nat.succ_pos n) (h.mono (Nat.le_succ n))) l⟩
def CPowW (i j : Int) : Prop := 0 ≤ j ∧ (PySem.Builtin.Int.intBits i : Int) * j ≤ 2 ^ 27
theorem cpw {n : Nat} {i j : Int} (h0 : 0 ≤ j) (h : Bd n i) (l : ((n + 2 : Nat) : Int) * j ≤ 2 ^ 27) : CPowW i j := by
  refine ⟨h0, Int.le_trans (Int.mul_le_mul_of_nonneg_right (Int.ofNat_le.mpr ?_) h0) l⟩
  have h1 : i.natAbs.log2 < n + 1 := PySem.Flt.log2_lt_of (Nat.succ_pos n) (h.mono (Nat.le_succ n))
  unfold PySem.Builtin.Int.intBits
  split <;> omega
section
variable {X : Cx} {o0 o : Os} {ds : List (Option Dat)} {k k1 k2 : Cs} {e c a b elt e1 e2 e3 : Expr} {es : List Expr} {d : Dat} {as : List Dat} {pos pos' pos2 p p1 p2 p3 : Pos} {rest body orelse : List Stmt} {D : Ends} {H0 : Hp} {R : Dat → Cs → Prop} {RT : Bool → Cs → Prop} {RN : List Dat → Cs → Prop} {x : Str} {scope : Scope} {j : Nat}
@[reducible] def onO (x : Option Dat) (C : Dat → Prop) : Prop := match x with | some d => C d | none => False
theorem onO_ex {x : Option Dat} {C : Dat → Prop} (h : onO x C) : ∃ d, x = some d ∧ C d := by
  cases x with
  | none => exact h.elim
  | some d => exact ⟨d, rfl, h⟩
theorem op_powW : OpR X (binaryOp .Pow) (rI CPowW fun i j => .int (i ^ j.toNat)) := opI fun _ _ _ _ _ _ _ hc q => pow_int hc.1 hc.2 q
theorem c_powW (h : EvC X o a ds k fun x k1 => EvC X o b ds k1 fun y k2 => onI x fun i => onI y fun j => CPowW i j ∧ R (.int (i ^ j.toNat)) k2) : EvC X o (.BinOp a .Pow b pos) ds k R := c_opI op_powW (fun _ _ _ => .v (.int _)) h
/-- one factor is small -/
theorem c_mulS (h : EvC X o a ds k fun x k1 => EvC X o b ds k1 fun y k2 => onI x fun i => onI y fun j => CMul i j ∧ R (.int (i * j)) k2) : EvC X o (.BinOp a .Mult b pos) ds k R := c_opI op_mul (fun _ _ _ => .v (.int _)) h
/-- a test that is a call's answer -/
theorem t_valB (h : EvC X o e ds k fun x k1 => onB x fun z => (z = true → RT true k1) ∧ (z = false → RT false k1)) (he : ∀ whole, isTrue e X.env whole = (do let v ← whole; standAt e.pos; holding [v] (truthy v)) := by intro _; rfl) : EvT X o e ds k RT :=
  t_val (h.mono fun x k1 hx => by
    obtain ⟨z, rfl, hx⟩ := onB_ex hx
    cases z with
    | true => exact hx.1 rfl
    | false => exact hx.2 rfl) he
theorem c_andB {rest : List Expr} (h : EvC X o a ds k fun x k1 => onB x fun z => (z = true → EvC X o (.BoolOp .And (b :: rest) pos) ds k1 R) ∧ (z = false → R (.bl false) k1)) : EvC X o (.BoolOp .And (a :: b :: rest) pos) ds k R :=
  c_and (h.mono fun x k1 hx => by
    obtain ⟨z, rfl, hx⟩ := onB_ex hx
    cases z with
    | true => exact hx.1 rfl
    | false => exact hx.2 rfl)
theorem c_orB {rest : List Expr} (h : EvC X o a ds k fun x k1 => onB x fun z => (z = false → EvC X o (.BoolOp .Or (b :: rest) pos) ds k1 R) ∧ (z = true → R (.bl true) k1)) : EvC X o (.BoolOp .Or (a :: b :: rest) pos) ds k R :=
  c_or (h.mono fun x k1 hx => by
    obtain ⟨z, rfl, hx⟩ := onB_ex hx
    cases z with
    | true => exact hx.2 rfl
    | false => exact hx.1 rfl)
/-- t[i], xs[i] at a place that is written -/
theorem c_ixTn (h : EvC X o a ds k fun x k1 => EvC X o b ds k1 fun y k2 => onT x fun as => onI y fun i => onO as[i.toNat]? fun d => 0 ≤ i ∧ R d k2) (hp : PlainIx b := by exact fun _ _ => rfl) : EvC X o (.Subscript a b pos) ds k R :=
  c_ixT (h.mono fun x k1 hx => hx.mono fun y k2 hy => by
    obtain ⟨as, rfl, hz⟩ := onT_ex hy
    obtain ⟨i, rfl, hz⟩ := onI_ex hz
    obtain ⟨d, hd, hz⟩ := onO_ex hz
    exact ⟨i.toNat, d, by omega, hd, hz.2⟩) hp
theorem c_ixLn (h : EvC X o a ds k fun x k1 => EvC X o b ds k1 fun y k2 => onL k2 x fun as => onI y fun i => onO as[i.toNat]? fun d => 0 ≤ i ∧ R d k2) (hp : PlainIx b := by exact fun _ _ => rfl) : EvC X o (.Subscript a b pos) ds k R :=
  c_ixL (h.mono fun x k1 hx => hx.mono fun y k2 hy => by
    have key : ∀ as, (onI y fun i => onO as[i.toNat]? fun d => 0 ≤ i ∧ R d k2) → onI y fun i => onAt as i fun d => R d k2 := fun as hz => by
      obtain ⟨i, rfl, hz⟩ := onI_ex hz
      obtain ⟨d, hd, hz⟩ := onO_ex hz
      exact ⟨i.toNat, d, by omega, hd, hz.2⟩
    cases x with
    | lst as => exact key as hy
    | cel i =>
      cases hi : k2[i]? with
      | none => simp only [onL, hi] at hy
      | some as =>
        simp only [onL, hi] at hy ⊢
        exact key as hy
    | _ => exact hy.elim) hp
/-- x = [.. for ..]: a new cell -/
theorem as_asgLc {i : Nat} {y : Str} {py : Pos} {tg iter : Expr} {ifs : List Expr} {spos : Pos} (hN : X.N.Nodup) : True := trivial
end
end Wz

set_option Elab.async false
set_option linter.all false
set_option maxRecDepth 100000
set_option maxHeartbeats 4000000
namespace Wz
open PySem PySem.Spec PyProof.Rows L2 Evl RZ
section
variable {X : Cx} {o0 o : Os} {ds : List (Option Dat)} {k k1 k2 : Cs} {e c a b elt e1 e2 e3 : Expr} {es : List Expr} {d : Dat} {as : List Dat} {pos pos' pos2 p p1 p2 p3 : Pos} {rest body orelse : List Stmt} {D : Ends} {H0 : Hp} {R : Dat → Cs → Prop} {RT : Bool → Cs → Prop} {RN : List Dat → Cs → Prop} {x : Str} {scope : Scope} {j : Nat}
theorem as_unp4 {i j l m : Nat} {x y z u : Str} {px py pz pu pt : Pos} {kt : Nat} (hN : X.N.Nodup) (hc : X.calm = true) (h : EvC X o e ds k fun d k1 => onT d fun as => ∃ d1 d2 d3 d4, as = [d1, d2, d3, d4] ∧ AS X o0 o rest D ((((ds.set i (some d1)).set j (some d2)).set l (some d3)).set m (some d4)) k1 H0)
    (hi : X.N[i]? = some x := by rfl) (hj : X.N[j]? = some y := by rfl) (hl : X.N[l]? = some z := by rfl) (hm : X.N[m]? = some u := by rfl) (hx : Loc X.env.scope x := by exact Or.inl rfl) (hy : Loc X.env.scope y := by exact Or.inl rfl) (hz : Loc X.env.scope z := by exact Or.inl rfl) (hu : Loc X.env.scope u := by exact Or.inl rfl)
    (hfx : X.fn x = true ∨ X.env.scope.names.lookup x = some .local := by exact .inl rfl) (hfy : X.fn y = true ∨ X.env.scope.names.lookup y = some .local := by exact .inl rfl) (hfz : X.fn z = true ∨ X.env.scope.names.lookup z = some .local := by exact .inl rfl) (hfu : X.fn u = true ∨ X.env.scope.names.lookup u = some .local := by exact .inl rfl)
    (hs : swapsWithSole [.Tuple [.Name x px, .Name y py, .Name z pz, .Name u pu] kt pt] e pos.line X.env = pure false := by rfl) (hw : swappedStores [.Tuple [.Name x px, .Name y py, .Name z pz, .Name u pu] kt pt] e X.env = pure none := by rfl) :
    AS X o0 o (.Assign [.Tuple [.Name x px, .Name y py, .Name z pz, .Name u pu] kt pt] e pos :: rest) D ds k H0 := fun st H S hk e0 fr =>
  wb_cons (wss (ps_asg pe_w (pg_tup hc (pgs_cons (pg_name hN hi hx hfx) (pgs_cons (pg_name hN hj hy hfy) (pgs_cons (pg_name hN hl hz hfz) (pgs_cons (pg_name hN hm hu hfu) pgs_nil))))) hs hw) (h st H _ S hk fun d k1 v H1 hr e1 hk1 h1 => by
    obtain ⟨as, rfl, hz⟩ := onT_ex hr
    obtain ⟨d1, d2, d3, d4, rfl, hy⟩ := hz
    obtain ⟨a, xs, rfl, hsq, hd⟩ := h1.untup
    match xs, hd with
    | [v1, v2, v3, v4], hd =>
      exact ⟨a, _, rfl, hsq, rfl, v1, _, rfl, v2, _, rfl, v3, _, rfl, v4, _, rfl, rfl, hy _ H1 (((((S.kp e1 hk).set (.v (hd.2 0 _ _ rfl rfl))).set (.v (hd.2 1 _ _ rfl rfl))).set (.v (hd.2 2 _ _ rfl rfl))).set (.v (hd.2 3 _ _ rfl rfl))) hk1 (fr.kp e0 e1) fr⟩))
end
end Wz

set_option Elab.async false
set_option linter.all false
set_option maxRecDepth 100000
set_option maxHeartbeats 4000000
/-! Lz11: math.gcd of three, math.isqrt, list * int, a comprehension over a range with an if, a module's dict of triples. -/
namespace Wz
open PySem PySem.Spec PyProof.Rows L2 Evl
@[reducible] def on3 (as : List Dat) (C : Dat → Dat → Dat → Prop) : Prop := match as with | [d, e, f] => C d e f | _ => False
theorem on3_ex {as : List Dat} {C : Dat → Dat → Dat → Prop} (h : on3 as C) : ∃ d e f, as = [d, e, f] ∧ C d e f := by
  match as, h with
  | [d, e, f], h => exact ⟨d, e, f, rfl, h⟩
def rtI (z : Int) : Int := ((PySem.Float64.isqrt z.toNat : Nat) : Int)
theorem rtI_ok {z : Int} (h : 0 ≤ z) : 0 ≤ rtI z ∧ rtI z * rtI z ≤ z ∧ z < (rtI z + 1) * (rtI z + 1) := by
  have q := PySem.Float64.isqrt_spec z.toNat
  have e : ((z.toNat : Nat) : Int) = z := Int.toNat_of_nonneg h
  refine ⟨Int.natCast_nonneg _, ?_, ?_⟩
  · have := Int.ofNat_le.mpr q.1
    rw [Int.natCast_mul, e] at this
    exact this
  · have := Int.ofNat_lt.mpr q.2
    rw [Int.natCast_mul, Int.natCast_add, e] at this
    exact this
section
variable {X : Cx} {o0 o : Os} {ds : List (Option Dat)} {k k1 k2 : Cs} {e c a b elt e1 e2 e3 : Expr} {es : List Expr} {d : Dat} {as : List Dat} {pos pos' pos2 p p1 p2 p3 : Pos} {rest body orelse : List Stmt} {D : Ends} {H0 : Hp} {R : Dat → Cs → Prop} {RT : Bool → Cs → Prop} {RN : List Dat → Cs → Prop} {x : Str} {scope : Scope} {j : Nat}
theorem args_gcd3 (a b c : Value) : argsOk "math.gcd" ⟨[a, b, c], []⟩ := by unfold argsOk; kernel_rfl
theorem run_gcd3 (a : Int) (t : Tok) (b : Int) (u : Tok) (c : Int) (v : Tok) :
    Gives (Builtin.«math.gcd» ⟨[.int a t, .int b u, .int c v], []⟩) (.int (((((Nat.gcd 0 a.natAbs).gcd b.natAbs).gcd c.natAbs : Nat) : Int))) :=
  .of_wp fun M A E s Q h => by obtain ⟨hp, g, d, tk, os⟩ := s; wp_walk; exact ⟨_, rfl, h⟩
theorem t_neDB (hu : X.A.units + 64 < cLine) (h : EvC X o a ds k fun x k1 => EvC X o b ds k1 fun y k2 => eqOk x y ∧ ((!PyData.eqv (pd x) (pd y)) = true → RT true k2) ∧ ((!PyData.eqv (pd x) (pd y)) = false → RT false k2)) : EvT X o (.Compare a [.NotEq] [b] pos) ds k RT :=
  t_neD hu (h.mono fun x k1 hx => hx.mono fun y k2 ⟨ok, h1, h2⟩ => ⟨ok, by
    cases e : (!PyData.eqv (pd x) (pd y)) with
    | true => exact h1 e
    | false => exact h2 e⟩)
theorem t_eqDB (hu : X.A.units + 64 < cLine) (h : EvC X o a ds k fun x k1 => EvC X o b ds k1 fun y k2 => eqOk x y ∧ (PyData.eqv (pd x) (pd y) = true → RT true k2) ∧ (PyData.eqv (pd x) (pd y) = false → RT false k2)) : EvT X o (.Compare a [.Eq] [b] pos) ds k RT :=
  t_eqD hu (h.mono fun x k1 hx => hx.mono fun y k2 ⟨ok, h1, h2⟩ => ⟨ok, by
    cases e : PyData.eqv (pd x) (pd y) with
    | true => exact h1 e
    | false => exact h2 e⟩)
def rGcd3 : List V → Hp → VK → Prop := fun vs H Q => ∃ a b c : Int, vs = [.int a, .int b, .int c] ∧ Q (.int (((a.natAbs.gcd b.natAbs).gcd c.natAbs : Nat) : Int)) H
theorem cr_gcd3 : CallR X (.builtin "math.gcd") rGcd3 := by
  intro pins s σ H vs us Q I r h
  obtain ⟨a, b, c, rfl, q⟩ := h
  cases r with
  | cons r1 r =>
    cases r with
    | cons r2 r =>
      cases r with
      | cons r3 r =>
        cases r
        obtain ⟨t1, rfl⟩ := r1
        obtain ⟨t2, rfl⟩ := r2
        obtain ⟨t3, rfl⟩ := r3
        have g := run_gcd3 a t1 b t2 c t3
        rw [Nat.gcd_zero_left] at g
        exact call_function_meets PySem.W.MGF.kind_gcd PySem.W.MGF.plain_gcd PySem.W.MGF.entry_gcd (args_gcd3 _ _ _) g.meets ⟨.int _, H, I.tok _, ⟨_, rfl⟩, q⟩
theorem c_gcd3 (hm : X.mg x = some (.builtin "math.gcd")) (h : EvA X o [e1, e2, e3] ds k fun as k1 => on3 as fun d1 d2 d3 => onI d1 fun a => onI d2 fun b => onI d3 fun c => R (.int (((a.natAbs.gcd b.natAbs).gcd c.natAbs : Nat) : Int)) k1) (hg : Gl X x := by rfl) (hdb : (x == ("__debug__" : Str)) = false := by decide)
    (he : starEach [e1, e2, e3] X.env = (false, eval e1 X.env) :: starEach [e2, e3] X.env := by rfl) (hpl : (backTo pos (starEach [e2, e3] X.env)).any (·.1) = false := by rfl) : EvC X o (.Call (.Name x p) [e1, e2, e3] [] pos) ds k R := fun st H Q St hk q =>
  we (pe_callBfun cr_gcd3 hg hm pa_w hdb he hpl) (h st H _ St hk fun as k1 vs H1 hr ex hk1 h1 => by
    obtain ⟨d1, d2, d3, rfl, hr⟩ := on3_ex hr
    obtain ⟨a, rfl, hr⟩ := onI_ex hr
    obtain ⟨b, rfl, hr⟩ := onI_ex hr
    obtain ⟨c, rfl, hr⟩ := onI_ex hr
    obtain ⟨v1, v2, v3, rfl, g1, g2, g3⟩ := dts3 h1
    have q1 := g1.unint
    have q2 := g2.unint
    have q3 := g3.unint
    subst q1 q2 q3
    exact ⟨a, b, c, rfl, q _ k1 _ H1 hr ex hk1 (.v (.int _))⟩)
def rIsq : List V → Hp → VK → Prop := fun vs H Q => ∃ a : Int, vs = [.int a] ∧ 0 ≤ a ∧ a.natAbs < 2 ^ 12000 ∧ Q (.int (rtI a)) H
theorem cr_isq : CallR X (.builtin "math.isqrt") rIsq := by
  intro pins s σ H vs us Q I r h
  obtain ⟨a, rfl, h0, hb, q⟩ := h
  cases r with
  | cons r1 r =>
    cases r
    obtain ⟨t1, rfl⟩ := r1
    have hl : a.toNat.log2 < 12000 := by
      by_cases z : a.toNat = 0
      · rw [z, Nat.log2_zero]; decide
      · rw [Nat.log2_lt z]
        have : a.toNat = a.natAbs := by omega
        rw [this]
        exact hb
    exact call_function_meets PySem.W.MGF.kind_isqrt PySem.W.MGF.plain_isqrt PySem.W.MGF.entry_isqrt (PySem.W.MGF.args_isqrt _) (PySem.W.mg_run_isqrt a t1 (by omega) (by omega) (by omega)).meets ⟨.int _, H, I.tok _, ⟨_, rfl⟩, q⟩
theorem c_isq (hm : X.mg x = some (.builtin "math.isqrt")) (h : EvA X o [e1] ds k fun as k1 => on1 as fun d => onI d fun a => (0 ≤ a ∧ Bd 12000 a) ∧ R (.int (rtI a)) k1) (hg : Gl X x := by rfl) (hdb : (x == ("__debug__" : Str)) = false := by decide)
    (he : starEach [e1] X.env = (false, eval e1 X.env) :: starEach [] X.env := by rfl) (hpl : (backTo pos (starEach [] X.env)).any (·.1) = false := by rfl) : EvC X o (.Call (.Name x p) [e1] [] pos) ds k R := fun st H Q St hk q =>
  we (pe_callBfun cr_isq hg hm pa_w hdb he hpl) (h st H _ St hk fun as k1 vs H1 hr ex hk1 h1 => by
    obtain ⟨d, rfl, hr⟩ := on1_ex hr
    obtain ⟨a, rfl, ⟨h0, hb⟩, hr⟩ := onI_ex hr
    obtain ⟨v1, rfl, g1⟩ := dts1 h1
    have q1 := g1.unint
    subst q1
    exact ⟨a, rfl, h0, hb, q _ k1 _ H1 hr ex hk1 (.v (.int _))⟩)
/-- list * int, the list new -/
theorem rep_flat {vs : List V} {ds : List Dat} {K : PySem.W.Frag} {H : Hp} (h : DVs K o H vs ds) : ∀ n : Nat, DVs K o H (List.replicate n vs).flatten (List.replicate n ds).flatten
  | 0 => DVs.nil
  | n + 1 => by
    rw [List.replicate_succ, List.replicate_succ, List.flatten_cons, List.flatten_cons]
    exact h.append (rep_flat h n)
theorem n_rep (h : EvN X o a ds k fun as k1 => EvC X o b ds k1 fun y k2 => onI y fun n => (as.all noL = true ∧ 0 ≤ n ∧ n ≤ 1000 ∧ as.length ≤ 10) ∧ RN (List.replicate n.toNat as).flatten k2) : EvN X o (.BinOp a .Mult b pos) ds k RN := fun st H Q S hk q =>
  we (pe_op op_rep pe_w pe_w) (h st H _ S hk fun as k1 p xs H1 hr np e1 hk1 hp hd => hr st H1 _ (S.kp e1 hk) hk1 fun y k2 w H2 hy e2 hk2 h2 => by
    obtain ⟨n, rfl, ⟨na, h0, hn, hl⟩, hr⟩ := onI_ex hy
    have q1 := h2.unint
    subst q1
    have nD : p ∉ o := hk.ne np
    have hp2 : H2 p = some (.lst xs) := e2 p _ nD hp
    have hm : xs.length * n.toNat ≤ 10 * 1000 := Nat.mul_le_mul (by rw [hd.1]; exact hl) (by omega)
    refine ⟨p, n, xs, rfl, rfl, hp2, by omega, by omega, Nat.le_trans hm (by decide), fun r hr' => ?_⟩
    have ee : Ex H2 (upd H2 r (.lst (List.replicate n.toNat xs).flatten)) := Ex.new hr'
    have e12 := e1.trans e2
    have hrn : H r = none := fresh_back e12 hk2 hr'
    exact q _ k2 r _ _ hr hrn (e12.trans (Kp.of_ex ee)) (hk2.ex ee) upd_same ((rep_flat (hd.kp e2 hk1) n.toNat).kp (Kp.of_ex ee) hk2))
/-- [elt for x in range(a) if c] -/
theorem n_lcRc (hcalm : X.calm = true) (hN : X.N.Nodup) (hm : X.mg "range" = none) (hok : BlkOk X.N X.env.scope scope [(x, j)]) (hgn : ∀ s H C cl fp, PG (BX X scope s H C cl fp) (.Name x p1) (gName j))
    (h : EvA X o [a] ds k fun as k1 => on1 as fun d => onI d fun n => (0 ≤ n ∧ n ≤ 10000) ∧ ∃ W, W 0 [] k1 ∧ LcC X o scope c elt ds n.toNat (fun i => some (.int (i : Int))) (fun d es => es.set j (some d)) W ∧ ∀ acc q, W n.toNat acc q → acc.all noL = true → RN acc q) (hg : Gl X "range" := by rfl) (hst : starEach [a] X.env = [(false, eval a X.env)] := by rfl)
    (hset : ∀ y, foldedSetIterable (.Call (.Name "range" p2) [a] [] p3) X.env y = pure y := by intro _; rfl) :
    EvN X o (.ListComp elt [⟨.Name x p1, .Call (.Name "range" p2) [a] [] p3, [c], 0⟩] scope pos) ds k RN := fun st H Q S hk q =>
  we (pe_lc (own := [(x, j)]) (g := gName j) (tt := bT X scope c) (te := bE X scope elt) hcalm hN (pi_range1 hg hm pa_w hst) hok hgn
    (fun s0 H0 C cl fp => pts_one ⟨fun pins s st H Q I h => h s0 H0 C cl fp pins s I⟩) (fun s0 H0 C cl fp => ⟨fun pins s st H Q I h => h s0 H0 C cl fp pins s I⟩) hset) (h st H _ S hk fun as k1 vs H1 hr e1 hk1 h1 => by
    obtain ⟨d, rfl, hr⟩ := on1_ex hr
    obtain ⟨n, rfl, hn, W, h0, L, hd⟩ := onI_ex hr
    obtain ⟨u, rfl, g1⟩ := dts1 h1
    have q1 := g1.unint
    subst q1
    refine ⟨n, rfl, by omega, by omega, fun Dr nD => ?_⟩
    refine lc_range (lo := 0) (n := n.toNat) (g := gName j) (tt := bT X scope c) (te := bE X scope elt) (vs := [j]) (σ := st) (Qd := fun H' => Q (.ref Dr) H') (CvI X.K o H1 Dr W) (cv_start nD hk1 h0) (fun i H' hi w => ?_) (fun H' w => ?_)
    · have e0 : (0 : Int) + (i : Int) = (i : Int) := Int.zero_add _
      show wipe ((wipe st [j]).set j (some (.int ((0 : Int) + (i : Int))))) [j] = wipe st [j] ∧ _
      rw [e0]
      exact lc_turn1 nD hk1 (S.kp e1 hk) L (by omega) hi rfl (.int _) w
    · obtain ⟨w1, q', acc, vs, hW, hk', hD, hv, na, hl⟩ := w
      exact q acc q' Dr vs H' (hd acc q' hW na) (fresh_back e1 hk1 nD) (e1.trans w1) hk' hD hv)
/-! a module's dict, its keys ints, its values tuples of three ints -/
def rIxI (K : PySem.W.Frag) (P : Program) (w : World) : R2 := fun x y H Q => ∃ (p : Addr) (i : Int) (es : Array DictEntry) (n : Nat) (u0 : Value) (r : V), x = .ref p ∧ y = .int i ∧ K.lookup p = some ⟨.type "dict", none, .dict es n, #[]⟩ ∧ KeysOf (intKind P w) es ∧ findBy (intKind P w).is es i = some u0 ∧ RelV r u0 ∧ Q r H
theorem ix_kdi : IxR X (rIxI X.K X.prog X.w) := by
  intro value slice pins s σ H x y v u Q I rx ry h hs
  obtain ⟨p, z, es, n, u0, r, rfl, rfl, hl, hk, e, ru, q⟩ := h
  obtain rfl : v = Value.ref p := rx
  obtain ⟨t, rfl⟩ := ry
  have hm : s.heap.MapOf (intKind X.prog X.w) p (fun y => findBy (intKind X.prog X.w).is es y) := ⟨_, es, n, I.kIn _ _ hl, ⟨rfl, rfl, rfl⟩, rfl, hk, fun _ => rfl⟩
  exact tail_any hm.typeIs slot_dict_getitem.lookup (wpAny_getItem_of (intKind_is X.prog X.w z t) hm e ⟨r, H, I.tok _, ru, q⟩) hs
abbrev T3 := Int × Int × Int
abbrev tD (t : T3) : Dat := .tup [.int t.1, .int t.2.1, .int t.2.2]
/-- a module's dict that tells a triple for each kind -/
structure KDI (P : Program) (w : World) (K : PySem.W.Frag) (mg : Str → Option Value) (x : Str) (f : Int → T3) : Prop where
  ex : ∃ (C : Addr) (es : Array DictEntry) (n : Nat), mg x = some (.ref C) ∧ K.lookup C = some ⟨.type "dict", none, .dict es n, #[]⟩ ∧ KeysOf (intKind P w) es ∧ ∀ i, (i = 2 ∨ i = 3 ∨ i = 5) → ∃ p, findBy (intKind P w).is es i = some (.ref p) ∧ ∀ H, SqT K H p [.int (f i).1, .int (f i).2.1, .int (f i).2.2]
theorem c_kdi {f : Int → T3} (t : KDI X.prog X.w X.K X.mg x f) (h : EvC X o b ds k fun y k1 => onI y fun i => (i = 2 ∨ i = 3 ∨ i = 5) ∧ R (tD (f i)) k1) (hg : Gl X x := by rfl) (hd : (x == ("__debug__" : Str)) = false := by decide) (hp : PlainIx b := by exact fun _ _ => rfl) : EvC X o (.Subscript (.Name x pos) b pos2) ds k R := fun st H Q S hk q => by
  obtain ⟨C, es, n, hm, hl, ks, hv⟩ := t.ex
  refine we (pe_ix ix_kdi (pe_glob hg hm (v := .ref C) rfl hd) pe_w hp) ?_
  refine h st H _ S hk fun y k1 v H2 hr e2 hk2 h2 => ?_
  obtain ⟨i, rfl, hi, hr⟩ := onI_ex hr
  have q1 := h2.unint
  subst q1
  obtain ⟨p, hf, hs⟩ := hv i hi
  exact ⟨C, i, es, n, _, .ref p, rfl, rfl, hl, ks, hf, rfl, q _ k1 _ H2 hr e2 hk2 (.v (.tup' (hs H2) (DVs.cons (.int _) (DVs.cons (.int _) (DVs.cons (.int _) DVs.nil)))))⟩
end
end Wz

set_option Elab.async false
set_option linter.all false
namespace Y29
open PySem Wz
/-! the mathematics of k29: signs, norms, units -/
theorem mod_sq (p : Int) (hp : p = 2 ∨ p = 3 ∨ p = 5) (x : Int) (h : (x * x) % p = 0) : x % p = 0 := by
  rcases hp with rfl | rfl | rfl
  · have : x % 2 = 0 ∨ x % 2 = 1 := by omega
    rcases this with q | q
    · exact q
    · rw [Int.mul_emod, q] at h; simp at h
  · have : x % 3 = 0 ∨ x % 3 = 1 ∨ x % 3 = 2 := by omega
    rcases this with q | q | q
    · exact q
    · rw [Int.mul_emod, q] at h; simp at h
    · rw [Int.mul_emod, q] at h; simp at h
  · have : x % 5 = 0 ∨ x % 5 = 1 ∨ x % 5 = 2 ∨ x % 5 = 3 ∨ x % 5 = 4 := by omega
    rcases this with q | q | q | q | q
    · exact q
    · rw [Int.mul_emod, q] at h; simp at h
    · rw [Int.mul_emod, q] at h; simp at h
    · rw [Int.mul_emod, q] at h; simp at h
    · rw [Int.mul_emod, q] at h; simp at h
theorem sq_irr (p : Int) (hp : p = 2 ∨ p = 3 ∨ p = 5) : ∀ (k : Nat) (x y : Int), y.natAbs < k → x * x = p * (y * y) → x = 0 ∧ y = 0 := by
  intro k
  induction k with
  | zero => intro x y h; omega
  | succ k ih =>
    intro x y hy h
    have hx : x % p = 0 := mod_sq p hp x (by rw [h, Int.mul_emod_right])
    obtain ⟨u, rfl⟩ := Int.dvd_of_emod_eq_zero hx
    have h2 : p * (u * u) = y * y := by
      have e : p * u * (p * u) = p * (p * (u * u)) := by grind
      rw [e] at h
      have p0 : p ≠ 0 := by omega
      exact Int.eq_of_mul_eq_mul_left p0 h
    have hy2 : y % p = 0 := mod_sq p hp y (by rw [← h2, Int.mul_emod_right])
    obtain ⟨v, rfl⟩ := Int.dvd_of_emod_eq_zero hy2
    by_cases hv : v = 0
    · subst hv
      have : u * u = 0 := by
        have e : p * (u * u) = 0 := by rw [h2]; simp
        rcases Int.mul_eq_zero.mp e with z | z
        · omega
        · exact z
      have hu : u = 0 := by rcases Int.mul_eq_zero.mp this with z | z <;> exact z
      subst hu
      simp
    · have lt : v.natAbs < k := by
        rw [Int.natAbs_mul] at hy
        have : 2 ≤ p.natAbs := by rcases hp with rfl | rfl | rfl <;> decide
        have q : 2 * v.natAbs ≤ p.natAbs * v.natAbs := Nat.mul_le_mul_right _ this
        omega
      have e : u * u = p * (v * v) := by
        have e1 : p * (u * u) = p * (p * (v * v)) := by rw [h2]; grind
        have p0 : p ≠ 0 := by omega
        exact Int.eq_of_mul_eq_mul_left p0 e1
      obtain ⟨h3, h4⟩ := ih u v lt e
      exact absurd h4 hv
def K3 (d : Int) : Prop := d = 2 ∨ d = 3 ∨ d = 5
theorem irr {d x y : Int} (hd : K3 d) (h : x * x = d * y * y) : x = 0 ∧ y = 0 := sq_irr d hd (y.natAbs + 1) x y (Nat.lt_succ_self _) (by rw [h, Int.mul_assoc])
/-- x + y times the root of d is above 0 -/
def Pq (d x y : Int) : Prop := (d * y * y < x * x ∧ 0 < x) ∨ (x * x < d * y * y ∧ 0 < y)
instance {d x y : Int} : Decidable (Pq d x y) := by unfold Pq; exact inferInstance
theorem sqn (x : Int) : 0 ≤ x * x := by
  rcases Int.le_total 0 x with h | h
  · exact Int.mul_nonneg h h
  · exact Int.mul_nonneg_of_nonpos_of_nonpos h h
theorem sqp {x : Int} (h : x ≠ 0) : 0 < x * x := by
  have := sqn x
  have : x * x ≠ 0 := fun z => h (by rcases Int.mul_eq_zero.mp z with q | q <;> exact q)
  omega
theorem dy {d y : Int} (hd : K3 d) : 0 ≤ d * y * y := by
  rw [Int.mul_assoc]
  exact Int.mul_nonneg (by rcases hd with rfl | rfl | rfl <;> decide) (sqn y)
/-- of squares -/
theorem lt_sq {a b : Int} (hb : 0 ≤ b) (h : a * a < b * b) : a < b := by
  refine Int.lt_of_not_ge fun z => ?_
  have := Int.mul_le_mul z z hb (by omega)
  omega
theorem pq_mul {d x y u v : Int} (hd : K3 d) (h : Pq d x y) (g : Pq d u v) : Pq d (x * u + d * y * v) (x * v + y * u) := by
  have d0 : 0 < d := by rcases hd with rfl | rfl | rfl <;> decide
  have en : (x * u + d * y * v) * (x * u + d * y * v) - d * (x * v + y * u) * (x * v + y * u) = (x * x - d * y * y) * (u * u - d * v * v) := by grind
  rcases h with ⟨h1, h2⟩ | ⟨h1, h2⟩
  · rcases g with ⟨g1, g2⟩ | ⟨g1, g2⟩
    · have p : 0 < (x * x - d * y * y) * (u * u - d * v * v) := Int.mul_pos (by omega) (by omega)
      refine .inl ⟨by omega, ?_⟩
      have hxu : 0 < x * u := Int.mul_pos h2 g2
      have q : (d * y * v) * (d * y * v) < (x * u) * (x * u) := by
        have e1 : (d * y * v) * (d * y * v) = (d * y * y) * (d * v * v) := by grind
        have e2 : (x * u) * (x * u) = (x * x) * (u * u) := by grind
        rw [e1, e2]
        have a1 := dy (d := d) (y := y) hd
        have a2 := dy (d := d) (y := v) hd
        have s1 : (d * y * y) * (d * v * v) ≤ (d * y * y) * (u * u) := Int.mul_le_mul_of_nonneg_left (by omega) a1
        have s2 : (d * y * y) * (u * u) < (x * x) * (u * u) := Int.mul_lt_mul_of_pos_right h1 (sqp (by omega))
        omega
      have q2 : (-(d * y * v)) * (-(d * y * v)) < (x * u) * (x * u) := by rw [Int.neg_mul_neg]; exact q
      have := lt_sq (by omega) q2
      omega
    · have p : (x * x - d * y * y) * (u * u - d * v * v) < 0 := Int.mul_neg_of_pos_of_neg (by omega) (by omega)
      refine .inr ⟨by omega, ?_⟩
      have hxv : 0 < x * v := Int.mul_pos h2 g2
      have q : (y * u) * (y * u) < (x * v) * (x * v) := by
        have e1 : d * ((y * u) * (y * u)) = (d * y * y) * (u * u) := by grind
        have e2 : d * ((x * v) * (x * v)) = (x * x) * (d * v * v) := by grind
        have s1 : (d * y * y) * (u * u) ≤ (x * x) * (u * u) := Int.mul_le_mul_of_nonneg_right (by omega) (sqn u)
        have s2 : (x * x) * (u * u) < (x * x) * (d * v * v) := Int.mul_lt_mul_of_pos_left g1 (sqp (by omega))
        refine Int.lt_of_mul_lt_mul_left (a := d) ?_ (by omega)
        rw [e1, e2]
        omega
      have q2 : (-(y * u)) * (-(y * u)) < (x * v) * (x * v) := by rw [Int.neg_mul_neg]; exact q
      have := lt_sq (by omega) q2
      omega
  · rcases g with ⟨g1, g2⟩ | ⟨g1, g2⟩
    · have p : (x * x - d * y * y) * (u * u - d * v * v) < 0 := Int.mul_neg_of_neg_of_pos (by omega) (by omega)
      refine .inr ⟨by omega, ?_⟩
      have hxv : 0 < y * u := Int.mul_pos h2 g2
      have q : (x * v) * (x * v) < (y * u) * (y * u) := by
        have e1 : d * ((y * u) * (y * u)) = (d * y * y) * (u * u) := by grind
        have e2 : d * ((x * v) * (x * v)) = (x * x) * (d * v * v) := by grind
        have s1 : (x * x) * (d * v * v) ≤ (x * x) * (u * u) := Int.mul_le_mul_of_nonneg_left (by omega) (sqn x)
        have s2 : (x * x) * (u * u) < (d * y * y) * (u * u) := Int.mul_lt_mul_of_pos_right h1 (sqp (by omega))
        refine Int.lt_of_mul_lt_mul_left (a := d) ?_ (by omega)
        rw [e1, e2]
        omega
      have q2 : (-(x * v)) * (-(x * v)) < (y * u) * (y * u) := by rw [Int.neg_mul_neg]; exact q
      have := lt_sq (by omega) q2
      omega
    · have p : 0 < (x * x - d * y * y) * (u * u - d * v * v) := Int.mul_pos_of_neg_of_neg (by omega) (by omega)
      refine .inl ⟨by omega, ?_⟩
      have hxu : 0 < d * y * v := Int.mul_pos (Int.mul_pos d0 h2) g2
      have q : (x * u) * (x * u) < (d * y * v) * (d * y * v) := by
        have e1 : (d * y * v) * (d * y * v) = (d * y * y) * (d * v * v) := by grind
        have e2 : (x * u) * (x * u) = (x * x) * (u * u) := by grind
        rw [e1, e2]
        have s1 : (x * x) * (u * u) ≤ (x * x) * (d * v * v) := Int.mul_le_mul_of_nonneg_left (by omega) (sqn x)
        have a2 : 0 < d * v * v := Int.mul_pos (Int.mul_pos d0 g2) g2
        have s2 : (x * x) * (d * v * v) < (d * y * y) * (d * v * v) := Int.mul_lt_mul_of_pos_right h1 a2
        omega
      have q2 : (-(x * u)) * (-(x * u)) < (d * y * v) * (d * y * v) := by rw [Int.neg_mul_neg]; exact q
      have := lt_sq (by omega) q2
      omega
theorem pq_two {d x y : Int} : Pq d (2 * x) (2 * y) ↔ Pq d x y := by
  unfold Pq
  have e1 : 2 * x * (2 * x) = 4 * (x * x) := by grind
  have e2 : d * (2 * y) * (2 * y) = 4 * (d * y * y) := by grind
  rw [e1, e2]
  omega
/-- the cases of the program -/
theorem pq_cases {d x y : Int} (hd : K3 d) : Pq d x y ↔ (0 ≤ x ∧ 0 ≤ y ∧ ¬ (x = 0 ∧ y = 0)) ∨ (¬ (0 ≤ x ∧ 0 ≤ y) ∧ ¬ (x ≤ 0 ∧ y ≤ 0) ∧ ((d * y * y < x * x ∧ 0 < x) ∨ (¬ d * y * y < x * x ∧ 0 < y))) := by
  have hi : x * x = d * y * y → x = 0 ∧ y = 0 := irr hd
  have hn := dy (d := d) (y := y) hd
  have hx := sqn x
  have d0 : 0 < d := by rcases hd with rfl | rfl | rfl <;> decide
  have y0 : y = 0 → d * y * y = 0 := fun e => by rw [e]; simp
  have x0 : x = 0 → x * x = 0 := fun e => by rw [e]; simp
  have hy : y ≠ 0 → 0 < d * y * y := fun e => by rw [Int.mul_assoc]; exact Int.mul_pos d0 (sqp e)
  have hx' : x ≠ 0 → 0 < x * x := sqp
  unfold Pq
  generalize d * y * y = A at *
  generalize x * x = B at *
  constructor
  · omega
  · omega
end Y29

set_option Elab.async false
set_option linter.all false
set_option maxRecDepth 100000
set_option maxHeartbeats 4000000
namespace Y02
open PySem PySem.Spec PyProof.Rows L2 Evl Wz
abbrev nD (a b n : Int) : Dat := .tup [.int a, .int b, .int n]
def g3 (a b n : Int) : Int := (((a.natAbs.gcd b.natAbs).gcd n.natAbs : Nat) : Int)
def sg (a b n : Int) : Int := if decide (n < 0) = true then -(g3 a b n) else g3 a b n
def loA (a b n : Int) : Int := a.fdiv (sg a b n)
def loB (a b n : Int) : Int := b.fdiv (sg a b n)
def loN (a b n : Int) : Int := n.fdiv (sg a b n)
abbrev loD (a b n : Int) : Dat := nD (loA a b n) (loB a b n) (loN a b n)
theorem g3_ne {a b n : Int} (h : n ≠ 0) : g3 a b n ≠ 0 := by
  have : 0 < (a.natAbs.gcd b.natAbs).gcd n.natAbs := Nat.gcd_pos_of_pos_right _ (Int.natAbs_pos.mpr h)
  unfold g3
  omega
theorem g3_bd {a b n : Int} {m : Nat} (h : n ≠ 0) (hb : Bd m n) : Bd m (g3 a b n) := by
  have h1 : (a.natAbs.gcd b.natAbs).gcd n.natAbs ≤ n.natAbs := Nat.gcd_le_right _ (Int.natAbs_pos.mpr h)
  have h2 : n.natAbs < 2 ^ m := hb
  show (g3 a b n).natAbs < 2 ^ m
  unfold g3
  rw [Int.natAbs_natCast]
  omega
theorem sg_ne {a b n : Int} (h : n ≠ 0) : sg a b n ≠ 0 := by
  have := g3_ne (a := a) (b := b) h
  unfold sg
  split <;> omega
theorem sg_bd {a b n : Int} {m : Nat} (h : n ≠ 0) (hb : Bd m n) : Bd m (sg a b n) := by
  have := g3_bd (a := a) (b := b) h hb
  unfold sg
  split
  · exact this.neg
  · exact this
def Kd (k : Int) : Prop := k = 2 ∨ k = 3 ∨ k = 5
theorem Kd.bd {k : Int} (h : Kd k) : Bd 3 k := by rcases h with rfl | rfl | rfl <;> (show Int.natAbs _ < 2 ^ 3; decide)
def ptA (k a b c d : Int) : Int := if k = 5 then a * c + b * d else a * c + k * (b * d)
def ptB (k a b c d : Int) : Int := if k = 5 then a * d + b * c + b * d else a * d + b * c
def isN (a b n : Int) : Bool := decide (1 ≤ n) && decide (g3 a b n = 1)
def Nm (a b n : Int) : Prop := isN a b n = true
theorem Nm.pos {a b n : Int} (h : Nm a b n) : 1 ≤ n := by
  have h' : (decide (1 ≤ n) && decide (g3 a b n = 1)) = true := h
  rw [Bool.and_eq_true] at h'
  exact of_decide_eq_true h'.1
theorem Nm.ne {a b n : Int} (h : Nm a b n) : n ≠ 0 := by have := h.pos; omega
theorem g3_mul (a b n t : Int) : g3 (a * t) (b * t) (n * t) = g3 a b n * (t.natAbs : Int) := by
  unfold g3
  rw [Int.natAbs_mul, Int.natAbs_mul, Int.natAbs_mul, Nat.gcd_mul_right, Nat.gcd_mul_right, Int.natCast_mul]
theorem g3_dvd (a b n : Int) : g3 a b n ∣ a ∧ g3 a b n ∣ b ∧ g3 a b n ∣ n := by
  unfold g3
  have h1 := Nat.gcd_dvd_left (a.natAbs.gcd b.natAbs) n.natAbs
  have h2 := Nat.gcd_dvd_right (a.natAbs.gcd b.natAbs) n.natAbs
  have h3 := Nat.gcd_dvd_left a.natAbs b.natAbs
  have h4 := Nat.gcd_dvd_right a.natAbs b.natAbs
  refine ⟨Int.natAbs_dvd_natAbs.mp ?_, Int.natAbs_dvd_natAbs.mp ?_, Int.natAbs_dvd_natAbs.mp ?_⟩
  · rw [Int.natAbs_natCast]; exact Nat.dvd_trans h1 h3
  · rw [Int.natAbs_natCast]; exact Nat.dvd_trans h1 h4
  · rw [Int.natAbs_natCast]; exact h2
theorem sg_dvd (a b n : Int) : sg a b n ∣ a ∧ sg a b n ∣ b ∧ sg a b n ∣ n := by
  obtain ⟨h1, h2, h3⟩ := g3_dvd a b n
  unfold sg
  split
  · exact ⟨Int.neg_dvd.mpr h1, Int.neg_dvd.mpr h2, Int.neg_dvd.mpr h3⟩
  · exact ⟨h1, h2, h3⟩
theorem fdiv_mul {a g : Int} (h : g ≠ 0) (d : g ∣ a) : a.fdiv g * g = a := by
  obtain ⟨c, rfl⟩ := d
  rw [Int.mul_fdiv_cancel_left _ h, Int.mul_comm]
theorem lo_mul {a b n : Int} (h : n ≠ 0) : loA a b n * sg a b n = a ∧ loB a b n * sg a b n = b ∧ loN a b n * sg a b n = n := by
  obtain ⟨h1, h2, h3⟩ := sg_dvd a b n
  have g := sg_ne (a := a) (b := b) h
  exact ⟨fdiv_mul g h1, fdiv_mul g h2, fdiv_mul g h3⟩
theorem g3_pos {a b n : Int} (h : n ≠ 0) : 0 < g3 a b n := by
  have h1 := g3_ne (a := a) (b := b) h
  have h2 : 0 ≤ g3 a b n := Int.natCast_nonneg _
  omega
theorem sg_abs (a b n : Int) : ((sg a b n).natAbs : Int) = g3 a b n := by
  have h2 : 0 ≤ g3 a b n := Int.natCast_nonneg _
  unfold sg
  split <;> omega
/-- what lowest gives is a number -/
theorem lo_nm {a b n : Int} (h : n ≠ 0) : Nm (loA a b n) (loB a b n) (loN a b n) := by
  obtain ⟨e1, e2, e3⟩ := lo_mul (a := a) (b := b) h
  have gp := g3_pos (a := a) (b := b) h
  have hm := g3_mul (loA a b n) (loB a b n) (loN a b n) (sg a b n)
  rw [e1, e2, e3, sg_abs] at hm
  have h1 : g3 (loA a b n) (loB a b n) (loN a b n) = 1 := by
    have : 1 * g3 a b n = g3 (loA a b n) (loB a b n) (loN a b n) * g3 a b n := by rw [Int.one_mul]; exact hm
    exact (Int.eq_of_mul_eq_mul_right (by omega) this).symm
  have h2 : 1 ≤ loN a b n := by
    have hs : sg a b n = if decide (n < 0) = true then -(g3 a b n) else g3 a b n := rfl
    by_cases hn : n < 0
    · rw [decide_eq_true hn, if_pos rfl] at hs
      rw [hs] at e3
      by_cases hl : 1 ≤ loN a b n
      · exact hl
      · have : 0 ≤ loN a b n * -(g3 a b n) := Int.mul_nonneg_of_nonpos_of_nonpos (by omega) (by omega)
        omega
    · rw [decide_eq_false hn, if_neg Bool.false_ne_true] at hs
      rw [hs] at e3
      by_cases hl : 1 ≤ loN a b n
      · exact hl
      · have : loN a b n * (g3 a b n) ≤ 0 := Int.mul_nonpos_of_nonpos_of_nonneg (by omega) (by omega)
        omega
  show isN _ _ _ = true
  unfold isN
  rw [decide_eq_true h1, decide_eq_true h2]
  rfl
theorem Nm.g {a b n : Int} (h : Nm a b n) : g3 a b n = 1 := by
  have h' : (decide (1 ≤ n) && decide (g3 a b n = 1)) = true := h
  rw [Bool.and_eq_true] at h'
  exact of_decide_eq_true h'.2
/-- two numbers in their form are the same if they are the same crosswise -/
theorem nm_one {a b n c e m : Int} (h : Nm a b n) (g : Nm c e m) (h1 : a * m = c * n) (h2 : b * m = e * n) : a = c ∧ b = e ∧ n = m := by
  have p1 := h.pos
  have p2 := g.pos
  have q1 := g3_mul a b n m
  have q2 := g3_mul c e m n
  rw [h.g, Int.one_mul] at q1
  rw [g.g, Int.one_mul] at q2
  rw [h1, h2, Int.mul_comm n m] at q1
  rw [q1] at q2
  have en : n = m := by omega
  subst en
  exact ⟨Int.eq_of_mul_eq_mul_right (by omega) h1, Int.eq_of_mul_eq_mul_right (by omega) h2, rfl⟩
/-- lowest crosswise -/
theorem lo_cross {a b n : Int} (h : n ≠ 0) : loA a b n * n = a * loN a b n ∧ loB a b n * n = b * loN a b n := by
  obtain ⟨e1, e2, e3⟩ := lo_mul (a := a) (b := b) h
  have gn := sg_ne (a := a) (b := b) h
  refine ⟨?_, ?_⟩
  · refine Int.eq_of_mul_eq_mul_right gn ?_
    calc loA a b n * n * sg a b n = (loA a b n * sg a b n) * n := by rw [Int.mul_assoc, Int.mul_comm n, ← Int.mul_assoc]
      _ = a * n := by rw [e1]
      _ = a * (loN a b n * sg a b n) := by rw [e3]
      _ = a * loN a b n * sg a b n := by rw [Int.mul_assoc]
  · refine Int.eq_of_mul_eq_mul_right gn ?_
    calc loB a b n * n * sg a b n = (loB a b n * sg a b n) * n := by rw [Int.mul_assoc, Int.mul_comm n, ← Int.mul_assoc]
      _ = b * n := by rw [e2]
      _ = b * (loN a b n * sg a b n) := by rw [e3]
      _ = b * loN a b n * sg a b n := by rw [Int.mul_assoc]
/-- lowest is the one number that is so crosswise -/
theorem lo_is {a b n c e m : Int} (h : n ≠ 0) (g : Nm c e m) (h1 : a * m = c * n) (h2 : b * m = e * n) : loA a b n = c ∧ loB a b n = e ∧ loN a b n = m := by
  obtain ⟨x1, x2⟩ := lo_cross (a := a) (b := b) h
  have ln := (lo_nm (a := a) (b := b) h).ne
  refine nm_one (lo_nm h) g ?_ ?_
  · refine Int.eq_of_mul_eq_mul_right h ?_
    calc loA a b n * m * n = (loA a b n * n) * m := by rw [Int.mul_assoc, Int.mul_comm m, ← Int.mul_assoc]
      _ = a * loN a b n * m := by rw [x1]
      _ = a * m * loN a b n := by rw [Int.mul_assoc, Int.mul_comm (loN a b n), ← Int.mul_assoc]
      _ = c * n * loN a b n := by rw [h1]
      _ = c * loN a b n * n := by rw [Int.mul_assoc, Int.mul_comm n, ← Int.mul_assoc]
  · refine Int.eq_of_mul_eq_mul_right h ?_
    calc loB a b n * m * n = (loB a b n * n) * m := by rw [Int.mul_assoc, Int.mul_comm m, ← Int.mul_assoc]
      _ = b * loN a b n * m := by rw [x2]
      _ = b * m * loN a b n := by rw [Int.mul_assoc, Int.mul_comm (loN a b n), ← Int.mul_assoc]
      _ = e * n * loN a b n := by rw [h2]
      _ = e * loN a b n * n := by rw [Int.mul_assoc, Int.mul_comm n, ← Int.mul_assoc]
theorem lo_self {a b n : Int} (h : Nm a b n) : loA a b n = a ∧ loB a b n = b ∧ loN a b n = n := lo_is h.ne h rfl rfl
theorem lo_bd1 {x g : Int} {m : Nat} (hg : g ≠ 0) (d : g ∣ x) (h : Bd m x) : Bd m (x.fdiv g) := by
  have e := fdiv_mul hg d
  show (x.fdiv g).natAbs < 2 ^ m
  have h1 : x.natAbs < 2 ^ m := h
  rw [← e, Int.natAbs_mul] at h1
  have h2 : 1 ≤ g.natAbs := Int.natAbs_pos.mpr hg
  have h3 : (x.fdiv g).natAbs * 1 ≤ (x.fdiv g).natAbs * g.natAbs := Nat.mul_le_mul_left _ h2
  omega
theorem lo_bd {a b n : Int} {m : Nat} (h : n ≠ 0) (h1 : Bd m a) (h2 : Bd m b) (h3 : Bd m n) : Bd m (loA a b n) ∧ Bd m (loB a b n) ∧ Bd m (loN a b n) := by
  obtain ⟨d1, d2, d3⟩ := sg_dvd a b n
  have g := sg_ne (a := a) (b := b) h
  exact ⟨lo_bd1 g d1 h1, lo_bd1 g d2 h2, lo_bd1 g d3 h3⟩
def b01 (b : Bool) : Int := if b = true then 1 else 0
/-- the sign, by squares -/
def sgL (K x y : Int) : Int :=
  if 0 ≤ x * y then b01 (decide (0 < x + y)) - b01 (decide (x + y < 0))
  else if 0 < x then b01 (decide (0 < x * x - K * y * y)) - b01 (decide (x * x - K * y * y < 0))
  else b01 (decide (x * x - K * y * y < 0)) - b01 (decide (0 < x * x - K * y * y))
/-- the sign, by cases of both signs -/
def sgP (K x y : Int) : Int :=
  if 0 ≤ x ∧ 0 ≤ y then (if x ≠ 0 ∨ y ≠ 0 then 1 else 0)
  else if x ≤ 0 ∧ y ≤ 0 then -1
  else if K * y * y < x * x then (if 0 < x then 1 else -1)
  else (if 0 < y then 1 else -1)
def K3 (K : Int) : Prop := K = 2 ∨ K = 3 ∨ K = 5
theorem b01_t {b : Bool} (h : b = true) : b01 b = 1 := if_pos h
theorem b01_f {b : Bool} (h : b = false) : b01 b = 0 := by rw [h]; rfl
theorem bp {p : Prop} [Decidable p] (h : p) : b01 (decide p) = 1 := b01_t (decide_eq_true h)
theorem bn {p : Prop} [Decidable p] (h : ¬ p) : b01 (decide p) = 0 := b01_f (decide_eq_false h)
theorem mul_neg_of {x y : Int} (h : (0 < x ∧ y < 0) ∨ (x < 0 ∧ 0 < y)) : ¬ 0 ≤ x * y := by
  rcases h with ⟨h1, h2⟩ | ⟨h1, h2⟩
  · have := Int.mul_neg_of_pos_of_neg h1 h2; omega
  · have := Int.mul_neg_of_neg_of_pos h1 h2; omega
theorem mul_nn_of {x y : Int} (h : (0 ≤ x ∧ 0 ≤ y) ∨ (x ≤ 0 ∧ y ≤ 0)) : 0 ≤ x * y := by
  rcases h with ⟨h1, h2⟩ | ⟨h1, h2⟩
  · exact Int.mul_nonneg h1 h2
  · exact Int.mul_nonneg_of_nonpos_of_nonpos h1 h2
theorem irr {K x y : Int} (hK : K3 K) (h : x * x - K * y * y = 0) : x = 0 ∧ y = 0 := by
  have h2 : x * x = K * (y * y) := by rw [← Int.mul_assoc]; omega
  exact Y29.sq_irr K hK (y.natAbs + 1) x y (Nat.lt_succ_self _) h2
theorem sg_eq {K x y : Int} (hK : K3 K) : sgP K x y = sgL K x y := by
  unfold sgP sgL
  by_cases h1 : 0 ≤ x ∧ 0 ≤ y
  · rw [if_pos h1, if_pos (mul_nn_of (.inl h1))]
    by_cases h2 : x ≠ 0 ∨ y ≠ 0
    · rw [if_pos h2, bp (show 0 < x + y by omega), bn (show ¬ x + y < 0 by omega)]; rfl
    · rw [if_neg h2, bn (show ¬ 0 < x + y by omega), bn (show ¬ x + y < 0 by omega)]; rfl
  · rw [if_neg h1]
    by_cases h2 : x ≤ 0 ∧ y ≤ 0
    · rw [if_pos h2, if_pos (mul_nn_of (.inr h2)), bn (show ¬ 0 < x + y by omega), bp (show x + y < 0 by omega)]; rfl
    · rw [if_neg h2, if_neg (mul_neg_of (by omega))]
      have ne : x * x - K * y * y ≠ 0 := fun z => by
        obtain ⟨a, b⟩ := irr hK z
        omega
      generalize x * x = X at *
      generalize K * y * y = Y at *
      by_cases h3 : Y < X
      · rw [if_pos h3]
        by_cases h4 : 0 < x
        · rw [if_pos h4, if_pos h4, bp (by omega), bn (by omega)]; rfl
        · rw [if_neg h4, if_neg h4, bp (show 0 < X - Y by omega), bn (show ¬ X - Y < 0 by omega)]; rfl
      · rw [if_neg h3]
        by_cases h4 : 0 < x
        · rw [if_neg (show ¬ 0 < y by omega), if_pos h4, bn (show ¬ 0 < X - Y by omega), bp (show X - Y < 0 by omega)]; rfl
        · rw [if_pos (show 0 < y by omega), if_neg h4, bn (show ¬ 0 < X - Y by omega), bp (show X - Y < 0 by omega)]; rfl
theorem pos_mul {x t : Int} (ht : 0 < t) : (0 < x * t ↔ 0 < x) ∧ (x * t < 0 ↔ x < 0) ∧ (0 ≤ x * t ↔ 0 ≤ x) := by
  have h1 : 0 < x → 0 < x * t := fun h => Int.mul_pos h ht
  have h2 : x < 0 → x * t < 0 := fun h => Int.mul_neg_of_neg_of_pos h ht
  have h3 : x = 0 → x * t = 0 := fun h => by rw [h, Int.zero_mul]
  refine ⟨⟨fun h => ?_, h1⟩, ⟨fun h => ?_, h2⟩, ⟨fun h => ?_, fun h => ?_⟩⟩ <;> rcases Int.lt_trichotomy x 0 with c | c | c <;> (try have := h2 c) <;> (try have := h3 c) <;> (try have := h1 c) <;> omega
theorem dec_congr {p q : Prop} [Decidable p] [Decidable q] (h : p ↔ q) : decide p = decide q := by
  by_cases hp : p
  · rw [decide_eq_true hp, decide_eq_true (h.mp hp)]
  · rw [decide_eq_false hp, decide_eq_false (fun z => hp (h.mpr z))]
theorem ite_congr2 {p q : Prop} [Decidable p] [Decidable q] {a b c d : Int} (h : p ↔ q) (h1 : a = c) (h2 : b = d) : (if p then a else b) = (if q then c else d) := by
  subst h1 h2
  by_cases hp : p
  · rw [if_pos hp, if_pos (h.mp hp)]
  · rw [if_neg hp, if_neg (fun z => hp (h.mpr z))]
/-- times a number above 0 the sign stays -/
theorem sg_mul {K x y t : Int} (ht : 0 < t) : sgL K (x * t) (y * t) = sgL K x y := by
  have tt : 0 < t * t := Int.mul_pos ht ht
  have e1 : x * t * (y * t) = x * y * (t * t) := by grind
  have e2 : x * t + y * t = (x + y) * t := by grind
  have e3 : x * t * (x * t) - K * (y * t) * (y * t) = (x * x - K * y * y) * (t * t) := by grind
  unfold sgL
  rw [e1, e2, e3]
  have p1 := pos_mul (x := x * y) tt
  have p2 := pos_mul (x := x + y) ht
  have p3 := pos_mul (x := x * x - K * y * y) tt
  have p4 := pos_mul (x := x) ht
  rw [dec_congr p2.1, dec_congr p2.2.1, dec_congr p3.1, dec_congr p3.2.1]
  exact ite_congr2 p1.2.2 rfl (ite_congr2 p4.1 rfl rfl)
/-- s is the root of K y y, rounded down; r the floor of y√K -/
def rtF (s y : Int) : Int := if y < 0 then -s - 1 else s
theorem sq_le {a b : Int} (h0 : 0 ≤ a) (h : a ≤ b) : a * a ≤ b * b := Int.mul_le_mul h h h0 (by omega)
theorem neg_sq (a : Int) : -a * -a = a * a := Int.neg_mul_neg a a
theorem sg_up {K X y s : Int} (hs : 0 ≤ s) (h1 : s * s ≤ K * y * y) (h2 : K * y * y < (s + 1) * (s + 1)) (h : 0 ≤ X + rtF s y) : 0 ≤ sgL K X y := by
  unfold rtF at h
  unfold sgL
  by_cases hy : y < 0
  · rw [if_pos hy] at h
    have q := sq_le (a := s + 1) (b := X) (by omega) (by omega)
    rw [if_neg (mul_neg_of (by omega)), if_pos (show 0 < X by omega), bp (show 0 < X * X - K * y * y by omega), bn (show ¬ X * X - K * y * y < 0 by omega)]
    decide
  · rw [if_neg hy] at h
    by_cases hX : 0 ≤ X
    · rw [if_pos (mul_nn_of (by omega)), bn (show ¬ X + y < 0 by omega)]
      unfold b01
      split <;> decide
    · have q := sq_le (a := -X) (b := s) (by omega) (by omega)
      rw [neg_sq] at q
      by_cases h0 : y = 0
      · subst h0
        rw [Int.mul_zero] at h1
        have : s * s = 0 := by have := Int.mul_nonneg hs hs; omega
        have s0 : s = 0 := by rcases Int.mul_eq_zero.mp this with z | z <;> exact z
        omega
      · rw [if_neg (mul_neg_of (by omega)), if_neg (show ¬ 0 < X by omega), bn (show ¬ 0 < X * X - K * y * y by omega)]
        unfold b01
        split <;> decide
theorem sg_dn {K X y s : Int} (hK : K3 K) (hs : 0 ≤ s) (h1 : s * s ≤ K * y * y) (h2 : K * y * y < (s + 1) * (s + 1)) (h : X + rtF s y < 0) : sgL K X y < 0 := by
  unfold rtF at h
  unfold sgL
  by_cases hy : y < 0
  · rw [if_pos hy] at h
    by_cases hX : X ≤ 0
    · rw [if_pos (mul_nn_of (by omega)), bn (show ¬ 0 < X + y by omega), bp (show X + y < 0 by omega)]
      decide
    · have q := sq_le (a := X) (b := s) (by omega) (by omega)
      have ne : X * X - K * y * y ≠ 0 := fun z => by
        obtain ⟨a, b⟩ := irr hK z
        omega
      rw [if_neg (mul_neg_of (by omega)), if_pos (show 0 < X by omega), bn (show ¬ 0 < X * X - K * y * y by omega), bp (show X * X - K * y * y < 0 by omega)]
      decide
  · rw [if_neg hy] at h
    have q := sq_le (a := s + 1) (b := -X) (by omega) (by omega)
    rw [neg_sq] at q
    by_cases h0 : y = 0
    · subst h0
      rw [if_pos (by rw [Int.mul_zero]; omega), bn (show ¬ 0 < X + 0 by omega), bp (show X + 0 < 0 by omega)]
      decide
    · rw [if_neg (mul_neg_of (by omega)), if_neg (show ¬ 0 < X by omega), bp (show 0 < X * X - K * y * y by omega), bn (show ¬ X * X - K * y * y < 0 by omega)]
      decide
def lsD (k a b : Int) : Int := if k = 5 then sgL k (2 * a + b) b else sgL k a b
def psD (k a b : Int) : Int := if k = 5 then sgP k (2 * a + b) b else sgP k a b
theorem ps_ls {k a b : Int} (hk : Kd k) : psD k a b = lsD k a b := by
  unfold psD lsD
  rw [sg_eq hk, sg_eq hk]
theorem ls_mul {k a b t : Int} (ht : 0 < t) : lsD k (a * t) (b * t) = lsD k a b := by
  unfold lsD
  rw [show 2 * (a * t) + b * t = (2 * a + b) * t by grind, sg_mul ht, sg_mul ht]
theorem sg_pos {a b n : Int} (h : 0 < n) : 0 < sg a b n := by
  unfold sg
  rw [if_neg (by rw [decide_eq_false (by omega)]; decide)]
  exact g3_pos (by omega)
/-- in lowest terms the sign stays -/
theorem ls_lo {k a b n : Int} (h : 0 < n) : lsD k (loA a b n) (loB a b n) = lsD k a b := by
  have q := lo_mul (a := a) (b := b) (n := n) (by omega)
  have e := ls_mul (k := k) (a := loA a b n) (b := loB a b n) (sg_pos (a := a) (b := b) h)
  rw [q.1, q.2.1] at e
  exact e.symm
def flA (k a b : Int) : Int := if k = 5 then 2 * a + b else a
def flN (k n : Int) : Int := if k = 5 then 2 * n else n
/-- the floor, s the root of k b b, rounded down -/
def flQ (k a b n s : Int) : Int := (flA k a b + rtF s b) / flN k n
theorem fl_ok {k a b n s : Int} (hk : Kd k) (hn : 0 < n) (hs : 0 ≤ s) (h1 : s * s ≤ k * b * b) (h2 : k * b * b < (s + 1) * (s + 1)) :
    0 ≤ lsD k (a - flQ k a b n s * n) b ∧ lsD k (a - (flQ k a b n s + 1) * n) b < 0 := by
  have hN : 0 < flN k n := by unfold flN; split <;> omega
  have m1 := Int.emod_nonneg (flA k a b + rtF s b) (show flN k n ≠ 0 by omega)
  have m2 := Int.emod_lt_of_pos (flA k a b + rtF s b) hN
  have m3 := Int.mul_ediv_add_emod (flA k a b + rtF s b) (flN k n)
  rw [Int.mul_comm] at m3
  change flQ k a b n s * flN k n + _ = _ at m3
  generalize flQ k a b n s = q at *
  have d : (q + 1) * flN k n = q * flN k n + flN k n := by rw [Int.add_mul, Int.one_mul]
  have d2 : (q + 1) * n = q * n + n := by rw [Int.add_mul, Int.one_mul]
  rw [d2]
  unfold lsD
  by_cases h5 : k = 5
  · have eA : flA k a b = 2 * a + b := if_pos h5
    have eN : flN k n = 2 * n := if_pos h5
    rw [if_pos h5, if_pos h5]
    rw [eA, eN] at m1 m2 m3
    rw [eN] at d
    have e4 : q * (2 * n) = 2 * (q * n) := by grind
    rw [e4] at m3
    exact ⟨sg_up hs h1 h2 (by omega), sg_dn hk hs h1 h2 (by omega)⟩
  · have eA : flA k a b = a := if_neg h5
    have eN : flN k n = n := if_neg h5
    rw [if_neg h5, if_neg h5]
    rw [eA, eN] at m1 m2 m3
    exact ⟨sg_up hs h1 h2 (by omega), sg_dn hk hs h1 h2 (by omega)⟩
/-- as the law looks at it: of the number less q, in lowest terms -/
theorem fl_law {k a b n s : Int} (hk : Kd k) (hn : 0 < n) (hs : 0 ≤ s) (h1 : s * s ≤ k * b * b) (h2 : k * b * b < (s + 1) * (s + 1)) :
    let q := flQ k a b n s
    0 ≤ lsD k (loA (a * 1 - q * n) (b * 1 - 0 * n) (n * 1)) (loB (a * 1 - q * n) (b * 1 - 0 * n) (n * 1)) ∧
    lsD k (loA (a * 1 - (q + 1) * n) (b * 1 - 0 * n) (n * 1)) (loB (a * 1 - (q + 1) * n) (b * 1 - 0 * n) (n * 1)) < 0 := by
  intro q
  have h := fl_ok (a := a) (n := n) hk hn hs h1 h2
  rw [ls_lo (by omega), ls_lo (by omega), Int.mul_one, Int.mul_one, Int.zero_mul, Int.sub_zero]
  exact h
theorem sq_nn {k b : Int} (hk : Kd k) : 0 ≤ k * b * b := by
  rw [Int.mul_assoc]
  have : 0 ≤ b * b := mul_nn_of (by omega)
  rcases hk with rfl | rfl | rfl <;> omega
theorem div_abs {x N : Int} (h : 1 ≤ N) : (x / N).natAbs ≤ x.natAbs := by
  have m1 := Int.emod_nonneg x (show N ≠ 0 by omega)
  have m2 := Int.emod_lt_of_pos x (show 0 < N by omega)
  have m3 := Int.mul_ediv_add_emod x N
  generalize x / N = q at *
  generalize x % N = r at *
  by_cases hq : 0 ≤ q
  · have : q * 1 ≤ q * N := Int.mul_le_mul_of_nonneg_left h hq
    rw [Int.mul_comm q N] at this
    omega
  · by_cases hq1 : q = -1
    · subst hq1
      omega
    · have : (-q - 1) * 1 ≤ (-q - 1) * N := Int.mul_le_mul_of_nonneg_left h (by omega)
      have e : (-q - 1) * N = -(N * q) - N := by rw [Int.sub_mul, Int.neg_mul, Int.one_mul, Int.mul_comm q N]
      rw [e] at this
      omega
theorem rt_bd {k b s : Int} {m : Nat} (hk : Kd k) (hb : Bd m b) (hs : 0 ≤ s) (h1 : s * s ≤ k * b * b) : s < 4 * (2 ^ m : Nat) := by
  refine Int.lt_of_not_ge fun z => ?_
  have hb1 : b.natAbs < 2 ^ m := hb
  generalize hM : (2 ^ m : Nat) = M at *
  have q1 := sq_le (a := 4 * (M : Int)) (b := s) (by omega) z
  have q2 := sq_le (a := (b.natAbs : Int)) (b := (M : Int)) (by omega) (by omega)
  have e : (b.natAbs : Int) * (b.natAbs : Int) = b * b := Int.natAbs_mul_self
  rw [e] at q2
  have q3 : k * b * b = k * (b * b) := Int.mul_assoc _ _ _
  have q4 : 4 * (M : Int) * (4 * (M : Int)) = 16 * ((M : Int) * (M : Int)) := by grind
  rw [q3] at h1
  rw [q4] at q1
  have p : 0 < (M : Int) * (M : Int) := by
    have : 0 < (M : Int) := by omega
    exact Int.mul_pos this this
  generalize (M : Int) * (M : Int) = Y at *
  generalize b * b = B at *
  generalize s * s = S at *
  rcases hk with rfl | rfl | rfl <;> omega
theorem fl_bd {k a b n s : Int} {m : Nat} (hk : Kd k) (ha : Bd m a) (hb : Bd m b) (hn : 0 < n) (hs : 0 ≤ s) (h1 : s * s ≤ k * b * b) : Bd (m + 4) (flQ k a b n s) := by
  have r := rt_bd hk hb hs h1
  have ha' : a.natAbs < 2 ^ m := ha
  have hb' : b.natAbs < 2 ^ m := hb
  have hN : 1 ≤ flN k n := by unfold flN; split <;> omega
  have d := div_abs (x := flA k a b + rtF s b) hN
  have e : 2 ^ (m + 4) = 16 * 2 ^ m := by rw [Nat.pow_add]; omega
  have hA : (flA k a b).natAbs < 3 * 2 ^ m := by unfold flA; split <;> omega
  have hR : (rtF s b).natAbs ≤ 4 * 2 ^ m := by unfold rtF; split <;> omega
  show (flQ k a b n s).natAbs < 2 ^ (m + 4)
  rw [e]
  unfold flQ
  omega
theorem bd_ten : ∀ j : Nat, Bd (4 * j + 1) ((10 : Int) ^ j)
  | 0 => by show (1 : Int).natAbs < 2 ^ 1; decide
  | j + 1 => by rw [Int.pow_succ]; exact ((bd_ten j).mul (show Bd 4 10 by show Int.natAbs _ < 2 ^ 4; decide)).mono (by omega)
end Y02

set_option Elab.async false
set_option linter.all false
set_option maxRecDepth 100000
set_option maxHeartbeats 8000000
namespace Y02
open PySem PySem.Spec PyProof.Rows L2 Evl Wz
local macro_rules | `(tactic| walk_at "bd") => `(tactic| (repeat (first | assumption | apply Bd.mul | apply Bd.add | apply Bd.sub | apply Bd.neg | exact Bd.z | exact Bd.of _)))
local macro_rules | `(tactic| walk_at "bm") => `(tactic| (first | assumption | exact Bd.mono (by walk_at "bd") (by decide)))
local macro_rules | `(tactic| walk_at "b2") => `(tactic| (repeat (first | assumption | apply And.intro | walk_at "bm" | decide | omega)))
def topS (i : Nat) : Stmt := PySem.Challenge.pw_wholefloors_k02_whole_signs_and_floors.main.body.getD i (.Pass ⟨0, 0, 0, 0⟩)
def unF (k : Int) : T3 := if k = 2 then (1, 1, 1) else if k = 3 then (2, 1, 1) else (0, 1, 1)
def suF (k : Int) : T3 := if k = 2 then (3, 2, 1) else if k = 3 then (2, 1, 1) else (1, 1, 1)
section
variable {P : Program} {w : World} {K : PySem.W.Frag} {mg : Str → Option Value} {base : Heap}

/-! ### is_integer -/
abbrev s_is_integer : Stmt := topS 7
theorem sc_is_integer : FnScope ["told"] ["told"] (defScope s_is_integer) := ⟨rfl, rfl, rfl, by decide +kernel, rfl, by decide +kernel, by decide +kernel⟩
def F_is_integer : FP := fun ds Q => ∃ i, ds = [.int i] ∧ Q (.bl true)
theorem ok_is_integer {f : Addr} {fd : FuncData} (Fn : Fun K "is_integer" "is_integer" s_is_integer f fd) (m_isinstance : mg "isinstance" = none) (m_int : mg "int" = none) (m_bool : mg "bool" = none) : FnOk P w K mg base CX0 1 f fd ["told"] (spP K F_is_integer) := by
  refine fn_P Fn sc_is_integer (fun ds G h => ?_) (fun cdv A outer s H Q E ds G hr hF hQ => ?_)
  · obtain ⟨i, rfl, hG⟩ := h
    rfl
  · obtain ⟨i, rfl, hG⟩ := hF
    refine (as_ret hQ (c_and (c_isi (U := "int") m_isinstance (ca_cons (nm 0 rfl (ca_cons (c_ty (T := "int") m_int (by decide +kernel) (ca_nil ⟨rfl, _, true, rfl, (by decide +kernel), (c_one (c_not (c_isi (U := "bool") m_isinstance (ca_cons (nm 0 rfl (ca_cons (c_ty (T := "bool") m_bool (by decide +kernel) (ca_nil ⟨rfl, _, false, rfl, (by decide +kernel), (And.intro rfl ?h1)⟩))))))))⟩))))))))
    case h1 =>
      exact hG

/-! ### is_kind -/
abbrev s_is_kind : Stmt := topS 8
theorem sc_is_kind : FnScope ["told"] ["told"] (defScope s_is_kind) := ⟨rfl, rfl, rfl, by decide +kernel, rfl, by decide +kernel, by decide +kernel⟩
def F_is_kind : FP := fun ds Q => ∃ k, ds = [.int k] ∧ Kd k ∧ Q (.bl true)
theorem ok_is_kind {f : Addr} {fd : FuncData} (Fn : Fun K "is_kind" "is_kind" s_is_kind f fd) (c_is_integer : Cl P w K mg base 1 "is_integer" ["told"] (spP K F_is_integer)) (t_KINDS : KT K mg "KINDS" [.int 2, .int 3, .int 5]) : FnOk P w K mg base CX0 2 f fd ["told"] (spP K F_is_kind) := by
  refine fn_P Fn sc_is_kind (fun ds G h => ?_) (fun cdv A outer s H Q E ds G hr hF hQ => ?_)
  · obtain ⟨k, rfl, hk, hG⟩ := h
    rfl
  · obtain ⟨k, rfl, hk, hG⟩ := hF
    refine (as_ret hQ (c_and (c_call c_is_integer (hr.mono (by decide)) (ca_cons (nm 0 rfl (ca_nil ⟨_, rfl, And.intro rfl (c_one (c_inI (is := [2, 3, 5]) (nm 0 rfl (c_kt t_KINDS (And.intro rfl (And.intro rfl ?h1))))))⟩))))))
    case h1 =>
      rw [show decide (k ∈ [2, 3, 5]) = true by rcases hk with rfl | rfl | rfl <;> decide]
      exact hG

/-! ### check_kind -/
abbrev s_check_kind : Stmt := topS 9
theorem sc_check_kind : FnScope ["kind"] ["kind"] (defScope s_check_kind) := ⟨rfl, rfl, rfl, by decide +kernel, rfl, by decide +kernel, by decide +kernel⟩
def F_check_kind : FP := fun ds Q => ∃ k, ds = [.int k] ∧ Kd k ∧ Q .non
theorem ok_check_kind {f : Addr} {fd : FuncData} (Fn : Fun K "check_kind" "check_kind" s_check_kind f fd) (c_is_kind : Cl P w K mg base 2 "is_kind" ["told"] (spP K F_is_kind)) : FnOk P w K mg base CX0 3 f fd ["kind"] (spP K F_check_kind) := by
  refine fn_P Fn sc_check_kind (fun ds G h => ?_) (fun cdv A outer s H Q E ds G hr hF hQ => ?_)
  · obtain ⟨k, rfl, hk, hG⟩ := h
    rfl
  · obtain ⟨k, rfl, hk, hG⟩ := hF
    refine (as_ifn (t_not (t_val (c_call c_is_kind (hr.mono (by decide)) (ca_cons (nm 0 rfl (ca_nil ⟨_, rfl, ?h1, And.intro rfl (as_nil fun _ H1 _ hk e0 _ => hQ .non _ .non H1 hG e0 hk .non)⟩)))))))
    case h1 =>
      assumption

/-! ### whole_sign -/
abbrev s_whole_sign : Stmt := topS 11
theorem sc_whole_sign : FnScope ["kind", "a", "b"] ["kind", "a", "b"] (defScope s_whole_sign) := ⟨rfl, rfl, rfl, by decide +kernel, rfl, by decide +kernel, by decide +kernel⟩
def F_whole_sign : FP := fun ds Q => ∃ k a b, ds = [.int k, .int a, .int b] ∧ (Kd k ∧ Bd 9000 a ∧ Bd 9000 b) ∧ ∀ s, s = psD k a b → Q (.int s)
theorem ok_whole_sign {f : Addr} {fd : FuncData} (Fn : Fun K "whole_sign" "whole_sign" s_whole_sign f fd)  : FnOk P w K mg base CX0 1 f fd ["kind", "a", "b"] (spP K F_whole_sign) := by
  refine fn_P Fn sc_whole_sign (fun ds G h => ?_) (fun cdv A outer s H Q E ds G hr hF hQ => ?_)
  · obtain ⟨k, a, b, rfl, ⟨hk, ha, hb⟩, hG⟩ := h
    rfl
  · obtain ⟨k, a, b, rfl, ⟨hk, ha, hb⟩, hG⟩ := hF
    have hkb := hk.bd
    refine (as_ifn (t_eqI (nm 0 rfl (c_int (And.intro (fun b1 => (as_asg (i := 1) ?h1 (c_add (c_mulS (c_int (nm 1 rfl (And.intro (.inl (And.intro (by decide) (by decide))) (nm 2 rfl (as_go (as_ifn (t_w (w_and (t_ge (nm 1 rfl (c_int (And.intro (fun b2 => (w_and1 (t_ge (nm 2 rfl (c_int (And.intro (fun b3 => (as_ret hQ (c_if (t_w (w_or (t_tru (nm 1 rfl (And.intro (fun b4 => (c_int (And.intro rfl ?h2))) (fun b4 => (w_or1 (t_tru (nm 2 rfl (And.intro (fun b5 => (c_int (And.intro rfl ?h3))) (fun b5 => (c_int (And.intro rfl ?h4)))))))))))))))) (fun b3 => (as_ifn (t_w (w_and (t_le (nm 1 rfl (c_int (And.intro (fun b6 => (w_and1 (t_le (nm 2 rfl (c_int (And.intro (fun b7 => (as_ret hQ (c_neg (c_int (And.intro rfl ?h5))))) (fun b7 => (as_ifn (t_gt (c_mul (nm 1 rfl (nm 1 rfl (And.intro ?h6 (c_mul (c_mul (nm 0 rfl (nm 2 rfl (And.intro ?h7 (nm 2 rfl (And.intro ?h8 (And.intro (fun b8 => (as_ret hQ (c_if (t_gt (nm 1 rfl (c_int (And.intro (fun b9 => (c_int (And.intro rfl ?h9))) (fun b9 => (c_neg (c_int (And.intro rfl ?h10))))))))))) (fun b8 => (as_ret hQ (c_if (t_gt (nm 2 rfl (c_int (And.intro (fun b10 => (c_int (And.intro rfl ?h11))) (fun b10 => (c_neg (c_int (And.intro rfl ?h12)))))))))))))))))))))))))))))))) (fun b6 => (as_ifn (t_gt (c_mul (nm 1 rfl (nm 1 rfl (And.intro ?h13 (c_mul (c_mul (nm 0 rfl (nm 2 rfl (And.intro ?h14 (nm 2 rfl (And.intro ?h15 (And.intro (fun b11 => (as_ret hQ (c_if (t_gt (nm 1 rfl (c_int (And.intro (fun b12 => (c_int (And.intro rfl ?h16))) (fun b12 => (c_neg (c_int (And.intro rfl ?h17))))))))))) (fun b11 => (as_ret hQ (c_if (t_gt (nm 2 rfl (c_int (And.intro (fun b13 => (c_int (And.intro rfl ?h18))) (fun b13 => (c_neg (c_int (And.intro rfl ?h19)))))))))))))))))))))))))))))))))))))))) (fun b2 => (as_ifn (t_w (w_and (t_le (nm 1 rfl (c_int (And.intro (fun b14 => (w_and1 (t_le (nm 2 rfl (c_int (And.intro (fun b15 => (as_ret hQ (c_neg (c_int (And.intro rfl ?h20))))) (fun b15 => (as_ifn (t_gt (c_mul (nm 1 rfl (nm 1 rfl (And.intro ?h21 (c_mul (c_mul (nm 0 rfl (nm 2 rfl (And.intro ?h22 (nm 2 rfl (And.intro ?h23 (And.intro (fun b16 => (as_ret hQ (c_if (t_gt (nm 1 rfl (c_int (And.intro (fun b17 => (c_int (And.intro rfl ?h24))) (fun b17 => (c_neg (c_int (And.intro rfl ?h25))))))))))) (fun b16 => (as_ret hQ (c_if (t_gt (nm 2 rfl (c_int (And.intro (fun b18 => (c_int (And.intro rfl ?h26))) (fun b18 => (c_neg (c_int (And.intro rfl ?h27)))))))))))))))))))))))))))))))) (fun b14 => (as_ifn (t_gt (c_mul (nm 1 rfl (nm 1 rfl (And.intro ?h28 (c_mul (c_mul (nm 0 rfl (nm 2 rfl (And.intro ?h29 (nm 2 rfl (And.intro ?h30 (And.intro (fun b19 => (as_ret hQ (c_if (t_gt (nm 1 rfl (c_int (And.intro (fun b20 => (c_int (And.intro rfl ?h31))) (fun b20 => (c_neg (c_int (And.intro rfl ?h32))))))))))) (fun b19 => (as_ret hQ (c_if (t_gt (nm 2 rfl (c_int (And.intro (fun b21 => (c_int (And.intro rfl ?h33))) (fun b21 => (c_neg (c_int (And.intro rfl ?h34)))))))))))))))))))))))))))))))))))))))))))))))))) (fun b1 => (as_ifn (t_w (w_and (t_ge (nm 1 rfl (c_int (And.intro (fun b22 => (w_and1 (t_ge (nm 2 rfl (c_int (And.intro (fun b23 => (as_ret hQ (c_if (t_w (w_or (t_tru (nm 1 rfl (And.intro (fun b24 => (c_int (And.intro rfl ?h35))) (fun b24 => (w_or1 (t_tru (nm 2 rfl (And.intro (fun b25 => (c_int (And.intro rfl ?h36))) (fun b25 => (c_int (And.intro rfl ?h37)))))))))))))))) (fun b23 => (as_ifn (t_w (w_and (t_le (nm 1 rfl (c_int (And.intro (fun b26 => (w_and1 (t_le (nm 2 rfl (c_int (And.intro (fun b27 => (as_ret hQ (c_neg (c_int (And.intro rfl ?h38))))) (fun b27 => (as_ifn (t_gt (c_mul (nm 1 rfl (nm 1 rfl (And.intro ?h39 (c_mul (c_mul (nm 0 rfl (nm 2 rfl (And.intro ?h40 (nm 2 rfl (And.intro ?h41 (And.intro (fun b28 => (as_ret hQ (c_if (t_gt (nm 1 rfl (c_int (And.intro (fun b29 => (c_int (And.intro rfl ?h42))) (fun b29 => (c_neg (c_int (And.intro rfl ?h43))))))))))) (fun b28 => (as_ret hQ (c_if (t_gt (nm 2 rfl (c_int (And.intro (fun b30 => (c_int (And.intro rfl ?h44))) (fun b30 => (c_neg (c_int (And.intro rfl ?h45)))))))))))))))))))))))))))))))) (fun b26 => (as_ifn (t_gt (c_mul (nm 1 rfl (nm 1 rfl (And.intro ?h46 (c_mul (c_mul (nm 0 rfl (nm 2 rfl (And.intro ?h47 (nm 2 rfl (And.intro ?h48 (And.intro (fun b31 => (as_ret hQ (c_if (t_gt (nm 1 rfl (c_int (And.intro (fun b32 => (c_int (And.intro rfl ?h49))) (fun b32 => (c_neg (c_int (And.intro rfl ?h50))))))))))) (fun b31 => (as_ret hQ (c_if (t_gt (nm 2 rfl (c_int (And.intro (fun b33 => (c_int (And.intro rfl ?h51))) (fun b33 => (c_neg (c_int (And.intro rfl ?h52)))))))))))))))))))))))))))))))))))))))) (fun b22 => (as_ifn (t_w (w_and (t_le (nm 1 rfl (c_int (And.intro (fun b34 => (w_and1 (t_le (nm 2 rfl (c_int (And.intro (fun b35 => (as_ret hQ (c_neg (c_int (And.intro rfl ?h53))))) (fun b35 => (as_ifn (t_gt (c_mul (nm 1 rfl (nm 1 rfl (And.intro ?h54 (c_mul (c_mul (nm 0 rfl (nm 2 rfl (And.intro ?h55 (nm 2 rfl (And.intro ?h56 (And.intro (fun b36 => (as_ret hQ (c_if (t_gt (nm 1 rfl (c_int (And.intro (fun b37 => (c_int (And.intro rfl ?h57))) (fun b37 => (c_neg (c_int (And.intro rfl ?h58))))))))))) (fun b36 => (as_ret hQ (c_if (t_gt (nm 2 rfl (c_int (And.intro (fun b38 => (c_int (And.intro rfl ?h59))) (fun b38 => (c_neg (c_int (And.intro rfl ?h60)))))))))))))))))))))))))))))))) (fun b34 => (as_ifn (t_gt (c_mul (nm 1 rfl (nm 1 rfl (And.intro ?h61 (c_mul (c_mul (nm 0 rfl (nm 2 rfl (And.intro ?h62 (nm 2 rfl (And.intro ?h63 (And.intro (fun b39 => (as_ret hQ (c_if (t_gt (nm 1 rfl (c_int (And.intro (fun b40 => (c_int (And.intro rfl ?h64))) (fun b40 => (c_neg (c_int (And.intro rfl ?h65))))))))))) (fun b39 => (as_ret hQ (c_if (t_gt (nm 2 rfl (c_int (And.intro (fun b41 => (c_int (And.intro rfl ?h66))) (fun b41 => (c_neg (c_int (And.intro rfl ?h67)))))))))))))))))))))))))))))))))))))))))))))))
    case h1 =>
      exact sc_whole_sign.nd
    case h2 =>
      first
        | (refine hG _ ?_; unfold psD sgP; rw [if_pos b1]; (repeat' split) <;> omega)
        | (refine hG _ ?_; unfold psD sgP; rw [if_neg b1]; (repeat' split) <;> omega)
    case h3 =>
      first
        | (refine hG _ ?_; unfold psD sgP; rw [if_pos b1]; (repeat' split) <;> omega)
        | (refine hG _ ?_; unfold psD sgP; rw [if_neg b1]; (repeat' split) <;> omega)
    case h4 =>
      first
        | (refine hG _ ?_; unfold psD sgP; rw [if_pos b1]; (repeat' split) <;> omega)
        | (refine hG _ ?_; unfold psD sgP; rw [if_neg b1]; (repeat' split) <;> omega)
    case h5 =>
      first
        | (refine hG _ ?_; unfold psD sgP; rw [if_pos b1]; (repeat' split) <;> omega)
        | (refine hG _ ?_; unfold psD sgP; rw [if_neg b1]; (repeat' split) <;> omega)
    case h6 =>
      exact cm (by walk_at "bd") (by walk_at "bd") (by decide)
    case h7 =>
      exact cm (by walk_at "bd") (by walk_at "bd") (by decide)
    case h8 =>
      exact cm (by walk_at "bd") (by walk_at "bd") (by decide)
    case h9 =>
      first
        | (refine hG _ ?_; unfold psD sgP; rw [if_pos b1]; (repeat' split) <;> omega)
        | (refine hG _ ?_; unfold psD sgP; rw [if_neg b1]; (repeat' split) <;> omega)
    case h10 =>
      first
        | (refine hG _ ?_; unfold psD sgP; rw [if_pos b1]; (repeat' split) <;> omega)
        | (refine hG _ ?_; unfold psD sgP; rw [if_neg b1]; (repeat' split) <;> omega)
    case h11 =>
      first
        | (refine hG _ ?_; unfold psD sgP; rw [if_pos b1]; (repeat' split) <;> omega)
        | (refine hG _ ?_; unfold psD sgP; rw [if_neg b1]; (repeat' split) <;> omega)
    case h12 =>
      first
        | (refine hG _ ?_; unfold psD sgP; rw [if_pos b1]; (repeat' split) <;> omega)
        | (refine hG _ ?_; unfold psD sgP; rw [if_neg b1]; (repeat' split) <;> omega)
    case h13 =>
      exact cm (by walk_at "bd") (by walk_at "bd") (by decide)
    case h14 =>
      exact cm (by walk_at "bd") (by walk_at "bd") (by decide)
    case h15 =>
      exact cm (by walk_at "bd") (by walk_at "bd") (by decide)
    case h16 =>
      first
        | (refine hG _ ?_; unfold psD sgP; rw [if_pos b1]; (repeat' split) <;> omega)
        | (refine hG _ ?_; unfold psD sgP; rw [if_neg b1]; (repeat' split) <;> omega)
    case h17 =>
      first
        | (refine hG _ ?_; unfold psD sgP; rw [if_pos b1]; (repeat' split) <;> omega)
        | (refine hG _ ?_; unfold psD sgP; rw [if_neg b1]; (repeat' split) <;> omega)
    case h18 =>
      first
        | (refine hG _ ?_; unfold psD sgP; rw [if_pos b1]; (repeat' split) <;> omega)
        | (refine hG _ ?_; unfold psD sgP; rw [if_neg b1]; (repeat' split) <;> omega)
    case h19 =>
      first
        | (refine hG _ ?_; unfold psD sgP; rw [if_pos b1]; (repeat' split) <;> omega)
        | (refine hG _ ?_; unfold psD sgP; rw [if_neg b1]; (repeat' split) <;> omega)
    case h20 =>
      first
        | (refine hG _ ?_; unfold psD sgP; rw [if_pos b1]; (repeat' split) <;> omega)
        | (refine hG _ ?_; unfold psD sgP; rw [if_neg b1]; (repeat' split) <;> omega)
    case h21 =>
      exact cm (by walk_at "bd") (by walk_at "bd") (by decide)
    case h22 =>
      exact cm (by walk_at "bd") (by walk_at "bd") (by decide)
    case h23 =>
      exact cm (by walk_at "bd") (by walk_at "bd") (by decide)
    case h24 =>
      first
        | (refine hG _ ?_; unfold psD sgP; rw [if_pos b1]; (repeat' split) <;> omega)
        | (refine hG _ ?_; unfold psD sgP; rw [if_neg b1]; (repeat' split) <;> omega)
    case h25 =>
      first
        | (refine hG _ ?_; unfold psD sgP; rw [if_pos b1]; (repeat' split) <;> omega)
        | (refine hG _ ?_; unfold psD sgP; rw [if_neg b1]; (repeat' split) <;> omega)
    case h26 =>
      first
        | (refine hG _ ?_; unfold psD sgP; rw [if_pos b1]; (repeat' split) <;> omega)
        | (refine hG _ ?_; unfold psD sgP; rw [if_neg b1]; (repeat' split) <;> omega)
    case h27 =>
      first
        | (refine hG _ ?_; unfold psD sgP; rw [if_pos b1]; (repeat' split) <;> omega)
        | (refine hG _ ?_; unfold psD sgP; rw [if_neg b1]; (repeat' split) <;> omega)
    case h28 =>
      exact cm (by walk_at "bd") (by walk_at "bd") (by decide)
    case h29 =>
      exact cm (by walk_at "bd") (by walk_at "bd") (by decide)
    case h30 =>
      exact cm (by walk_at "bd") (by walk_at "bd") (by decide)
    case h31 =>
      first
        | (refine hG _ ?_; unfold psD sgP; rw [if_pos b1]; (repeat' split) <;> omega)
        | (refine hG _ ?_; unfold psD sgP; rw [if_neg b1]; (repeat' split) <;> omega)
    case h32 =>
      first
        | (refine hG _ ?_; unfold psD sgP; rw [if_pos b1]; (repeat' split) <;> omega)
        | (refine hG _ ?_; unfold psD sgP; rw [if_neg b1]; (repeat' split) <;> omega)
    case h33 =>
      first
        | (refine hG _ ?_; unfold psD sgP; rw [if_pos b1]; (repeat' split) <;> omega)
        | (refine hG _ ?_; unfold psD sgP; rw [if_neg b1]; (repeat' split) <;> omega)
    case h34 =>
      first
        | (refine hG _ ?_; unfold psD sgP; rw [if_pos b1]; (repeat' split) <;> omega)
        | (refine hG _ ?_; unfold psD sgP; rw [if_neg b1]; (repeat' split) <;> omega)
    case h35 =>
      first
        | (refine hG _ ?_; unfold psD sgP; rw [if_pos b1]; (repeat' split) <;> omega)
        | (refine hG _ ?_; unfold psD sgP; rw [if_neg b1]; (repeat' split) <;> omega)
    case h36 =>
      first
        | (refine hG _ ?_; unfold psD sgP; rw [if_pos b1]; (repeat' split) <;> omega)
        | (refine hG _ ?_; unfold psD sgP; rw [if_neg b1]; (repeat' split) <;> omega)
    case h37 =>
      first
        | (refine hG _ ?_; unfold psD sgP; rw [if_pos b1]; (repeat' split) <;> omega)
        | (refine hG _ ?_; unfold psD sgP; rw [if_neg b1]; (repeat' split) <;> omega)
    case h38 =>
      first
        | (refine hG _ ?_; unfold psD sgP; rw [if_pos b1]; (repeat' split) <;> omega)
        | (refine hG _ ?_; unfold psD sgP; rw [if_neg b1]; (repeat' split) <;> omega)
    case h39 =>
      exact cm (by walk_at "bd") (by walk_at "bd") (by decide)
    case h40 =>
      exact cm (by walk_at "bd") (by walk_at "bd") (by decide)
    case h41 =>
      exact cm (by walk_at "bd") (by walk_at "bd") (by decide)
    case h42 =>
      first
        | (refine hG _ ?_; unfold psD sgP; rw [if_pos b1]; (repeat' split) <;> omega)
        | (refine hG _ ?_; unfold psD sgP; rw [if_neg b1]; (repeat' split) <;> omega)
    case h43 =>
      first
        | (refine hG _ ?_; unfold psD sgP; rw [if_pos b1]; (repeat' split) <;> omega)
        | (refine hG _ ?_; unfold psD sgP; rw [if_neg b1]; (repeat' split) <;> omega)
    case h44 =>
      first
        | (refine hG _ ?_; unfold psD sgP; rw [if_pos b1]; (repeat' split) <;> omega)
        | (refine hG _ ?_; unfold psD sgP; rw [if_neg b1]; (repeat' split) <;> omega)
    case h45 =>
      first
        | (refine hG _ ?_; unfold psD sgP; rw [if_pos b1]; (repeat' split) <;> omega)
        | (refine hG _ ?_; unfold psD sgP; rw [if_neg b1]; (repeat' split) <;> omega)
    case h46 =>
      exact cm (by walk_at "bd") (by walk_at "bd") (by decide)
    case h47 =>
      exact cm (by walk_at "bd") (by walk_at "bd") (by decide)
    case h48 =>
      exact cm (by walk_at "bd") (by walk_at "bd") (by decide)
    case h49 =>
      first
        | (refine hG _ ?_; unfold psD sgP; rw [if_pos b1]; (repeat' split) <;> omega)
        | (refine hG _ ?_; unfold psD sgP; rw [if_neg b1]; (repeat' split) <;> omega)
    case h50 =>
      first
        | (refine hG _ ?_; unfold psD sgP; rw [if_pos b1]; (repeat' split) <;> omega)
        | (refine hG _ ?_; unfold psD sgP; rw [if_neg b1]; (repeat' split) <;> omega)
    case h51 =>
      first
        | (refine hG _ ?_; unfold psD sgP; rw [if_pos b1]; (repeat' split) <;> omega)
        | (refine hG _ ?_; unfold psD sgP; rw [if_neg b1]; (repeat' split) <;> omega)
    case h52 =>
      first
        | (refine hG _ ?_; unfold psD sgP; rw [if_pos b1]; (repeat' split) <;> omega)
        | (refine hG _ ?_; unfold psD sgP; rw [if_neg b1]; (repeat' split) <;> omega)
    case h53 =>
      first
        | (refine hG _ ?_; unfold psD sgP; rw [if_pos b1]; (repeat' split) <;> omega)
        | (refine hG _ ?_; unfold psD sgP; rw [if_neg b1]; (repeat' split) <;> omega)
    case h54 =>
      exact cm (by walk_at "bd") (by walk_at "bd") (by decide)
    case h55 =>
      exact cm (by walk_at "bd") (by walk_at "bd") (by decide)
    case h56 =>
      exact cm (by walk_at "bd") (by walk_at "bd") (by decide)
    case h57 =>
      first
        | (refine hG _ ?_; unfold psD sgP; rw [if_pos b1]; (repeat' split) <;> omega)
        | (refine hG _ ?_; unfold psD sgP; rw [if_neg b1]; (repeat' split) <;> omega)
    case h58 =>
      first
        | (refine hG _ ?_; unfold psD sgP; rw [if_pos b1]; (repeat' split) <;> omega)
        | (refine hG _ ?_; unfold psD sgP; rw [if_neg b1]; (repeat' split) <;> omega)
    case h59 =>
      first
        | (refine hG _ ?_; unfold psD sgP; rw [if_pos b1]; (repeat' split) <;> omega)
        | (refine hG _ ?_; unfold psD sgP; rw [if_neg b1]; (repeat' split) <;> omega)
    case h60 =>
      first
        | (refine hG _ ?_; unfold psD sgP; rw [if_pos b1]; (repeat' split) <;> omega)
        | (refine hG _ ?_; unfold psD sgP; rw [if_neg b1]; (repeat' split) <;> omega)
    case h61 =>
      exact cm (by walk_at "bd") (by walk_at "bd") (by decide)
    case h62 =>
      exact cm (by walk_at "bd") (by walk_at "bd") (by decide)
    case h63 =>
      exact cm (by walk_at "bd") (by walk_at "bd") (by decide)
    case h64 =>
      first
        | (refine hG _ ?_; unfold psD sgP; rw [if_pos b1]; (repeat' split) <;> omega)
        | (refine hG _ ?_; unfold psD sgP; rw [if_neg b1]; (repeat' split) <;> omega)
    case h65 =>
      first
        | (refine hG _ ?_; unfold psD sgP; rw [if_pos b1]; (repeat' split) <;> omega)
        | (refine hG _ ?_; unfold psD sgP; rw [if_neg b1]; (repeat' split) <;> omega)
    case h66 =>
      first
        | (refine hG _ ?_; unfold psD sgP; rw [if_pos b1]; (repeat' split) <;> omega)
        | (refine hG _ ?_; unfold psD sgP; rw [if_neg b1]; (repeat' split) <;> omega)
    case h67 =>
      first
        | (refine hG _ ?_; unfold psD sgP; rw [if_pos b1]; (repeat' split) <;> omega)
        | (refine hG _ ?_; unfold psD sgP; rw [if_neg b1]; (repeat' split) <;> omega)

/-! ### whole_floor -/
abbrev s_whole_floor : Stmt := topS 12
theorem sc_whole_floor : FnScope ["kind", "a", "b", "n", "root"] ["kind", "a", "b", "n"] (defScope s_whole_floor) := ⟨rfl, rfl, rfl, by decide +kernel, rfl, by decide +kernel, by decide +kernel⟩
def F_whole_floor : FP := fun ds Q => ∃ k a b n, ds = [.int k, .int a, .int b, .int n] ∧ (Kd k ∧ Bd 5500 a ∧ Bd 5500 b ∧ Bd 5500 n ∧ 0 < n) ∧ ∀ s, s = flQ k a b n (rtI (k * b * b)) → Q (.int s)
theorem ok_whole_floor {f : Addr} {fd : FuncData} (Fn : Fun K "whole_floor" "whole_floor" s_whole_floor f fd) (m_isqrt : mg "isqrt" = some (.builtin "math.isqrt")) : FnOk P w K mg base CX0 1 f fd ["kind", "a", "b", "n"] (spP K F_whole_floor) := by
  refine fn_P Fn sc_whole_floor (fun ds G h => ?_) (fun cdv A outer s H Q E ds G hr hF hQ => ?_)
  · obtain ⟨k, a, b, n, rfl, ⟨hk, ha, hb, hn, h0⟩, hG⟩ := h
    rfl
  · obtain ⟨k, a, b, n, rfl, ⟨hk, ha, hb, hn, h0⟩, hG⟩ := hF
    have hkb := hk.bd
    refine (as_ifn (t_eqI (nm 0 rfl (c_int (And.intro (fun b1 => (as_par (i := 1) (j := 3) ?h1 rfl (ca_cons (c_add (c_mulS (c_int (nm 1 rfl (And.intro (.inl (And.intro (by decide) (by decide))) (nm 2 rfl (ca_cons (c_mulS (c_int (nm 3 rfl (And.intro (.inl (And.intro (by decide) (by decide))) (ca_nil ⟨_, _, rfl, (as_go (as_asg (i := 4) ?h2 (c_isq m_isqrt (ca_cons (c_mul (c_mul (nm 0 rfl (nm 2 rfl (And.intro ?h3 (nm 2 rfl (And.intro ?h4 (ca_nil (And.intro ?h5 (as_ifn (t_lt (nm 2 rfl (c_int (And.intro (fun b2 => (as_asg (i := 4) ?h6 (c_sub (c_neg (nm 4 rfl (c_int (as_go (as_ret hQ (c_fdiv (c_add (nm 1 rfl (nm 4 rfl (nm 3 rfl (And.intro ?h7 (And.intro rfl ?h8))))))))))))))) (fun b2 => (as_ret hQ (c_fdiv (c_add (nm 1 rfl (nm 4 rfl (nm 3 rfl (And.intro ?h9 (And.intro rfl ?h10)))))))))))))))))))))))))))⟩))))))))))))))) (fun b1 => (as_asg (i := 4) ?h11 (c_isq m_isqrt (ca_cons (c_mul (c_mul (nm 0 rfl (nm 2 rfl (And.intro ?h12 (nm 2 rfl (And.intro ?h13 (ca_nil (And.intro ?h14 (as_ifn (t_lt (nm 2 rfl (c_int (And.intro (fun b3 => (as_asg (i := 4) ?h15 (c_sub (c_neg (nm 4 rfl (c_int (as_go (as_ret hQ (c_fdiv (c_add (nm 1 rfl (nm 4 rfl (nm 3 rfl (And.intro ?h16 (And.intro rfl ?h17))))))))))))))) (fun b3 => (as_ret hQ (c_fdiv (c_add (nm 1 rfl (nm 4 rfl (nm 3 rfl (And.intro ?h18 (And.intro rfl ?h19))))))))))))))))))))))))))))))))
    case h1 =>
      exact sc_whole_floor.nd
    case h2 =>
      exact sc_whole_floor.nd
    case h3 =>
      exact cm (by walk_at "bd") (by walk_at "bd") (by decide)
    case h4 =>
      exact cm (by walk_at "bd") (by walk_at "bd") (by decide)
    case h5 =>
      exact ⟨sq_nn hk, Bd.mono (by walk_at "bd") (by decide)⟩
    case h6 =>
      exact sc_whole_floor.nd
    case h7 =>
      exact cdw (by omega) (by walk_at "bd") (by decide)
    case h8 =>
      first
        | (refine hG _ ?_; unfold flQ flA flN rtF; rw [if_pos b1, if_pos b1, if_pos b2])
        | (refine hG _ ?_; unfold flQ flA flN rtF; rw [if_pos b1, if_pos b1, if_neg b2])
        | (refine hG _ ?_; unfold flQ flA flN rtF; rw [if_neg b1, if_neg b1, if_pos (by assumption)])
        | (refine hG _ ?_; unfold flQ flA flN rtF; rw [if_neg b1, if_neg b1, if_neg (by assumption)])
    case h9 =>
      exact cdw (by omega) (by walk_at "bd") (by decide)
    case h10 =>
      first
        | (refine hG _ ?_; unfold flQ flA flN rtF; rw [if_pos b1, if_pos b1, if_pos b2])
        | (refine hG _ ?_; unfold flQ flA flN rtF; rw [if_pos b1, if_pos b1, if_neg b2])
        | (refine hG _ ?_; unfold flQ flA flN rtF; rw [if_neg b1, if_neg b1, if_pos (by assumption)])
        | (refine hG _ ?_; unfold flQ flA flN rtF; rw [if_neg b1, if_neg b1, if_neg (by assumption)])
    case h11 =>
      exact sc_whole_floor.nd
    case h12 =>
      exact cm (by walk_at "bd") (by walk_at "bd") (by decide)
    case h13 =>
      exact cm (by walk_at "bd") (by walk_at "bd") (by decide)
    case h14 =>
      exact ⟨sq_nn hk, Bd.mono (by walk_at "bd") (by decide)⟩
    case h15 =>
      exact sc_whole_floor.nd
    case h16 =>
      exact cdw (by omega) (by walk_at "bd") (by decide)
    case h17 =>
      first
        | (refine hG _ ?_; unfold flQ flA flN rtF; rw [if_pos b1, if_pos b1, if_pos b2])
        | (refine hG _ ?_; unfold flQ flA flN rtF; rw [if_pos b1, if_pos b1, if_neg b2])
        | (refine hG _ ?_; unfold flQ flA flN rtF; rw [if_neg b1, if_neg b1, if_pos (by assumption)])
        | (refine hG _ ?_; unfold flQ flA flN rtF; rw [if_neg b1, if_neg b1, if_neg (by assumption)])
    case h18 =>
      exact cdw (by omega) (by walk_at "bd") (by decide)
    case h19 =>
      first
        | (refine hG _ ?_; unfold flQ flA flN rtF; rw [if_pos b1, if_pos b1, if_pos b2])
        | (refine hG _ ?_; unfold flQ flA flN rtF; rw [if_pos b1, if_pos b1, if_neg b2])
        | (refine hG _ ?_; unfold flQ flA flN rtF; rw [if_neg b1, if_neg b1, if_pos (by assumption)])
        | (refine hG _ ?_; unfold flQ flA flN rtF; rw [if_neg b1, if_neg b1, if_neg (by assumption)])

/-! ### number_order -/
abbrev s_number_order : Stmt := topS 13
theorem sc_number_order : FnScope ["kind", "p", "q", "a", "b", "n", "c", "d", "m"] ["kind", "p", "q"] (defScope s_number_order) := ⟨rfl, rfl, rfl, by decide +kernel, rfl, by decide +kernel, by decide +kernel⟩
def F_number_order : FP := fun ds Q => ∃ k a b n c e m, ds = [.int k, nD a b n, nD c e m] ∧ (Kd k ∧ Bd 4400 a ∧ Bd 4400 b ∧ Bd 4400 n ∧ Bd 4400 c ∧ Bd 4400 e ∧ Bd 4400 m) ∧ ∀ s, s = psD k (a * m - c * n) (b * m - e * n) → Q (.int s)
theorem ok_number_order {f : Addr} {fd : FuncData} (Fn : Fun K "number_order" "number_order" s_number_order f fd) (c_whole_sign : Cl P w K mg base 1 "whole_sign" ["kind", "a", "b"] (spP K F_whole_sign)) : FnOk P w K mg base CX0 2 f fd ["kind", "p", "q"] (spP K F_number_order) := by
  refine fn_P Fn sc_number_order (fun ds G h => ?_) (fun cdv A outer s H Q E ds G hr hF hQ => ?_)
  · obtain ⟨k, a, b, n, c, e, m, rfl, ⟨hk, ha, hb, hn, hc, he, hm⟩, hG⟩ := h
    rfl
  · obtain ⟨k, a, b, n, c, e, m, rfl, ⟨hk, ha, hb, hn, hc, he, hm⟩, hG⟩ := hF
    refine (as_unp3 (i := 3) (j := 4) (l := 5) ?h1 rfl (nm 1 rfl ⟨_, _, _, rfl, (as_unp3 (i := 6) (j := 7) (l := 8) ?h2 rfl (nm 2 rfl ⟨_, _, _, rfl, (as_ret hQ (c_call c_whole_sign (hr.mono (by decide)) (ca_cons (nm 0 rfl (ca_cons (c_sub (c_mul (nm 3 rfl (nm 8 rfl (And.intro ?h3 (c_mul (nm 6 rfl (nm 5 rfl (And.intro ?h4 (ca_cons (c_sub (c_mul (nm 4 rfl (nm 8 rfl (And.intro ?h5 (c_mul (nm 7 rfl (nm 5 rfl (And.intro ?h6 (ca_nil ⟨_, _, _, rfl, ?h7, fun ws1 hws1 => And.intro rfl (And.intro rfl ?h8)⟩)))))))))))))))))))))))))⟩))⟩))
    case h1 =>
      exact sc_number_order.nd
    case h2 =>
      exact sc_number_order.nd
    case h3 =>
      exact cm (by walk_at "bd") (by walk_at "bd") (by decide)
    case h4 =>
      exact cm (by walk_at "bd") (by walk_at "bd") (by decide)
    case h5 =>
      exact cm (by walk_at "bd") (by walk_at "bd") (by decide)
    case h6 =>
      exact cm (by walk_at "bd") (by walk_at "bd") (by decide)
    case h7 =>
      walk_at "b2"
    case h8 =>
      exact hG _ hws1

/-! ### is_number -/
abbrev s_is_number : Stmt := topS 17
theorem sc_is_number : FnScope ["told", "a", "b", "n"] ["told"] (defScope s_is_number) := ⟨rfl, rfl, rfl, by decide +kernel, rfl, by decide +kernel, by decide +kernel⟩
def F_is_number : FP := fun ds Q => ∃ a b n, ds = [nD a b n] ∧ Nm a b n ∧ Q (.bl true)
theorem ok_is_number {f : Addr} {fd : FuncData} (Fn : Fun K "is_number" "is_number" s_is_number f fd) (c_is_integer : Cl P w K mg base 1 "is_integer" ["told"] (spP K F_is_integer)) (m_isinstance : mg "isinstance" = none) (m_tuple : mg "tuple" = none) (m_len : mg "len" = none) (m_gcd : mg "gcd" = some (.builtin "math.gcd")) : FnOk P w K mg base CX0 2 f fd ["told"] (spP K F_is_number) := by
  refine fn_P Fn sc_is_number (fun ds G h => ?_) (fun cdv A outer s H Q E ds G hr hF hQ => ?_)
  · obtain ⟨a, b, n, rfl, hn, hG⟩ := h
    rfl
  · obtain ⟨a, b, n, rfl, hn, hG⟩ := hF
    refine (as_ifn (t_w (w_or (t_not (t_val (c_isi (U := "tuple") m_isinstance (ca_cons (nm 0 rfl (ca_cons (c_ty (T := "tuple") m_tuple (by decide +kernel) (ca_nil ⟨rfl, _, true, rfl, (by decide +kernel), (w_or1 (t_neI (c_lenT m_len (ca_cons (nm 0 rfl (ca_nil (c_int (And.intro (fun h => absurd rfl h) (fun _ => (as_unp3 (i := 1) (j := 2) (l := 3) ?h1 rfl (nm 0 rfl ⟨_, _, _, rfl, (as_ifn (t_not (t_w (w_and (t_val (c_call c_is_integer (hr.mono (by decide)) (ca_cons (nm 1 rfl (ca_nil ⟨_, rfl, And.intro rfl (w_and (t_val (c_call c_is_integer (hr.mono (by decide)) (ca_cons (nm 2 rfl (ca_nil ⟨_, rfl, And.intro rfl (w_and1 (t_val (c_call c_is_integer (hr.mono (by decide)) (ca_cons (nm 3 rfl (ca_nil ⟨_, rfl, And.intro rfl (as_ret hQ (c_andB (c_ge (nm 3 rfl (c_int (And.intro (fun b1 => (c_one (c_eqI (c_gcd3 m_gcd (ca_cons (nm 1 rfl (ca_cons (nm 2 rfl (ca_cons (nm 3 rfl (ca_nil (c_int (And.intro rfl ?h2))))))))))))) (fun b2 => (And.intro rfl ?h3))))))))⟩))))))⟩))))))⟩)))))))))⟩)))))))))))⟩)))))))))))
    case h1 =>
      exact sc_is_number.nd
    case h2 =>
      first
        | (rw [show decide ((((a.natAbs.gcd b.natAbs).gcd n.natAbs : Nat) : Int) = 1) = true from decide_eq_true hn.g]; exact hG)
        | (exact absurd (b2.symm.trans (decide_eq_true hn.pos)) Bool.false_ne_true)
        | (exact absurd (b1.symm.trans (decide_eq_true hn.pos)) Bool.false_ne_true)
    case h3 =>
      first
        | (rw [show decide ((((a.natAbs.gcd b.natAbs).gcd n.natAbs : Nat) : Int) = 1) = true from decide_eq_true hn.g]; exact hG)
        | (exact absurd (b2.symm.trans (decide_eq_true hn.pos)) Bool.false_ne_true)
        | (exact absurd (b1.symm.trans (decide_eq_true hn.pos)) Bool.false_ne_true)

/-! ### check_number -/
abbrev s_check_number : Stmt := topS 18
theorem sc_check_number : FnScope ["told"] ["told"] (defScope s_check_number) := ⟨rfl, rfl, rfl, by decide +kernel, rfl, by decide +kernel, by decide +kernel⟩
def F_check_number : FP := fun ds Q => ∃ a b n, ds = [nD a b n] ∧ Nm a b n ∧ Q .non
theorem ok_check_number {f : Addr} {fd : FuncData} (Fn : Fun K "check_number" "check_number" s_check_number f fd) (c_is_number : Cl P w K mg base 2 "is_number" ["told"] (spP K F_is_number)) : FnOk P w K mg base CX0 3 f fd ["told"] (spP K F_check_number) := by
  refine fn_P Fn sc_check_number (fun ds G h => ?_) (fun cdv A outer s H Q E ds G hr hF hQ => ?_)
  · obtain ⟨a, b, n, rfl, hn, hG⟩ := h
    rfl
  · obtain ⟨a, b, n, rfl, hn, hG⟩ := hF
    refine (as_ifn (t_not (t_val (c_call c_is_number (hr.mono (by decide)) (ca_cons (nm 0 rfl (ca_nil ⟨_, _, _, rfl, ?h1, And.intro rfl (as_nil fun _ H1 _ hk e0 _ => hQ .non _ .non H1 hG e0 hk .non)⟩)))))))
    case h1 =>
      assumption

/-! ### sign -/
abbrev s_sign : Stmt := topS 19
theorem sc_sign : FnScope ["kind", "p"] ["kind", "p"] (defScope s_sign) := ⟨rfl, rfl, rfl, by decide +kernel, rfl, by decide +kernel, by decide +kernel⟩
def F_sign : FP := fun ds Q => ∃ k a b n, ds = [.int k, nD a b n] ∧ (Kd k ∧ Nm a b n ∧ Bd 9000 a ∧ Bd 9000 b) ∧ ∀ s, s = psD k a b → Q (.int s)
theorem ok_sign {f : Addr} {fd : FuncData} (Fn : Fun K "sign" "sign" s_sign f fd) (c_check_kind : Cl P w K mg base 3 "check_kind" ["kind"] (spP K F_check_kind)) (c_check_number : Cl P w K mg base 3 "check_number" ["told"] (spP K F_check_number)) (c_whole_sign : Cl P w K mg base 1 "whole_sign" ["kind", "a", "b"] (spP K F_whole_sign)) : FnOk P w K mg base CX0 4 f fd ["kind", "p"] (spP K F_sign) := by
  refine fn_P Fn sc_sign (fun ds G h => ?_) (fun cdv A outer s H Q E ds G hr hF hQ => ?_)
  · obtain ⟨k, a, b, n, rfl, ⟨hk, hn, ha, hb⟩, hG⟩ := h
    rfl
  · obtain ⟨k, a, b, n, rfl, ⟨hk, hn, ha, hb⟩, hG⟩ := hF
    refine (as_drop (c_call c_check_kind (hr.mono (by decide)) (ca_cons (nm 0 rfl (ca_nil ⟨_, rfl, ?h1, And.intro rfl (as_drop (c_call c_check_number (hr.mono (by decide)) (ca_cons (nm 1 rfl (ca_nil ⟨_, _, _, rfl, ?h2, And.intro rfl (as_ret hQ (c_call c_whole_sign (hr.mono (by decide)) (ca_cons (nm 0 rfl (ca_cons (c_ixTn (nm 1 rfl (c_int (And.intro (by decide) (ca_cons (c_ixTn (nm 1 rfl (c_int (And.intro (by decide) (ca_nil ⟨_, _, _, rfl, ?h3, fun ws1 hws1 => And.intro rfl (And.intro rfl ?h4)⟩)))))))))))))))⟩)))))⟩)))))
    case h1 =>
      assumption
    case h2 =>
      assumption
    case h3 =>
      walk_at "b2"
    case h4 =>
      exact hG _ hws1

/-! ### compared -/
abbrev s_compared : Stmt := topS 20
theorem sc_compared : FnScope ["kind", "p", "q"] ["kind", "p", "q"] (defScope s_compared) := ⟨rfl, rfl, rfl, by decide +kernel, rfl, by decide +kernel, by decide +kernel⟩
def F_compared : FP := fun ds Q => ∃ k a b n c e m, ds = [.int k, nD a b n, nD c e m] ∧ (Kd k ∧ Nm a b n ∧ Nm c e m ∧ Bd 4400 a ∧ Bd 4400 b ∧ Bd 4400 n ∧ Bd 4400 c ∧ Bd 4400 e ∧ Bd 4400 m) ∧ ∀ s, s = psD k (a * m - c * n) (b * m - e * n) → Q (.int s)
theorem ok_compared {f : Addr} {fd : FuncData} (Fn : Fun K "compared" "compared" s_compared f fd) (c_check_kind : Cl P w K mg base 3 "check_kind" ["kind"] (spP K F_check_kind)) (c_check_number : Cl P w K mg base 3 "check_number" ["told"] (spP K F_check_number)) (c_number_order : Cl P w K mg base 2 "number_order" ["kind", "p", "q"] (spP K F_number_order)) : FnOk P w K mg base CX0 4 f fd ["kind", "p", "q"] (spP K F_compared) := by
  refine fn_P Fn sc_compared (fun ds G h => ?_) (fun cdv A outer s H Q E ds G hr hF hQ => ?_)
  · obtain ⟨k, a, b, n, c, e, m, rfl, ⟨hk, hn1, hn2, ha, hb, hn, hc, he, hm⟩, hG⟩ := h
    rfl
  · obtain ⟨k, a, b, n, c, e, m, rfl, ⟨hk, hn1, hn2, ha, hb, hn, hc, he, hm⟩, hG⟩ := hF
    refine (as_drop (c_call c_check_kind (hr.mono (by decide)) (ca_cons (nm 0 rfl (ca_nil ⟨_, rfl, ?h1, And.intro rfl (as_drop (c_call c_check_number (hr.mono (by decide)) (ca_cons (nm 1 rfl (ca_nil ⟨_, _, _, rfl, ?h2, And.intro rfl (as_drop (c_call c_check_number (hr.mono (by decide)) (ca_cons (nm 2 rfl (ca_nil ⟨_, _, _, rfl, ?h3, And.intro rfl (as_ret hQ (c_call c_number_order (hr.mono (by decide)) (ca_cons (nm 0 rfl (ca_cons (nm 1 rfl (ca_cons (nm 2 rfl (ca_nil ⟨_, _, _, _, _, _, _, rfl, ?h4, fun ws1 hws1 => And.intro rfl (And.intro rfl ?h5)⟩)))))))))⟩)))))⟩)))))⟩)))))
    case h1 =>
      assumption
    case h2 =>
      assumption
    case h3 =>
      assumption
    case h4 =>
      walk_at "b2"
    case h5 =>
      exact hG _ hws1

/-! ### floor_of -/
abbrev s_floor_of : Stmt := topS 21
theorem sc_floor_of : FnScope ["kind", "p"] ["kind", "p"] (defScope s_floor_of) := ⟨rfl, rfl, rfl, by decide +kernel, rfl, by decide +kernel, by decide +kernel⟩
def F_floor_of : FP := fun ds Q => ∃ k a b n, ds = [.int k, nD a b n] ∧ (Kd k ∧ Nm a b n ∧ Bd 5500 a ∧ Bd 5500 b ∧ Bd 5500 n) ∧ ∀ s, s = flQ k a b n (rtI (k * b * b)) → Q (.int s)
theorem ok_floor_of {f : Addr} {fd : FuncData} (Fn : Fun K "floor_of" "floor_of" s_floor_of f fd) (c_check_kind : Cl P w K mg base 3 "check_kind" ["kind"] (spP K F_check_kind)) (c_check_number : Cl P w K mg base 3 "check_number" ["told"] (spP K F_check_number)) (c_whole_floor : Cl P w K mg base 1 "whole_floor" ["kind", "a", "b", "n"] (spP K F_whole_floor)) : FnOk P w K mg base CX0 4 f fd ["kind", "p"] (spP K F_floor_of) := by
  refine fn_P Fn sc_floor_of (fun ds G h => ?_) (fun cdv A outer s H Q E ds G hr hF hQ => ?_)
  · obtain ⟨k, a, b, n, rfl, ⟨hk, hnm, ha, hb, hn⟩, hG⟩ := h
    rfl
  · obtain ⟨k, a, b, n, rfl, ⟨hk, hnm, ha, hb, hn⟩, hG⟩ := hF
    have hn0 := hnm.pos
    refine (as_drop (c_call c_check_kind (hr.mono (by decide)) (ca_cons (nm 0 rfl (ca_nil ⟨_, rfl, ?h1, And.intro rfl (as_drop (c_call c_check_number (hr.mono (by decide)) (ca_cons (nm 1 rfl (ca_nil ⟨_, _, _, rfl, ?h2, And.intro rfl (as_ret hQ (c_call c_whole_floor (hr.mono (by decide)) (ca_cons (nm 0 rfl (ca_cons (c_ixTn (nm 1 rfl (c_int (And.intro (by decide) (ca_cons (c_ixTn (nm 1 rfl (c_int (And.intro (by decide) (ca_cons (c_ixTn (nm 1 rfl (c_int (And.intro (by decide) (ca_nil ⟨_, _, _, _, rfl, ?h3, fun ws1 hws1 => And.intro rfl (And.intro rfl ?h4)⟩))))))))))))))))))))⟩)))))⟩)))))
    case h1 =>
      assumption
    case h2 =>
      assumption
    case h3 =>
      exact ⟨hk, ha, hb, hn, by omega⟩
    case h4 =>
      exact hG _ hws1

/-! ### about -/
abbrev s_about : Stmt := topS 22
theorem sc_about : FnScope ["kind", "p", "n", "power", "_"] ["kind", "p", "n"] (defScope s_about) := ⟨rfl, rfl, rfl, by decide +kernel, rfl, by decide +kernel, by decide +kernel⟩
def F_about : FP := fun ds Q => ∃ (k a b n : Int) (t : Nat), ds = [.int k, nD a b n, .int (t : Int)] ∧ (Kd k ∧ Nm a b n ∧ Bd 5000 a ∧ Bd 5000 b ∧ Bd 5000 n ∧ t ≤ 60) ∧ ∀ s, s = flQ k (a * 10 ^ t) (b * 10 ^ t) n (rtI (k * (b * 10 ^ t) * (b * 10 ^ t))) → Q (.int s)
theorem ok_about {f : Addr} {fd : FuncData} (Fn : Fun K "about" "about" s_about f fd) (c_check_kind : Cl P w K mg base 3 "check_kind" ["kind"] (spP K F_check_kind)) (c_check_number : Cl P w K mg base 3 "check_number" ["told"] (spP K F_check_number)) (c_is_integer : Cl P w K mg base 1 "is_integer" ["told"] (spP K F_is_integer)) (c_whole_floor : Cl P w K mg base 1 "whole_floor" ["kind", "a", "b", "n"] (spP K F_whole_floor)) (m_range : mg "range" = none) : FnOk P w K mg base CX0 4 f fd ["kind", "p", "n"] (spP K F_about) := by
  refine fn_P Fn sc_about (fun ds G h => ?_) (fun cdv A outer s H Q E ds G hr hF hQ => ?_)
  · obtain ⟨k, a, b, n, t, rfl, ⟨hk, hnm, ha, hb, hn, ht⟩, hG⟩ := h
    rfl
  · obtain ⟨k, a, b, n, t, rfl, ⟨hk, hnm, ha, hb, hn, ht⟩, hG⟩ := hF
    have hn0 := hnm.pos
    have b10 : ∀ j : Nat, j ≤ 60 → Bd 241 ((10 : Int) ^ j) := fun j hj => (bd_ten j).mono (by omega)
    have bt := b10 t ht
    refine (as_drop (c_call c_check_kind (hr.mono (by decide)) (ca_cons (nm 0 rfl (ca_nil ⟨_, rfl, ?h1, And.intro rfl (as_drop (c_call c_check_number (hr.mono (by decide)) (ca_cons (nm 1 rfl (ca_nil ⟨_, _, _, rfl, ?h2, And.intro rfl (as_ifn (t_w (w_or (t_not (t_val (c_call c_is_integer (hr.mono (by decide)) (ca_cons (nm 2 rfl (ca_nil ⟨_, rfl, And.intro rfl (w_or1 (t_lt (nm 2 rfl (c_int (And.intro (fun b1 => ?h3) (fun b1 => (as_asg (i := 3) ?h4 (c_int (as_forR1 (i := 4) ?h5 rfl PassesOwn.never m_range (ca_cons (nm 2 rfl (ca_nil ⟨_, (fun j es q => ∃ x, es = [some (.int k), some (nD a b n), some (.int (t : Int)), some (.int ((10 : Int) ^ j)), x] ∧ q = []), (fun _ _ => False), rfl, ?h14, ⟨_, rfl, rfl⟩, ⟨fun H10 e10 fr0 j d es q hj hd hw => ?h6, fun es q hw => ?h7, fun _ _ h => h.elim⟩⟩))))))))))))⟩)))))))))⟩)))))⟩)))))
    case h1 =>
      assumption
    case h2 =>
      assumption
    case h3 =>
      exact absurd (by assumption) (by omega)
    case h4 =>
      exact sc_about.nd
    case h5 =>
      exact sc_about.nd
    case h6 =>
      obtain ⟨x, rfl, rfl⟩ := hw
      cases hd
      have bj := b10 j (by omega)
      refine (as_asg (i := 3) ?h8 (c_mulS (nm 3 rfl (c_int (And.intro (.inr (And.intro (by decide) (by decide))) (as_end rfl ?h9))))))
      case h8 =>
        exact sc_about.nd
      case h9 =>
        exact ⟨_, by rw [Int.pow_succ]; rfl, rfl⟩
    case h7 =>
      obtain ⟨x, rfl, rfl⟩ := hw
      rw [Int.toNat_natCast]
      refine (as_ret hQ (c_call c_whole_floor (hr.mono (by decide)) (ca_cons (nm 0 rfl (ca_cons (c_mul (c_ixTn (nm 1 rfl (c_int (And.intro (by decide) (nm 3 rfl (And.intro ?h10 (ca_cons (c_mul (c_ixTn (nm 1 rfl (c_int (And.intro (by decide) (nm 3 rfl (And.intro ?h11 (ca_cons (c_ixTn (nm 1 rfl (c_int (And.intro (by decide) (ca_nil ⟨_, _, _, _, rfl, ?h12, fun ws1 hws1 => And.intro rfl (And.intro rfl ?h13)⟩))))))))))))))))))))))))))
      case h10 =>
        exact cm (by walk_at "bd") (by walk_at "bd") (by decide)
      case h11 =>
        exact cm (by walk_at "bd") (by walk_at "bd") (by decide)
      case h12 =>
        exact ⟨hk, by walk_at "bm", by walk_at "bm", by walk_at "bm", by omega⟩
      case h13 =>
        exact hG _ hws1
    case h14 =>
      omega

/-! ### unit -/
abbrev s_unit : Stmt := topS 23
theorem sc_unit : FnScope ["kind"] ["kind"] (defScope s_unit) := ⟨rfl, rfl, rfl, by decide +kernel, rfl, by decide +kernel, by decide +kernel⟩
def F_unit : FP := fun ds Q => ∃ k, ds = [.int k] ∧ Kd k ∧ Q (tD (unF k))
theorem ok_unit {f : Addr} {fd : FuncData} (Fn : Fun K "unit" "unit" s_unit f fd) (c_check_kind : Cl P w K mg base 3 "check_kind" ["kind"] (spP K F_check_kind)) (t_UNITS : KDI P w K mg "UNITS" unF) : FnOk P w K mg base CX0 4 f fd ["kind"] (spP K F_unit) := by
  refine fn_P Fn sc_unit (fun ds G h => ?_) (fun cdv A outer s H Q E ds G hr hF hQ => ?_)
  · obtain ⟨k, rfl, hk, hG⟩ := h
    rfl
  · obtain ⟨k, rfl, hk, hG⟩ := hF
    refine (as_drop (c_call c_check_kind (hr.mono (by decide)) (ca_cons (nm 0 rfl (ca_nil ⟨_, rfl, ?h1, And.intro rfl (as_ret hQ (c_kdi t_UNITS (nm 0 rfl (And.intro ?h2 (And.intro rfl ?h3)))))⟩)))))
    case h1 =>
      assumption
    case h2 =>
      assumption
    case h3 =>
      exact hG

/-! ### stretch_unit -/
abbrev s_stretch_unit : Stmt := topS 24
theorem sc_stretch_unit : FnScope ["kind"] ["kind"] (defScope s_stretch_unit) := ⟨rfl, rfl, rfl, by decide +kernel, rfl, by decide +kernel, by decide +kernel⟩
def F_stretch_unit : FP := fun ds Q => ∃ k, ds = [.int k] ∧ Kd k ∧ Q (tD (suF k))
theorem ok_stretch_unit {f : Addr} {fd : FuncData} (Fn : Fun K "stretch_unit" "stretch_unit" s_stretch_unit f fd) (c_check_kind : Cl P w K mg base 3 "check_kind" ["kind"] (spP K F_check_kind)) (t_STRETCH_UNITS : KDI P w K mg "STRETCH_UNITS" suF) : FnOk P w K mg base CX0 4 f fd ["kind"] (spP K F_stretch_unit) := by
  refine fn_P Fn sc_stretch_unit (fun ds G h => ?_) (fun cdv A outer s H Q E ds G hr hF hQ => ?_)
  · obtain ⟨k, rfl, hk, hG⟩ := h
    rfl
  · obtain ⟨k, rfl, hk, hG⟩ := hF
    refine (as_drop (c_call c_check_kind (hr.mono (by decide)) (ca_cons (nm 0 rfl (ca_nil ⟨_, rfl, ?h1, And.intro rfl (as_ret hQ (c_kdi t_STRETCH_UNITS (nm 0 rfl (And.intro ?h2 (And.intro rfl ?h3)))))⟩)))))
    case h1 =>
      assumption
    case h2 =>
      assumption
    case h3 =>
      exact hG

end
end Y02

set_option Elab.async false
set_option linter.all false
set_option maxRecDepth 100000
set_option maxHeartbeats 8000000
namespace Y02
open PySem PySem.Spec PyProof.Rows L2 Evl Wz
local macro_rules | `(tactic| walk_at "bd") => `(tactic| (repeat (first | assumption | apply Bd.mul | apply Bd.add | apply Bd.sub | apply Bd.neg | exact Bd.z | exact Bd.of _)))
local macro_rules | `(tactic| walk_at "bm") => `(tactic| (first | assumption | exact Bd.mono (by walk_at "bd") (by decide)))
local macro_rules | `(tactic| walk_at "b2") => `(tactic| (repeat (first | assumption | apply And.intro | walk_at "bm" | decide | omega)))
theorem Bd.ofle {n : Nat} {i : Int} (h1 : 0 ≤ i) (h2 : i < 2 ^ n) : Bd n i := by
  have h3 : (0 : Int) < 2 ^ n := Int.pow_pos (by decide)
  exact Bd.rng (by omega) h2
def Dk (s : List Dat) : Prop := ∃ f y : Int, s = [.int f, .int y] ∧ 0 ≤ f ∧ 0 ≤ y ∧ y < 2 ^ 64
theorem Dk.nl {s : List Dat} (h : Dk s) : s.all noL = true := by
  obtain ⟨f, a, rfl, _⟩ := h
  rfl
theorem at_map {ns : List Int} {t : Nat} (h : ((t : Nat) : Int) < ((ns.map Dat.int).length : Int)) : (ns.map Dat.int)[t]? = some (.int (ns.getD t 0)) := by
  rw [List.length_map] at h
  have hl : t < ns.length := by omega
  rw [List.getElem?_map, List.getElem?_eq_getElem hl, List.getD_eq_getElem?_getD, List.getElem?_eq_getElem hl]
  rfl
theorem modp {x m : Int} (h : 0 < m) : 0 ≤ x % m ∧ x % m < m := ⟨Int.emod_nonneg _ (by omega), Int.emod_lt_of_pos _ h⟩
theorem divp {x m : Int} (h : 0 < m) (h0 : 0 ≤ x) : 0 ≤ x / m := Int.ediv_nonneg h0 (by omega)
theorem mod61 (x : Int) : Bd 61 (x % 2305843009213693951) := Bd.ofle (modp (by decide)).1 (Int.lt_trans (modp (by decide)).2 (by decide))
theorem mod61n (x : Int) : 0 ≤ x % 2305843009213693951 ∧ x % 2305843009213693951 < 2 ^ 64 := ⟨(modp (by decide)).1, Int.lt_trans (modp (by decide)).2 (by decide)⟩
theorem mod64 (x : Int) : 0 ≤ x % (2 ^ (64 : Int).toNat) ∧ x % (2 ^ (64 : Int).toNat) < 2 ^ 64 := modp (by decide)
theorem gcd_step {h e : Int} (h0 : 0 ≤ h) (he : 0 < e) : Nat.gcd e.natAbs (h % e).natAbs = Nat.gcd h.natAbs e.natAbs := by
  obtain ⟨x, rfl⟩ := Int.eq_ofNat_of_zero_le h0
  obtain ⟨y, rfl⟩ := Int.eq_ofNat_of_zero_le (Int.le_of_lt he)
  rw [← Int.natCast_emod, Int.natAbs_natCast, Int.natAbs_natCast, Int.natAbs_natCast, Nat.gcd_comm x y, Nat.gcd_rec y x, Nat.gcd_comm]
theorem wl {h e : Int} {m : Nat} (h1 : 0 ≤ e) (ne : ¬ e = 0) (hm : e.toNat ≤ m) : (h % e).toNat < m := by
  have := Int.emod_lt_of_pos h (show 0 < e by omega)
  have := Int.emod_nonneg h ne
  omega
def gcdI (a b : Int) : Int := ((a.natAbs.gcd b.natAbs : Nat) : Int)
theorem gcdI_nn (a b : Int) : 0 ≤ gcdI a b := Int.natCast_nonneg _
theorem g3_gcd (a b n : Int) : gcdI (gcdI (if a < 0 then -a else a) (if b < 0 then -b else b)) (if n < 0 then -n else n) = g3 a b n := by
  have h : ∀ z : Int, (if z < 0 then -z else z).natAbs = z.natAbs := fun z => by split <;> omega
  unfold gcdI g3
  rw [h, h, h, Int.natAbs_natCast]
theorem abs_nn (a : Int) : 0 ≤ (if a < 0 then -a else a) := by split <;> omega
/-- in lowest terms -/
structure LO (a b n x y z : Int) : Prop where
  x : x = loA a b n
  y : y = loB a b n
  z : z = loN a b n
theorem LO.ls {a b n x y z k : Int} (h : LO a b n x y z) (hn : 0 < n) : lsD k x y = lsD k a b := by rw [h.x, h.y]; exact ls_lo hn
theorem LO.one {a b n x y z : Int} (h : LO a b n x y z) (hn : n = 1) : x = a ∧ y = b ∧ z = 1 := by
  subst hn
  have q := lo_self (a := a) (b := b) (n := 1) (by
    show isN a b 1 = true
    have : g3 a b 1 = 1 := by
      unfold g3
      have e : (1 : Int).natAbs = 1 := rfl
      rw [e, Nat.gcd_one_right]
      rfl
    unfold isN
    rw [this]
    decide)
  exact ⟨h.x.trans q.1, h.y.trans q.2.1, h.z.trans q.2.2⟩
theorem LO.fl {a b n x y z k q : Int} (h : LO a b n x y z) (hn : 0 < n) : lsD k (x - q * z) y = lsD k (a - q * n) b := by
  obtain ⟨e1, e2, e3⟩ := lo_mul (a := a) (b := b) (n := n) (by omega)
  have p := sg_pos (a := a) (b := b) hn
  rw [← h.x] at e1
  rw [← h.y] at e2
  rw [← h.z] at e3
  generalize sg a b n = g at *
  subst e1 e2 e3
  rw [show x * g - q * (z * g) = (x - q * z) * g by grind, ls_mul p]
section
variable {P : Program} {w : World} {K : PySem.W.Frag} {mg : Str → Option Value} {base : Heap}

/-! ### _law_deck -/
abbrev s__law_deck : Stmt := topS 26
theorem sc__law_deck : FnScope ["script", "at", "cell", "stir"] ["script", "at"] (defScope s__law_deck) := ⟨rfl, rfl, rfl, by decide +kernel, rfl, by decide +kernel, by decide +kernel⟩
def F__law_deck : FN := fun ds Q => ∃ (ns : List Int) (t : Nat), ds = [.lst (ns.map Dat.int), .int (t : Int)] ∧ ∀ s, Dk s → Q s
theorem ok__law_deck {f : Addr} {fd : FuncData} (Fn : Fun K "_law_deck" "_law_deck" s__law_deck f fd) (m_len : mg "len" = none) (m_int : mg "int" = none) : FnOk P w K mg base CX0 1 f fd ["script", "at"] (spN K F__law_deck) := by
  refine fn_N Fn sc__law_deck (fun ds G h => ?_) (fun cdv A outer s H Q E ds G hr hF hQ => ?_)
  · obtain ⟨ns, t, rfl, hG⟩ := h
    rfl
  · obtain ⟨ns, t, rfl, hG⟩ := hF
    have e1 := mod61
    refine (as_asg (i := 2) ?h1 (c_int (as_ifn (t_lt (nm 1 rfl (c_lenL m_len (ca_cons (nm 0 rfl (ca_nil (And.intro (fun b1 => (as_asg (i := 2) ?h2 (c_ixL (nm 0 rfl (nm 1 rfl ⟨t, .int (ns.getD t 0), rfl, ?h3, (as_go (as_asg (i := 3) ?h4 (c_mod (c_intI m_int (ca_cons (c_add (c_add (nm 2 rfl (c_mulS (c_int (nm 1 rfl (And.intro (.inl (And.intro (by decide) (by decide))) (c_int (ca_nil (c_int (And.intro ?h5 (as_asg (i := 3) ?h6 (c_mod (c_intI m_int (ca_cons (c_add (c_add (c_mul (c_mul (nm 3 rfl (nm 3 rfl (And.intro ?h7 (nm 3 rfl (And.intro ?h8 (c_mulS (c_int (nm 1 rfl (And.intro (.inl (And.intro (by decide) (by decide))) (c_int (ca_nil (c_int (And.intro ?h9 (as_ifn (t_lt (nm 2 rfl (c_powW (c_int (c_int (And.intro ?h10 (And.intro (fun b2 => (as_retN hQ (n_disp (ca_cons (c_int (ca_cons (nm 3 rfl (ca_nil (And.intro (And.intro rfl (Nat.le_of_ble_eq_true rfl)) ?h11))))))))) (fun b2 => (as_retN hQ (n_disp (ca_cons (c_sub (nm 2 rfl (c_powW (c_int (c_int (And.intro ?h12 (ca_cons (nm 3 rfl (ca_nil (And.intro (And.intro rfl (Nat.le_of_ble_eq_true rfl)) ?h13)))))))))))))))))))))))))))))))))))))))))))))))))))))))))))⟩))))) (fun b1 => (as_asg (i := 3) ?h14 (c_mod (c_intI m_int (ca_cons (c_add (c_add (nm 2 rfl (c_mulS (c_int (nm 1 rfl (And.intro (.inl (And.intro (by decide) (by decide))) (c_int (ca_nil (c_int (And.intro ?h15 (as_asg (i := 3) ?h16 (c_mod (c_intI m_int (ca_cons (c_add (c_add (c_mul (c_mul (nm 3 rfl (nm 3 rfl (And.intro ?h17 (nm 3 rfl (And.intro ?h18 (c_mulS (c_int (nm 1 rfl (And.intro (.inl (And.intro (by decide) (by decide))) (c_int (ca_nil (c_int (And.intro ?h19 (as_ifn (t_lt (nm 2 rfl (c_powW (c_int (c_int (And.intro ?h20 (And.intro (fun b3 => (as_retN hQ (n_disp (ca_cons (c_int (ca_cons (nm 3 rfl (ca_nil (And.intro (And.intro rfl (Nat.le_of_ble_eq_true rfl)) ?h21))))))))) (fun b3 => (as_retN hQ (n_disp (ca_cons (c_sub (nm 2 rfl (c_powW (c_int (c_int (And.intro ?h22 (ca_cons (nm 3 rfl (ca_nil (And.intro (And.intro rfl (Nat.le_of_ble_eq_true rfl)) ?h23)))))))))))))))))))))))))))))))))))))))))))))))))))))))))))))))))))))
    case h1 =>
      exact sc__law_deck.nd
    case h2 =>
      exact sc__law_deck.nd
    case h3 =>
      exact at_map b1
    case h4 =>
      exact sc__law_deck.nd
    case h5 =>
      first | omega | decide
    case h6 =>
      exact sc__law_deck.nd
    case h7 =>
      exact cm (n := 61) (m := 61) (mod61 _) (mod61 _) (by decide)
    case h8 =>
      exact cm (n := 122) (m := 61) (Bd.mul (n := 61) (m := 61) (mod61 _) (mod61 _)) (mod61 _) (by decide)
    case h9 =>
      first | omega | decide
    case h10 =>
      exact cpw (by first | omega | decide) (by walk_at "bd") (by decide)
    case h11 =>
      first
        | exact hG _ ⟨_, _, rfl, Int.le_refl _, mod61n _⟩
        | exact hG _ ⟨_, _, rfl, by omega, mod61n _⟩
    case h12 =>
      exact cpw (by first | omega | decide) (by walk_at "bd") (by decide)
    case h13 =>
      first
        | exact hG _ ⟨_, _, rfl, Int.le_refl _, mod61n _⟩
        | exact hG _ ⟨_, _, rfl, by omega, mod61n _⟩
    case h14 =>
      exact sc__law_deck.nd
    case h15 =>
      first | omega | decide
    case h16 =>
      exact sc__law_deck.nd
    case h17 =>
      exact cm (n := 61) (m := 61) (mod61 _) (mod61 _) (by decide)
    case h18 =>
      exact cm (n := 122) (m := 61) (Bd.mul (n := 61) (m := 61) (mod61 _) (mod61 _)) (mod61 _) (by decide)
    case h19 =>
      first | omega | decide
    case h20 =>
      exact cpw (by first | omega | decide) (by walk_at "bd") (by decide)
    case h21 =>
      first
        | exact hG _ ⟨_, _, rfl, Int.le_refl _, mod61n _⟩
        | exact hG _ ⟨_, _, rfl, by omega, mod61n _⟩
    case h22 =>
      exact cpw (by first | omega | decide) (by walk_at "bd") (by decide)
    case h23 =>
      first
        | exact hG _ ⟨_, _, rfl, Int.le_refl _, mod61n _⟩
        | exact hG _ ⟨_, _, rfl, by omega, mod61n _⟩

/-! ### _law_take -/
abbrev s__law_take : Stmt := topS 27
theorem sc__law_take : FnScope ["deck", "many", "taken"] ["deck", "many"] (defScope s__law_take) := ⟨rfl, rfl, rfl, by decide +kernel, rfl, by decide +kernel, by decide +kernel⟩
def F__law_take : FD := fun ds c Q => ∃ (m : Int), ds = [.int m] ∧ (0 < m ∧ Bd 900 m ∧ Dk c) ∧ ∀ v c', 0 ≤ v → v < m → Dk c' → Q (.int v) c'
theorem ok__law_take {f : Addr} {fd : FuncData} (Fn : Fun K "_law_take" "_law_take" s__law_take f fd) (m_int : mg "int" = none) : FnOk P w K mg base CX0 1 f fd ["deck", "many"] (spD K F__law_take) := by
  refine fn_D Fn sc__law_take (fun ds c G h => ?_) (fun cdv A outer s H Q E pa ds c G hr hF hQ => ?_)
  · obtain ⟨m, rfl, ⟨hm, hbm, ⟨f0, y0, rfl, hf, hy0, hy1⟩⟩, hG⟩ := h
    rfl
  · obtain ⟨m, rfl, ⟨hm, hbm, ⟨f0, y0, rfl, hf, hy0, hy1⟩⟩, hG⟩ := hF
    have hby : Bd 64 y0 := Bd.ofle hy0 hy1
    refine (as_ifn (t_gt (c_ixLn (nm 0 rfl (c_int (And.intro (by decide) (c_int (And.intro (fun b1 => (as_asg (i := 2) ?h1 (c_mod (c_intI m_int (ca_cons (c_ixLn (nm 0 rfl (c_int (And.intro (by decide) (ca_nil (nm 1 rfl (And.intro ?h2 (as_cell (c_fdiv (c_ixLn (nm 0 rfl (c_int (And.intro (by decide) (nm 1 rfl (And.intro ?h3 (nm 0 rfl (c_int (And.intro rfl ⟨_, 0, _, rfl, rfl, rfl, ?h4, (as_ret hQ (nm 2 rfl (And.intro rfl ?h5)))⟩))))))))))))))))))))))) (fun b1 => (as_cell (c_mod (c_intI m_int (ca_cons (c_add (c_mulS (c_ixLn (nm 0 rfl (c_int (And.intro (by decide) (c_int (And.intro (.inr (And.intro (by decide) (by decide))) (c_int (ca_nil (c_powW (c_int (c_int (And.intro ?h6 (And.intro ?h7 (nm 0 rfl (c_int (And.intro rfl ⟨_, 1, _, rfl, rfl, rfl, ?h8, (as_ret hQ (c_mod (c_fdiv (c_ixLn (nm 0 rfl (c_int (And.intro (by decide) (c_powW (c_int (c_int (And.intro ?h9 (And.intro ?h10 (nm 1 rfl (And.intro ?h11 (And.intro rfl ?h12)))))))))))))))⟩)))))))))))))))))))))))))))))))
    case h1 =>
      exact sc__law_take.nd
    case h2 =>
      first | omega | decide | exact hm
    case h3 =>
      first | exact cdw hm hbm (by decide) | exact cdw (by decide) (Bd.of _) (by decide)
    case h4 =>
      exact Nat.le_of_ble_eq_true rfl
    case h5 =>
      first
        | exact ⟨_, rfl, hG _ _ (modp hm).1 (modp hm).2 ⟨_, _, rfl, divp hm hf, hy0, hy1⟩⟩
        | exact ⟨_, rfl, hG _ _ (modp hm).1 (modp hm).2 ⟨_, _, rfl, hf, mod64 _⟩⟩
    case h6 =>
      exact cpw (by first | omega | decide) (by walk_at "bd") (by decide)
    case h7 =>
      first | omega | decide | exact hm
    case h8 =>
      exact Nat.le_of_ble_eq_true rfl
    case h9 =>
      exact cpw (by first | omega | decide) (by walk_at "bd") (by decide)
    case h10 =>
      first | exact cdw hm hbm (by decide) | exact cdw (by decide) (Bd.of _) (by decide)
    case h11 =>
      first | omega | decide | exact hm
    case h12 =>
      first
        | exact ⟨_, rfl, hG _ _ (modp hm).1 (modp hm).2 ⟨_, _, rfl, divp hm hf, hy0, hy1⟩⟩
        | exact ⟨_, rfl, hG _ _ (modp hm).1 (modp hm).2 ⟨_, _, rfl, hf, mod64 _⟩⟩

/-! ### _law_gcd -/
abbrev s__law_gcd : Stmt := topS 28
theorem sc__law_gcd : FnScope ["u", "v"] ["u", "v"] (defScope s__law_gcd) := ⟨rfl, rfl, rfl, by decide +kernel, rfl, by decide +kernel, by decide +kernel⟩
def F__law_gcd : FP := fun ds Q => ∃ a b, ds = [.int a, .int b] ∧ (0 ≤ a ∧ 0 ≤ b) ∧ ∀ s, s = gcdI a b → Q (.int s)
theorem ok__law_gcd {f : Addr} {fd : FuncData} (Fn : Fun K "_law_gcd" "_law_gcd" s__law_gcd f fd) (m_int : mg "int" = none) : FnOk P w K mg base CX0 1 f fd ["u", "v"] (spP K F__law_gcd) := by
  refine fn_P Fn sc__law_gcd (fun ds G h => ?_) (fun cdv A outer s H Q E ds G hr hF hQ => ?_)
  · obtain ⟨a, b, rfl, ⟨ha, hb⟩, hG⟩ := h
    rfl
  · obtain ⟨a, b, rfl, ⟨ha, hb⟩, hG⟩ := hF
    refine (as_while (W := fun m es q => ∃ h e : Int, es = [some (.int h), some (.int e)] ∧ q = [] ∧ 0 ≤ h ∧ 0 ≤ e ∧ e.toNat ≤ m ∧ Nat.gcd h.natAbs e.natAbs = Nat.gcd a.natAbs b.natAbs) (B := fun _ _ => False) PassesOwn.never (b.toNat) ⟨_, _, rfl, rfl, ha, hb, Nat.le_refl _, rfl⟩ (fun m es q hw => ?h1) (fun _ _ h => h.elim))
    case h1 =>
      obtain ⟨h, e, rfl, rfl, h0, h1, hm, hg⟩ := hw
      refine (t_neI (nm 1 rfl (c_int (And.intro (fun b1 => (as_par (i := 0) (j := 1) ?h2 rfl (ca_cons (nm 1 rfl (ca_cons (c_mod (c_intI m_int (ca_cons (nm 0 rfl (ca_nil (nm 1 rfl (And.intro ?h3 (ca_nil ⟨_, _, rfl, (as_end rfl ?h4)⟩))))))))))))) (fun b1 => (as_ret hQ (nm 0 rfl (And.intro rfl ?h5))))))))
      case h2 =>
        exact sc__law_gcd.nd
      case h3 =>
        first | omega | decide
      case h4 =>
        exact ⟨(h % e).toNat, wl h1 (by assumption) hm, _, _, rfl, rfl, by omega, Int.emod_nonneg _ (by assumption), Nat.le_refl _, by rw [gcd_step h0 (by omega)]; exact hg⟩
      case h5 =>
        exact hG _ (by unfold gcdI; rw [← hg, (show e = 0 by assumption)]; show h = ((Nat.gcd h.natAbs 0 : Nat) : Int); rw [Nat.gcd_zero_right]; omega)

/-! ### _law_num -/
abbrev s__law_num : Stmt := topS 29
theorem sc__law_num : FnScope ["x", "y", "m", "common"] ["x", "y", "m"] (defScope s__law_num) := ⟨rfl, rfl, rfl, by decide +kernel, rfl, by decide +kernel, by decide +kernel⟩
def F__law_num : FP := fun ds Q => ∃ (a b n : Int) (l : Nat), ds = [.int a, .int b, .int n] ∧ (n ≠ 0 ∧ Bd l a ∧ Bd l b ∧ Bd l n ∧ l ≤ 8990) ∧ ∀ x y z, LO a b n x y z → Nm x y z → Bd l x → Bd l y → Bd l z → Q (nD x y z)
theorem ok__law_num {f : Addr} {fd : FuncData} (Fn : Fun K "_law_num" "_law_num" s__law_num f fd) (c__law_gcd : Cl P w K mg base 1 "_law_gcd" ["u", "v"] (spP K F__law_gcd)) (m_abs : mg "abs" = none) : FnOk P w K mg base CX0 2 f fd ["x", "y", "m"] (spP K F__law_num) := by
  refine fn_P Fn sc__law_num (fun ds G h => ?_) (fun cdv A outer s H Q E ds G hr hF hQ => ?_)
  · obtain ⟨a, b, n, l, rfl, ⟨hn, ha, hb, hbn, hl⟩, hG⟩ := h
    rfl
  · obtain ⟨a, b, n, l, rfl, ⟨hn, ha, hb, hbn, hl⟩, hG⟩ := hF
    have es : ∀ g : Int, g = g3 a b n → (n < 0 → -g = sg a b n) ∧ (¬ n < 0 → g = sg a b n) := fun g e => by
      subst e
      unfold sg
      exact ⟨fun h => by rw [if_pos (decide_eq_true h)], fun h => by rw [if_neg (fun z => h (of_decide_eq_true z))]⟩
    obtain ⟨l1, l2, l3⟩ := lo_bd hn ha hb hbn
    have hnm := lo_nm (a := a) (b := b) hn
    have sn := sg_ne (a := a) (b := b) hn
    have sb := sg_bd (a := a) (b := b) hn hbn
    refine (as_asg (i := 3) ?h1 (c_call c__law_gcd (hr.mono (by decide)) (ca_cons (c_call c__law_gcd (hr.mono (by decide)) (ca_cons (c_abs m_abs (ca_cons (nm 0 rfl (ca_nil (ca_cons (c_abs m_abs (ca_cons (nm 1 rfl (ca_nil (ca_nil ⟨_, _, rfl, ?h2, fun gc1 hgc1 => And.intro rfl (ca_cons (c_abs m_abs (ca_cons (nm 2 rfl (ca_nil (ca_nil ⟨_, _, rfl, ?h3, fun gc2 hgc2 => And.intro rfl (as_ifn (t_lt (nm 2 rfl (c_int (And.intro (fun b1 => (as_asg (i := 3) ?h4 (c_neg (nm 3 rfl (as_go (as_ret hQ (c_tup (ca_cons (c_fdivX (nm 0 rfl (nm 3 rfl (And.intro ?h5 (ca_cons (c_fdivX (nm 1 rfl (nm 3 rfl (And.intro ?h6 (ca_cons (c_fdivX (nm 2 rfl (nm 3 rfl (And.intro ?h7 (ca_nil (And.intro (And.intro rfl (Nat.le_of_ble_eq_true rfl)) (And.intro rfl ?h8))))))))))))))))))))))))) (fun b1 => (as_ret hQ (c_tup (ca_cons (c_fdivX (nm 0 rfl (nm 3 rfl (And.intro ?h9 (ca_cons (c_fdivX (nm 1 rfl (nm 3 rfl (And.intro ?h10 (ca_cons (c_fdivX (nm 2 rfl (nm 3 rfl (And.intro ?h11 (ca_nil (And.intro (And.intro rfl (Nat.le_of_ble_eq_true rfl)) (And.intro rfl ?h12))))))))))))))))))))))))))⟩))))))⟩)))))))))))))))
    case h1 =>
      exact sc__law_num.nd
    case h2 =>
      first | exact ⟨abs_nn _, abs_nn _⟩ | exact ⟨by subst hgc1; exact gcdI_nn _ _, abs_nn _⟩
    case h3 =>
      first | exact ⟨abs_nn _, abs_nn _⟩ | exact ⟨by subst hgc1; exact gcdI_nn _ _, abs_nn _⟩
    case h4 =>
      exact sc__law_num.nd
    case h5 =>
      subst hgc1
      rw [g3_gcd] at hgc2
      first
        | (rw [(es _ hgc2).1 b1]; exact cdx sn sb (by omega))
        | (rw [(es _ hgc2).2 b1]; exact cdx sn sb (by omega))
    case h6 =>
      subst hgc1
      rw [g3_gcd] at hgc2
      first
        | (rw [(es _ hgc2).1 b1]; exact cdx sn sb (by omega))
        | (rw [(es _ hgc2).2 b1]; exact cdx sn sb (by omega))
    case h7 =>
      subst hgc1
      rw [g3_gcd] at hgc2
      first
        | (rw [(es _ hgc2).1 b1]; exact cdx sn sb (by omega))
        | (rw [(es _ hgc2).2 b1]; exact cdx sn sb (by omega))
    case h8 =>
      subst hgc1
      rw [g3_gcd] at hgc2
      first
        | (rw [(es _ hgc2).1 b1]; exact hG _ _ _ ⟨rfl, rfl, rfl⟩ hnm l1 l2 l3)
        | (rw [(es _ hgc2).2 b1]; exact hG _ _ _ ⟨rfl, rfl, rfl⟩ hnm l1 l2 l3)
    case h9 =>
      subst hgc1
      rw [g3_gcd] at hgc2
      first
        | (rw [(es _ hgc2).1 b1]; exact cdx sn sb (by omega))
        | (rw [(es _ hgc2).2 b1]; exact cdx sn sb (by omega))
    case h10 =>
      subst hgc1
      rw [g3_gcd] at hgc2
      first
        | (rw [(es _ hgc2).1 b1]; exact cdx sn sb (by omega))
        | (rw [(es _ hgc2).2 b1]; exact cdx sn sb (by omega))
    case h11 =>
      subst hgc1
      rw [g3_gcd] at hgc2
      first
        | (rw [(es _ hgc2).1 b1]; exact cdx sn sb (by omega))
        | (rw [(es _ hgc2).2 b1]; exact cdx sn sb (by omega))
    case h12 =>
      subst hgc1
      rw [g3_gcd] at hgc2
      first
        | (rw [(es _ hgc2).1 b1]; exact hG _ _ _ ⟨rfl, rfl, rfl⟩ hnm l1 l2 l3)
        | (rw [(es _ hgc2).2 b1]; exact hG _ _ _ ⟨rfl, rfl, rfl⟩ hnm l1 l2 l3)

/-! ### _law_plus -/
abbrev s__law_plus : Stmt := topS 30
theorem sc__law_plus : FnScope ["u", "v"] ["u", "v"] (defScope s__law_plus) := ⟨rfl, rfl, rfl, by decide +kernel, rfl, by decide +kernel, by decide +kernel⟩
def F__law_plus : FP := fun ds Q => ∃ (a b n c e m : Int) (l j : Nat), ds = [nD a b n, nD c e m] ∧ (n ≠ 0 ∧ m ≠ 0 ∧ Bd l a ∧ Bd l b ∧ Bd l n ∧ Bd j c ∧ Bd j e ∧ Bd j m ∧ l + j + 1 ≤ 8990) ∧ ∀ x y z, LO (a * m + c * n) (b * m + e * n) (n * m) x y z → Nm x y z → Bd (l + j + 1) x → Bd (l + j + 1) y → Bd (l + j + 1) z → Q (nD x y z)
theorem ok__law_plus {f : Addr} {fd : FuncData} (Fn : Fun K "_law_plus" "_law_plus" s__law_plus f fd) (c__law_num : Cl P w K mg base 2 "_law_num" ["x", "y", "m"] (spP K F__law_num)) : FnOk P w K mg base CX0 3 f fd ["u", "v"] (spP K F__law_plus) := by
  refine fn_P Fn sc__law_plus (fun ds G h => ?_) (fun cdv A outer s H Q E ds G hr hF hQ => ?_)
  · obtain ⟨a, b, n, c, e, m, l, j, rfl, ⟨hn, hm, ha, hb, hbn, hc, he, hbm, hlj⟩, hG⟩ := h
    rfl
  · obtain ⟨a, b, n, c, e, m, l, j, rfl, ⟨hn, hm, ha, hb, hbn, hc, he, hbm, hlj⟩, hG⟩ := hF
    refine (as_ret hQ (c_call c__law_num (hr.mono (by decide)) (ca_cons (c_add (c_mul (c_ixTn (nm 0 rfl (c_int (And.intro (by decide) (c_ixTn (nm 1 rfl (c_int (And.intro (by decide) (And.intro ?h1 (c_mul (c_ixTn (nm 1 rfl (c_int (And.intro (by decide) (c_ixTn (nm 0 rfl (c_int (And.intro (by decide) (And.intro ?h2 (ca_cons (c_add (c_mul (c_ixTn (nm 0 rfl (c_int (And.intro (by decide) (c_ixTn (nm 1 rfl (c_int (And.intro (by decide) (And.intro ?h3 (c_mul (c_ixTn (nm 1 rfl (c_int (And.intro (by decide) (c_ixTn (nm 0 rfl (c_int (And.intro (by decide) (And.intro ?h4 (ca_cons (c_mul (c_ixTn (nm 0 rfl (c_int (And.intro (by decide) (c_ixTn (nm 1 rfl (c_int (And.intro (by decide) (And.intro ?h5 (ca_nil ⟨_, _, _, (l + j + 1), rfl, ?h6, fun x1 y1 z1 lo1 nm1 hx1 hy1 hz1 => And.intro rfl (And.intro rfl ?h7)⟩))))))))))))))))))))))))))))))))))))))))))))))))))))))))))
    case h1 =>
      exact cm (by walk_at "bd") (by walk_at "bd") (by omega)
    case h2 =>
      exact cm (by walk_at "bd") (by walk_at "bd") (by omega)
    case h3 =>
      exact cm (by walk_at "bd") (by walk_at "bd") (by omega)
    case h4 =>
      exact cm (by walk_at "bd") (by walk_at "bd") (by omega)
    case h5 =>
      exact cm (by walk_at "bd") (by walk_at "bd") (by omega)
    case h6 =>
      refine ⟨Int.mul_ne_zero (by assumption) (by assumption), ?_, ?_, ?_, by omega⟩ <;> exact Bd.mono (by walk_at "bd") (by omega)
    case h7 =>
      exact hG _ _ _ lo1 nm1 hx1 hy1 hz1

/-! ### _law_minus -/
abbrev s__law_minus : Stmt := topS 31
theorem sc__law_minus : FnScope ["u", "v"] ["u", "v"] (defScope s__law_minus) := ⟨rfl, rfl, rfl, by decide +kernel, rfl, by decide +kernel, by decide +kernel⟩
def F__law_minus : FP := fun ds Q => ∃ (a b n c e m : Int) (l j : Nat), ds = [nD a b n, nD c e m] ∧ (n ≠ 0 ∧ m ≠ 0 ∧ Bd l a ∧ Bd l b ∧ Bd l n ∧ Bd j c ∧ Bd j e ∧ Bd j m ∧ l + j + 1 ≤ 8990) ∧ ∀ x y z, LO (a * m - c * n) (b * m - e * n) (n * m) x y z → Nm x y z → Bd (l + j + 1) x → Bd (l + j + 1) y → Bd (l + j + 1) z → Q (nD x y z)
theorem ok__law_minus {f : Addr} {fd : FuncData} (Fn : Fun K "_law_minus" "_law_minus" s__law_minus f fd) (c__law_num : Cl P w K mg base 2 "_law_num" ["x", "y", "m"] (spP K F__law_num)) : FnOk P w K mg base CX0 3 f fd ["u", "v"] (spP K F__law_minus) := by
  refine fn_P Fn sc__law_minus (fun ds G h => ?_) (fun cdv A outer s H Q E ds G hr hF hQ => ?_)
  · obtain ⟨a, b, n, c, e, m, l, j, rfl, ⟨hn, hm, ha, hb, hbn, hc, he, hbm, hlj⟩, hG⟩ := h
    rfl
  · obtain ⟨a, b, n, c, e, m, l, j, rfl, ⟨hn, hm, ha, hb, hbn, hc, he, hbm, hlj⟩, hG⟩ := hF
    refine (as_ret hQ (c_call c__law_num (hr.mono (by decide)) (ca_cons (c_sub (c_mul (c_ixTn (nm 0 rfl (c_int (And.intro (by decide) (c_ixTn (nm 1 rfl (c_int (And.intro (by decide) (And.intro ?h1 (c_mul (c_ixTn (nm 1 rfl (c_int (And.intro (by decide) (c_ixTn (nm 0 rfl (c_int (And.intro (by decide) (And.intro ?h2 (ca_cons (c_sub (c_mul (c_ixTn (nm 0 rfl (c_int (And.intro (by decide) (c_ixTn (nm 1 rfl (c_int (And.intro (by decide) (And.intro ?h3 (c_mul (c_ixTn (nm 1 rfl (c_int (And.intro (by decide) (c_ixTn (nm 0 rfl (c_int (And.intro (by decide) (And.intro ?h4 (ca_cons (c_mul (c_ixTn (nm 0 rfl (c_int (And.intro (by decide) (c_ixTn (nm 1 rfl (c_int (And.intro (by decide) (And.intro ?h5 (ca_nil ⟨_, _, _, (l + j + 1), rfl, ?h6, fun x1 y1 z1 lo1 nm1 hx1 hy1 hz1 => And.intro rfl (And.intro rfl ?h7)⟩))))))))))))))))))))))))))))))))))))))))))))))))))))))))))
    case h1 =>
      exact cm (by walk_at "bd") (by walk_at "bd") (by omega)
    case h2 =>
      exact cm (by walk_at "bd") (by walk_at "bd") (by omega)
    case h3 =>
      exact cm (by walk_at "bd") (by walk_at "bd") (by omega)
    case h4 =>
      exact cm (by walk_at "bd") (by walk_at "bd") (by omega)
    case h5 =>
      exact cm (by walk_at "bd") (by walk_at "bd") (by omega)
    case h6 =>
      refine ⟨Int.mul_ne_zero (by assumption) (by assumption), ?_, ?_, ?_, by omega⟩ <;> exact Bd.mono (by walk_at "bd") (by omega)
    case h7 =>
      exact hG _ _ _ lo1 nm1 hx1 hy1 hz1

/-! ### _law_times -/
abbrev s__law_times : Stmt := topS 32
theorem sc__law_times : FnScope ["field", "u", "v", "ends", "both", "cross", "bottom"] ["field", "u", "v"] (defScope s__law_times) := ⟨rfl, rfl, rfl, by decide +kernel, rfl, by decide +kernel, by decide +kernel⟩
def F__law_times : FP := fun ds Q => ∃ (k a b n c e m : Int) (l j : Nat), ds = [.int k, nD a b n, nD c e m] ∧ (Kd k ∧ n ≠ 0 ∧ m ≠ 0 ∧ Bd l a ∧ Bd l b ∧ Bd l n ∧ Bd j c ∧ Bd j e ∧ Bd j m ∧ l + j + 4 ≤ 8990) ∧ ∀ x y z, LO (ptA k a b c e) (ptB k a b c e) (n * m) x y z → Nm x y z → Bd (l + j + 4) x → Bd (l + j + 4) y → Bd (l + j + 4) z → Q (nD x y z)
theorem ok__law_times {f : Addr} {fd : FuncData} (Fn : Fun K "_law_times" "_law_times" s__law_times f fd) (c__law_num : Cl P w K mg base 2 "_law_num" ["x", "y", "m"] (spP K F__law_num)) : FnOk P w K mg base CX0 3 f fd ["field", "u", "v"] (spP K F__law_times) := by
  refine fn_P Fn sc__law_times (fun ds G h => ?_) (fun cdv A outer s H Q E ds G hr hF hQ => ?_)
  · obtain ⟨k, a, b, n, c, e, m, l, j, rfl, ⟨hk, hn, hm, ha, hb, hbn, hc, he, hbm, hlj⟩, hG⟩ := h
    rfl
  · obtain ⟨k, a, b, n, c, e, m, l, j, rfl, ⟨hk, hn, hm, ha, hb, hbn, hc, he, hbm, hlj⟩, hG⟩ := hF
    have hkb := hk.bd
    refine (as_par (i := 3) (j := 4) ?h1 rfl (ca_cons (c_mul (c_ixTn (nm 1 rfl (c_int (And.intro (by decide) (c_ixTn (nm 2 rfl (c_int (And.intro (by decide) (And.intro ?h2 (ca_cons (c_mul (c_ixTn (nm 1 rfl (c_int (And.intro (by decide) (c_ixTn (nm 2 rfl (c_int (And.intro (by decide) (And.intro ?h3 (ca_nil ⟨_, _, rfl, (as_par (i := 5) (j := 6) ?h4 rfl (ca_cons (c_add (c_mul (c_ixTn (nm 1 rfl (c_int (And.intro (by decide) (c_ixTn (nm 2 rfl (c_int (And.intro (by decide) (And.intro ?h5 (c_mul (c_ixTn (nm 1 rfl (c_int (And.intro (by decide) (c_ixTn (nm 2 rfl (c_int (And.intro (by decide) (And.intro ?h6 (ca_cons (c_mul (c_ixTn (nm 1 rfl (c_int (And.intro (by decide) (c_ixTn (nm 2 rfl (c_int (And.intro (by decide) (And.intro ?h7 (ca_nil ⟨_, _, rfl, (as_ifn (t_eqI (nm 0 rfl (c_int (And.intro (fun b1 => (as_ret hQ (c_call c__law_num (hr.mono (by decide)) (ca_cons (c_add (nm 3 rfl (nm 4 rfl (ca_cons (c_add (nm 5 rfl (nm 4 rfl (ca_cons (nm 6 rfl (ca_nil ⟨_, _, _, (l + j + 4), rfl, ?h8, fun x1 y1 z1 lo1 nm1 hx1 hy1 hz1 => And.intro rfl (And.intro rfl ?h9)⟩)))))))))))))) (fun b1 => (as_ret hQ (c_call c__law_num (hr.mono (by decide)) (ca_cons (c_add (nm 3 rfl (c_mul (nm 0 rfl (nm 4 rfl (And.intro ?h10 (ca_cons (nm 5 rfl (ca_cons (nm 6 rfl (ca_nil ⟨_, _, _, (l + j + 4), rfl, ?h11, fun x2 y2 z2 lo2 nm2 hx2 hy2 hz2 => And.intro rfl (And.intro rfl ?h12)⟩))))))))))))))))))))⟩)))))))))))))))))))))))))))))))))))⟩))))))))))))))))))))))))
    case h1 =>
      exact sc__law_times.nd
    case h2 =>
      exact cm (by walk_at "bd") (by walk_at "bd") (by omega)
    case h3 =>
      exact cm (by walk_at "bd") (by walk_at "bd") (by omega)
    case h4 =>
      exact sc__law_times.nd
    case h5 =>
      exact cm (by walk_at "bd") (by walk_at "bd") (by omega)
    case h6 =>
      exact cm (by walk_at "bd") (by walk_at "bd") (by omega)
    case h7 =>
      exact cm (by walk_at "bd") (by walk_at "bd") (by omega)
    case h8 =>
      refine ⟨Int.mul_ne_zero (by assumption) (by assumption), ?_, ?_, ?_, by omega⟩ <;> exact Bd.mono (by walk_at "bd") (by omega)
    case h9 =>
      first
        | exact hG _ _ _ (by unfold ptA ptB; rw [if_pos b1, if_pos b1]; exact lo1) nm1 hx1 hy1 hz1
        | exact hG _ _ _ (by unfold ptA ptB; rw [if_neg b1, if_neg b1]; exact lo1) nm1 hx1 hy1 hz1
        | exact hG _ _ _ (by unfold ptA ptB; rw [if_neg b1, if_neg b1]; exact lo2) nm2 hx2 hy2 hz2
    case h10 =>
      exact cm (by walk_at "bd") (by walk_at "bd") (by omega)
    case h11 =>
      refine ⟨Int.mul_ne_zero (by assumption) (by assumption), ?_, ?_, ?_, by omega⟩ <;> exact Bd.mono (by walk_at "bd") (by omega)
    case h12 =>
      first
        | exact hG _ _ _ (by unfold ptA ptB; rw [if_pos b1, if_pos b1]; exact lo1) nm1 hx1 hy1 hz1
        | exact hG _ _ _ (by unfold ptA ptB; rw [if_neg b1, if_neg b1]; exact lo1) nm1 hx1 hy1 hz1
        | exact hG _ _ _ (by unfold ptA ptB; rw [if_neg b1, if_neg b1]; exact lo2) nm2 hx2 hy2 hz2

/-! ### _law_sign -/
abbrev s__law_sign : Stmt := topS 33
theorem sc__law_sign : FnScope ["field", "u", "x", "y", "more"] ["field", "u"] (defScope s__law_sign) := ⟨rfl, rfl, rfl, by decide +kernel, rfl, by decide +kernel, by decide +kernel⟩
def F__law_sign : FP := fun ds Q => ∃ (k a b c : Int), ds = [.int k, nD a b c] ∧ (Kd k ∧ Bd 9000 a ∧ Bd 9000 b) ∧ ∀ s, s = lsD k a b → Q (.int s)
theorem ok__law_sign {f : Addr} {fd : FuncData} (Fn : Fun K "_law_sign" "_law_sign" s__law_sign f fd) (m_int : mg "int" = none) : FnOk P w K mg base CX0 1 f fd ["field", "u"] (spP K F__law_sign) := by
  refine fn_P Fn sc__law_sign (fun ds G h => ?_) (fun cdv A outer s H Q E ds G hr hF hQ => ?_)
  · obtain ⟨k, a, b, c, rfl, ⟨hk, ha, hb⟩, hG⟩ := h
    rfl
  · obtain ⟨k, a, b, c, rfl, ⟨hk, ha, hb⟩, hG⟩ := hF
    have hkb := hk.bd
    refine (as_par (i := 2) (j := 3) ?h1 rfl (ca_cons (c_ixTn (nm 1 rfl (c_int (And.intro (by decide) (ca_cons (c_ixTn (nm 1 rfl (c_int (And.intro (by decide) (ca_nil ⟨_, _, rfl, (as_ifn (t_eqI (nm 0 rfl (c_int (And.intro (fun b1 => (as_par (i := 2) (j := 3) ?h2 rfl (ca_cons (c_add (c_mulS (c_int (nm 2 rfl (And.intro (.inl (And.intro (by decide) (by decide))) (nm 3 rfl (ca_cons (nm 3 rfl (ca_nil ⟨_, _, rfl, (as_go (as_ifn (t_ge (c_mul (nm 2 rfl (nm 3 rfl (And.intro ?h3 (c_int (And.intro (fun b2 => (as_ret hQ (c_sub (c_intB m_int (ca_cons (c_gt (c_add (nm 2 rfl (nm 3 rfl (c_int (ca_nil (c_intB m_int (ca_cons (c_lt (c_add (nm 2 rfl (nm 3 rfl (c_int (ca_nil (And.intro rfl ?h4)))))))))))))))))))) (fun b2 => (as_asg (i := 4) ?h5 (c_sub (c_mul (nm 2 rfl (nm 2 rfl (And.intro ?h6 (c_mul (c_mul (nm 0 rfl (nm 3 rfl (And.intro ?h7 (nm 3 rfl (And.intro ?h8 (as_ret hQ (c_if (t_gt (nm 2 rfl (c_int (And.intro (fun b3 => (c_sub (c_intB m_int (ca_cons (c_gt (nm 4 rfl (c_int (ca_nil (c_intB m_int (ca_cons (c_lt (nm 4 rfl (c_int (ca_nil (And.intro rfl ?h9))))))))))))))) (fun b3 => (c_sub (c_intB m_int (ca_cons (c_lt (nm 4 rfl (c_int (ca_nil (c_intB m_int (ca_cons (c_gt (nm 4 rfl (c_int (ca_nil (And.intro rfl ?h10))))))))))))))))))))))))))))))))))))))))))))⟩)))))))))))) (fun b1 => (as_ifn (t_ge (c_mul (nm 2 rfl (nm 3 rfl (And.intro ?h11 (c_int (And.intro (fun b4 => (as_ret hQ (c_sub (c_intB m_int (ca_cons (c_gt (c_add (nm 2 rfl (nm 3 rfl (c_int (ca_nil (c_intB m_int (ca_cons (c_lt (c_add (nm 2 rfl (nm 3 rfl (c_int (ca_nil (And.intro rfl ?h12)))))))))))))))))))) (fun b4 => (as_asg (i := 4) ?h13 (c_sub (c_mul (nm 2 rfl (nm 2 rfl (And.intro ?h14 (c_mul (c_mul (nm 0 rfl (nm 3 rfl (And.intro ?h15 (nm 3 rfl (And.intro ?h16 (as_ret hQ (c_if (t_gt (nm 2 rfl (c_int (And.intro (fun b5 => (c_sub (c_intB m_int (ca_cons (c_gt (nm 4 rfl (c_int (ca_nil (c_intB m_int (ca_cons (c_lt (nm 4 rfl (c_int (ca_nil (And.intro rfl ?h17))))))))))))))) (fun b5 => (c_sub (c_intB m_int (ca_cons (c_lt (nm 4 rfl (c_int (ca_nil (c_intB m_int (ca_cons (c_gt (nm 4 rfl (c_int (ca_nil (And.intro rfl ?h18)))))))))))))))))))))))))))))))))))))))))))))))))⟩))))))))))))
    case h1 =>
      exact sc__law_sign.nd
    case h2 =>
      exact sc__law_sign.nd
    case h3 =>
      exact cm (by walk_at "bd") (by walk_at "bd") (by decide)
    case h4 =>
      first
        | exact hG _ (by unfold lsD sgL; rw [if_pos b1, if_pos b2]; rfl)
        | exact hG _ (by unfold lsD sgL; rw [if_pos b1, if_neg b2, if_pos b3]; rfl)
        | exact hG _ (by unfold lsD sgL; rw [if_pos b1, if_neg b2, if_neg b3]; rfl)
        | exact hG _ (by unfold lsD sgL; rw [if_neg b1, if_pos (show 0 ≤ a * b by assumption)]; rfl)
        | exact hG _ (by unfold lsD sgL; rw [if_neg b1, if_neg (show ¬ 0 ≤ a * b by assumption), if_pos (show 0 < a by assumption)]; rfl)
        | exact hG _ (by unfold lsD sgL; rw [if_neg b1, if_neg (show ¬ 0 ≤ a * b by assumption), if_neg (show ¬ 0 < a by assumption)]; rfl)
    case h5 =>
      exact sc__law_sign.nd
    case h6 =>
      exact cm (by walk_at "bd") (by walk_at "bd") (by decide)
    case h7 =>
      exact cm (by walk_at "bd") (by walk_at "bd") (by decide)
    case h8 =>
      exact cm (by walk_at "bd") (by walk_at "bd") (by decide)
    case h9 =>
      first
        | exact hG _ (by unfold lsD sgL; rw [if_pos b1, if_pos b2]; rfl)
        | exact hG _ (by unfold lsD sgL; rw [if_pos b1, if_neg b2, if_pos b3]; rfl)
        | exact hG _ (by unfold lsD sgL; rw [if_pos b1, if_neg b2, if_neg b3]; rfl)
        | exact hG _ (by unfold lsD sgL; rw [if_neg b1, if_pos (show 0 ≤ a * b by assumption)]; rfl)
        | exact hG _ (by unfold lsD sgL; rw [if_neg b1, if_neg (show ¬ 0 ≤ a * b by assumption), if_pos (show 0 < a by assumption)]; rfl)
        | exact hG _ (by unfold lsD sgL; rw [if_neg b1, if_neg (show ¬ 0 ≤ a * b by assumption), if_neg (show ¬ 0 < a by assumption)]; rfl)
    case h10 =>
      first
        | exact hG _ (by unfold lsD sgL; rw [if_pos b1, if_pos b2]; rfl)
        | exact hG _ (by unfold lsD sgL; rw [if_pos b1, if_neg b2, if_pos b3]; rfl)
        | exact hG _ (by unfold lsD sgL; rw [if_pos b1, if_neg b2, if_neg b3]; rfl)
        | exact hG _ (by unfold lsD sgL; rw [if_neg b1, if_pos (show 0 ≤ a * b by assumption)]; rfl)
        | exact hG _ (by unfold lsD sgL; rw [if_neg b1, if_neg (show ¬ 0 ≤ a * b by assumption), if_pos (show 0 < a by assumption)]; rfl)
        | exact hG _ (by unfold lsD sgL; rw [if_neg b1, if_neg (show ¬ 0 ≤ a * b by assumption), if_neg (show ¬ 0 < a by assumption)]; rfl)
    case h11 =>
      exact cm (by walk_at "bd") (by walk_at "bd") (by decide)
    case h12 =>
      first
        | exact hG _ (by unfold lsD sgL; rw [if_pos b1, if_pos b2]; rfl)
        | exact hG _ (by unfold lsD sgL; rw [if_pos b1, if_neg b2, if_pos b3]; rfl)
        | exact hG _ (by unfold lsD sgL; rw [if_pos b1, if_neg b2, if_neg b3]; rfl)
        | exact hG _ (by unfold lsD sgL; rw [if_neg b1, if_pos (show 0 ≤ a * b by assumption)]; rfl)
        | exact hG _ (by unfold lsD sgL; rw [if_neg b1, if_neg (show ¬ 0 ≤ a * b by assumption), if_pos (show 0 < a by assumption)]; rfl)
        | exact hG _ (by unfold lsD sgL; rw [if_neg b1, if_neg (show ¬ 0 ≤ a * b by assumption), if_neg (show ¬ 0 < a by assumption)]; rfl)
    case h13 =>
      exact sc__law_sign.nd
    case h14 =>
      exact cm (by walk_at "bd") (by walk_at "bd") (by decide)
    case h15 =>
      exact cm (by walk_at "bd") (by walk_at "bd") (by decide)
    case h16 =>
      exact cm (by walk_at "bd") (by walk_at "bd") (by decide)
    case h17 =>
      first
        | exact hG _ (by unfold lsD sgL; rw [if_pos b1, if_pos b2]; rfl)
        | exact hG _ (by unfold lsD sgL; rw [if_pos b1, if_neg b2, if_pos b3]; rfl)
        | exact hG _ (by unfold lsD sgL; rw [if_pos b1, if_neg b2, if_neg b3]; rfl)
        | exact hG _ (by unfold lsD sgL; rw [if_neg b1, if_pos (show 0 ≤ a * b by assumption)]; rfl)
        | exact hG _ (by unfold lsD sgL; rw [if_neg b1, if_neg (show ¬ 0 ≤ a * b by assumption), if_pos (show 0 < a by assumption)]; rfl)
        | exact hG _ (by unfold lsD sgL; rw [if_neg b1, if_neg (show ¬ 0 ≤ a * b by assumption), if_neg (show ¬ 0 < a by assumption)]; rfl)
    case h18 =>
      first
        | exact hG _ (by unfold lsD sgL; rw [if_pos b1, if_pos b2]; rfl)
        | exact hG _ (by unfold lsD sgL; rw [if_pos b1, if_neg b2, if_pos b3]; rfl)
        | exact hG _ (by unfold lsD sgL; rw [if_pos b1, if_neg b2, if_neg b3]; rfl)
        | exact hG _ (by unfold lsD sgL; rw [if_neg b1, if_pos (show 0 ≤ a * b by assumption)]; rfl)
        | exact hG _ (by unfold lsD sgL; rw [if_neg b1, if_neg (show ¬ 0 ≤ a * b by assumption), if_pos (show 0 < a by assumption)]; rfl)
        | exact hG _ (by unfold lsD sgL; rw [if_neg b1, if_neg (show ¬ 0 ≤ a * b by assumption), if_neg (show ¬ 0 < a by assumption)]; rfl)

end
end Y02

set_option Elab.async false
set_option linter.all false
set_option maxRecDepth 100000
set_option maxHeartbeats 8000000
namespace Y02
open PySem PySem.Spec PyProof.Rows L2 Evl Wz
local macro_rules | `(tactic| walk_at "bd") => `(tactic| (repeat (first | assumption | apply Bd.mul | apply Bd.add | apply Bd.sub | apply Bd.neg | exact Bd.z | exact Bd.of _)))
local macro_rules | `(tactic| walk_at "bm") => `(tactic| (first | assumption | exact Bd.mono (by walk_at "bd") (by decide)))
local macro_rules | `(tactic| walk_at "b2") => `(tactic| (repeat (first | assumption | apply And.intro | walk_at "bm" | decide | omega)))

/-- what is compared: of a depth of at most n -/
def Sh : Nat → Dat → Prop
  | 0, d => ∃ i, d = .int i
  | n + 1, d => (∃ i, d = .int i) ∨ ∃ xs : List Dat, (d = .tup xs ∨ d = .lst xs) ∧ xs.length ≤ 1000 ∧ ∀ (i : Nat) (e : Dat), xs[i]? = some e → Sh n e
def F__law_same (n : Nat) : FP := fun ds Q => ∃ d, ds = [d, d] ∧ Sh n d ∧ Q (.bl true)
theorem rd_sh {n : Nat} {d : Dat} {k : Cs} (h : Sh n d) : rd k d = d := by
  cases n with
  | zero =>
    rw [Sh] at h
    rcases h with ⟨i, rfl⟩
    rfl
  | succ n =>
    rw [Sh] at h
    rcases h with ⟨i, rfl⟩ | ⟨xs, rfl | rfl, _⟩ <;> rfl
section
variable {P : Program} {w : World} {K : PySem.W.Frag} {mg : Str → Option Value} {base : Heap}

/-! ### _law_same -/
abbrev s__law_same : Stmt := topS 34
theorem sc__law_same : FnScope ["found", "due", "at"] ["found", "due"] (defScope s__law_same) := ⟨rfl, rfl, rfl, by decide +kernel, rfl, by decide +kernel, by decide +kernel⟩
theorem al_flat {f : Addr} {cdv : Value} {A : Around} {outer : List Env} {s : Shared} {H : Hp} {Q : VK} {E : XK} {d : Dat} {G : Dat → Prop} {j : Nat} (m_isinstance : mg "isinstance" = none) (m_bool : mg "bool" = none) (m_int : mg "int" = none) (m_str : mg "str" = none) (m_tuple : mg "tuple" = none) (m_list : mg "list" = none) (m_len : mg "len" = none) (m_range : mg "range" = none) (hr : Room j (A.deeper (envOfC "_law_same" (defScope s__law_same) s.heap.objs.size f cdv))) (hd : Sh 0 d) (hG : G (.bl true)) (hQ : RetC K [] H Q (fun d _ => G d)) :
    AS (cxOf CX0 P w K mg base ["found", "due", "at"] "_law_same" (defScope s__law_same) f cdv A outer s H E).nox [] [] (defBody s__law_same) { nx := fun _ H' => Q .non H', rt := Q } [some d, some d, none] [] H := by
  unfold Sh at hd
  rcases hd with ⟨i, rfl⟩
  refine (as_ifn (t_val (c_isi2 (U1 := "tuple") (U2 := "list") m_isinstance m_tuple (by decide +kernel) m_list (by decide +kernel) (nm 1 rfl ⟨_, false, false, rfl, (by decide +kernel), (by decide +kernel), (as_ifn (t_isN (nm 1 rfl (as_ifn (t_val (c_isi (U := "str") m_isinstance (ca_cons (nm 1 rfl (ca_cons (c_ty (T := "str") m_str (by decide +kernel) (ca_nil ⟨rfl, _, false, rfl, (by decide +kernel), (as_ifn (t_w (w_or (t_val (c_isi (U := "bool") m_isinstance (ca_cons (nm 1 rfl (ca_cons (c_ty (T := "bool") m_bool (by decide +kernel) (ca_nil ⟨rfl, _, false, rfl, (by decide +kernel), (w_or1 (t_val (c_isi (U := "bool") m_isinstance (ca_cons (nm 0 rfl (ca_cons (c_ty (T := "bool") m_bool (by decide +kernel) (ca_nil ⟨rfl, _, false, rfl, (by decide +kernel), (as_ret hQ (c_and (c_isi (U := "int") m_isinstance (ca_cons (nm 0 rfl (ca_cons (c_ty (T := "int") m_int (by decide +kernel) (ca_nil ⟨rfl, _, true, rfl, (by decide +kernel), (c_one (c_eqI (nm 0 rfl (nm 1 rfl (And.intro rfl ?h101)))))⟩))))))))⟩))))))))⟩))))))))))⟩)))))))))))⟩))))
  case h101 =>
    first
      | (rw [decide_eq_true rfl] at *; exact hG)
      | (simpa using hG)
theorem ok__law_same {f : Addr} {fd : FuncData} (Fn : Fun K "_law_same" "_law_same" s__law_same f fd) (hm : mg "_law_same" = some (.ref f)) (hkp : PySem.W.keepIn K (.ref f) = true) (hb : Binds K fd ["found", "due"] []) (m_isinstance : mg "isinstance" = none) (m_bool : mg "bool" = none) (m_int : mg "int" = none) (m_str : mg "str" = none) (m_tuple : mg "tuple" = none) (m_list : mg "list" = none) (m_len : mg "len" = none) (m_range : mg "range" = none) : ∀ n : Nat, FnOk P w K mg base CX0 (n + 1) f fd ["found", "due"] (spP K (F__law_same n))
  | 0 => by
    refine fn_P Fn sc__law_same (fun ds G h => ?_) (fun cdv A outer s H Q E ds G hr hF hQ => ?_)
    · obtain ⟨d, rfl, _⟩ := h
      rfl
    · obtain ⟨d, rfl, hd, hG⟩ := hF
      exact al_flat m_isinstance m_bool m_int m_str m_tuple m_list m_len m_range hr hd hG hQ
  | n + 1 => by
    have c__law_same : Cl P w K mg base (n + 1) "_law_same" ["found", "due"] (spP K (F__law_same n)) := ⟨f, fd, hm, hkp, hb, ok__law_same Fn hm hkp hb m_isinstance m_bool m_int m_str m_tuple m_list m_len m_range n⟩
    refine fn_P Fn sc__law_same (fun ds G h => ?_) (fun cdv A outer s H Q E ds G hr hF hQ => ?_)
    · obtain ⟨d, rfl, _⟩ := h
      rfl
    · obtain ⟨d, rfl, hd, hG⟩ := hF
      rw [Sh] at hd
      rcases hd with hd | ⟨xs, hx, hl, hs⟩
      · exact al_flat m_isinstance m_bool m_int m_str m_tuple m_list m_len m_range hr hd hG hQ
      · rcases hx with rfl | rfl
        ·
          refine (as_ifn (t_val (c_isi2 (U1 := "tuple") (U2 := "list") m_isinstance m_tuple (by decide +kernel) m_list (by decide +kernel) (nm 1 rfl ⟨_, true, false, rfl, (by decide +kernel), (by decide +kernel), (as_ifn (t_w (w_or (t_neDB hr.units (c_isi (U := "tuple") m_isinstance (ca_cons (nm 0 rfl (ca_cons (c_ty (T := "tuple") m_tuple (by decide +kernel) (ca_nil ⟨rfl, _, true, rfl, (by decide +kernel), (c_isi (U := "tuple") m_isinstance (ca_cons (nm 1 rfl (ca_cons (c_ty (T := "tuple") m_tuple (by decide +kernel) (ca_nil ⟨rfl, _, true, rfl, (by decide +kernel), (And.intro ?h201 (And.intro (fun b1 => (as_ret hQ (c_bl (And.intro rfl ?h202)))) (fun b1 => (w_or1 (t_neDB hr.units (c_isi (U := "list") m_isinstance (ca_cons (nm 0 rfl (ca_cons (c_ty (T := "list") m_list (by decide +kernel) (ca_nil ⟨rfl, _, false, rfl, (by decide +kernel), (c_isi (U := "list") m_isinstance (ca_cons (nm 1 rfl (ca_cons (c_ty (T := "list") m_list (by decide +kernel) (ca_nil ⟨rfl, _, false, rfl, (by decide +kernel), (And.intro ?h203 (And.intro (fun b2 => (as_ret hQ (c_bl (And.intro rfl ?h204)))) (fun b2 => (as_ifn (t_neI (c_lenT m_len (ca_cons (nm 0 rfl (ca_nil (c_lenT m_len (ca_cons (nm 1 rfl (ca_nil (And.intro (fun h => absurd rfl h) (fun _ => (as_ret hQ (c_eqD hr.units (c_ofN (n_lcRc (j := 2) rfl ?h205 m_range (blkOk_by (N := ["found", "due", "at"]) (sc := defScope s__law_same) (by decide +kernel)) (fun _ _ _ _ _ => pg_name (i := 2) sc__law_same.nd rfl (Or.inl rfl)) (ca_cons (c_lenT m_len (ca_cons (nm 1 rfl (ca_nil (ca_nil ⟨?h211, (fun l acc q => acc = [] ∧ q = []), ⟨rfl, rfl⟩, ⟨fun _ _ _ _ _ l d acc q hl hd hw => ?h206⟩, fun acc q hw ha => ?h207⟩)))))))))))))))))))))))))⟩))))))⟩)))))))))))⟩))))))⟩))))))))))⟩))))
          case h201 =>
            exact ⟨⟨rfl, rfl⟩, rfl, rfl⟩
          case h202 =>
            first
              | (exfalso; simp [pd, PyData.eqv] at b1; done)
              | (exfalso; simp [pd, PyData.eqv] at b2; done)
              | (exfalso; simp [pd, PyData.eqv] at b3; done)
              | (exfalso; simp [pd, PyData.eqv] at b4; done)
          case h203 =>
            exact ⟨⟨rfl, rfl⟩, rfl, rfl⟩
          case h204 =>
            first
              | (exfalso; simp [pd, PyData.eqv] at b1; done)
              | (exfalso; simp [pd, PyData.eqv] at b2; done)
              | (exfalso; simp [pd, PyData.eqv] at b3; done)
              | (exfalso; simp [pd, PyData.eqv] at b4; done)
          case h205 =>
            exact sc__law_same.nd
          case h206 =>
            obtain ⟨rfl, rfl⟩ := hw
            cases hd
            have hl2 : l < xs.length := by omega
            obtain ⟨e, he⟩ : ∃ e, xs[l]? = some e := ⟨_, List.getElem?_eq_getElem hl2⟩
            refine (t_not (t_val (c_call c__law_same hr (ca_cons (c_ixT (nm 0 rfl (nm 2 rfl ⟨l, e, rfl, he, (ca_cons (c_ixT (nm 1 rfl (nm 2 rfl ⟨l, e, rfl, he, (ca_nil ⟨_, rfl, ?h208, And.intro rfl ⟨rfl, rfl⟩⟩)⟩))))⟩)))))))
            case h208 =>
              rw [rd_sh (hs _ _ he)]
              exact hs _ _ he
          case h207 =>
            obtain ⟨rfl, rfl⟩ := hw
            refine (c_ofN (n_disp (ca_nil (And.intro (And.intro rfl (Nat.le_of_ble_eq_true rfl)) (And.intro ?h209 (And.intro rfl ?h210))))))
            case h209 =>
              exact ⟨⟨rfl, rfl⟩, rfl, rfl⟩
            case h210 =>
              simpa [pd, pd.pds, PyData.eqv, PyData.eqvAll] using hG
          case h211 =>
            omega
        ·
          refine (as_ifn (t_val (c_isi2 (U1 := "tuple") (U2 := "list") m_isinstance m_tuple (by decide +kernel) m_list (by decide +kernel) (nm 1 rfl ⟨_, false, true, rfl, (by decide +kernel), (by decide +kernel), (as_ifn (t_w (w_or (t_neDB hr.units (c_isi (U := "tuple") m_isinstance (ca_cons (nm 0 rfl (ca_cons (c_ty (T := "tuple") m_tuple (by decide +kernel) (ca_nil ⟨rfl, _, false, rfl, (by decide +kernel), (c_isi (U := "tuple") m_isinstance (ca_cons (nm 1 rfl (ca_cons (c_ty (T := "tuple") m_tuple (by decide +kernel) (ca_nil ⟨rfl, _, false, rfl, (by decide +kernel), (And.intro ?h301 (And.intro (fun b1 => (as_ret hQ (c_bl (And.intro rfl ?h302)))) (fun b1 => (w_or1 (t_neDB hr.units (c_isi (U := "list") m_isinstance (ca_cons (nm 0 rfl (ca_cons (c_ty (T := "list") m_list (by decide +kernel) (ca_nil ⟨rfl, _, true, rfl, (by decide +kernel), (c_isi (U := "list") m_isinstance (ca_cons (nm 1 rfl (ca_cons (c_ty (T := "list") m_list (by decide +kernel) (ca_nil ⟨rfl, _, true, rfl, (by decide +kernel), (And.intro ?h303 (And.intro (fun b2 => (as_ret hQ (c_bl (And.intro rfl ?h304)))) (fun b2 => (as_ifn (t_neI (c_lenL m_len (ca_cons (nm 0 rfl (ca_nil (c_lenL m_len (ca_cons (nm 1 rfl (ca_nil (And.intro (fun h => absurd rfl h) (fun _ => (as_ret hQ (c_eqD hr.units (c_ofN (n_lcRc (j := 2) rfl ?h305 m_range (blkOk_by (N := ["found", "due", "at"]) (sc := defScope s__law_same) (by decide +kernel)) (fun _ _ _ _ _ => pg_name (i := 2) sc__law_same.nd rfl (Or.inl rfl)) (ca_cons (c_lenL m_len (ca_cons (nm 1 rfl (ca_nil (ca_nil ⟨?h311, (fun l acc q => acc = [] ∧ q = []), ⟨rfl, rfl⟩, ⟨fun _ _ _ _ _ l d acc q hl hd hw => ?h306⟩, fun acc q hw ha => ?h307⟩)))))))))))))))))))))))))⟩))))))⟩)))))))))))⟩))))))⟩))))))))))⟩))))
          case h301 =>
            exact ⟨⟨rfl, rfl⟩, rfl, rfl⟩
          case h302 =>
            first
              | (exfalso; simp [pd, PyData.eqv] at b1; done)
              | (exfalso; simp [pd, PyData.eqv] at b2; done)
              | (exfalso; simp [pd, PyData.eqv] at b3; done)
              | (exfalso; simp [pd, PyData.eqv] at b4; done)
          case h303 =>
            exact ⟨⟨rfl, rfl⟩, rfl, rfl⟩
          case h304 =>
            first
              | (exfalso; simp [pd, PyData.eqv] at b1; done)
              | (exfalso; simp [pd, PyData.eqv] at b2; done)
              | (exfalso; simp [pd, PyData.eqv] at b3; done)
              | (exfalso; simp [pd, PyData.eqv] at b4; done)
          case h305 =>
            exact sc__law_same.nd
          case h306 =>
            obtain ⟨rfl, rfl⟩ := hw
            cases hd
            have hl2 : l < xs.length := by omega
            obtain ⟨e, he⟩ : ∃ e, xs[l]? = some e := ⟨_, List.getElem?_eq_getElem hl2⟩
            refine (t_not (t_val (c_call c__law_same hr (ca_cons (c_ixL (nm 0 rfl (nm 2 rfl ⟨l, e, rfl, he, (ca_cons (c_ixL (nm 1 rfl (nm 2 rfl ⟨l, e, rfl, he, (ca_nil ⟨_, rfl, ?h308, And.intro rfl ⟨rfl, rfl⟩⟩)⟩))))⟩)))))))
            case h308 =>
              rw [rd_sh (hs _ _ he)]
              exact hs _ _ he
          case h307 =>
            obtain ⟨rfl, rfl⟩ := hw
            refine (c_ofN (n_disp (ca_nil (And.intro (And.intro rfl (Nat.le_of_ble_eq_true rfl)) (And.intro ?h309 (And.intro rfl ?h310))))))
            case h309 =>
              exact ⟨⟨rfl, rfl⟩, rfl, rfl⟩
            case h310 =>
              simpa [pd, pd.pds, PyData.eqv, PyData.eqvAll] using hG
          case h311 =>
            omega

end
end Y02

set_option Elab.async false
set_option linter.all false
set_option maxRecDepth 100000
set_option maxHeartbeats 8000000
namespace Y02
open PySem PySem.Spec PyProof.Rows L2 Evl Wz
local macro_rules | `(tactic| walk_at "bd") => `(tactic| (repeat (first | assumption | apply Bd.mul | apply Bd.add | apply Bd.sub | apply Bd.neg | exact Bd.z | exact Bd.of _)))
local macro_rules | `(tactic| walk_at "bm") => `(tactic| (first | assumption | exact Bd.mono (by walk_at "bd") (by decide)))
local macro_rules | `(tactic| walk_at "b2") => `(tactic| (repeat (first | assumption | apply And.intro | walk_at "bm" | decide | omega)))

theorem at3i {i : Int} {C : Dat → Prop} (h0 : 0 ≤ i) (h1 : i < 3) (h : ∀ n : Int, 0 < n → n ≤ 12 → C (.int n)) : onAt [.int 1, .int 3, .int 12] i C := by
  by_cases e : i = 0
  · exact ⟨0, _, by omega, rfl, h _ (by decide) (by decide)⟩
  · by_cases e1 : i = 1
    · exact ⟨1, _, by omega, rfl, h _ (by decide) (by decide)⟩
    · exact ⟨2, _, by omega, rfl, h _ (by decide) (by decide)⟩
theorem at4n {i : Int} {C : Dat → Prop} (h0 : 0 ≤ i) (h1 : i < 4) (h : ∀ n : Int, 0 < n → n ≤ 700 → C (.int n)) : onAt [.int 30, .int 30, .int 30, .int 700] i C := by
  by_cases e : i = 0
  · exact ⟨0, _, by omega, rfl, h _ (by decide) (by decide)⟩
  · by_cases e1 : i = 1
    · exact ⟨1, _, by omega, rfl, h _ (by decide) (by decide)⟩
    · by_cases e2 : i = 2
      · exact ⟨2, _, by omega, rfl, h _ (by decide) (by decide)⟩
      · exact ⟨3, _, by omega, rfl, h _ (by decide) (by decide)⟩
theorem at3f {i : Int} {C : Dat → Prop} (h0 : 0 ≤ i) (h1 : i < 3) (h : ∀ n : Int, 0 < n → Bd 100 n → C (.int n)) : onAt [.int 1000, .int (10 ^ (6 : Int).toNat), .int (10 ^ (30 : Int).toNat)] i C := by
  by_cases e : i = 0
  · exact ⟨0, _, by omega, rfl, h _ (by decide) (by show Int.natAbs _ < 2 ^ 100; decide)⟩
  · by_cases e1 : i = 1
    · exact ⟨1, _, by omega, rfl, h _ (by decide) (by show Int.natAbs _ < 2 ^ 100; decide)⟩
    · exact ⟨2, _, by omega, rfl, h _ (by decide) (by show Int.natAbs _ < 2 ^ 100; decide)⟩
theorem nm_n1 {a b : Int} : Nm a b 1 := by
  show isN a b 1 = true
  have : g3 a b 1 = 1 := by
    unfold g3
    have e : (1 : Int).natAbs = 1 := rfl
    rw [e, Nat.gcd_one_right]
    rfl
  unfold isN
  rw [this]
  decide
theorem bd_s {n : Nat} {i : Int} (h : i.natAbs < 4096) (hn : 12 ≤ n) : Bd n i := Nat.lt_of_lt_of_le h (Nat.le_trans (by decide : 4096 ≤ 2 ^ 12) (Nat.pow_le_pow_right (by decide) hn))
theorem at3t {i p q r : Int} {C : Dat → Prop} (h0 : 0 ≤ i) (h1 : i < 3) (hn : Nm p q r) (hp : Bd 12 p) (hq : Bd 12 q) (hr : Bd 12 r) (h : ∀ a b n : Int, Nm a b n → Bd 12 a → Bd 12 b → Bd 12 n → C (nD a b n)) : onAt [nD 1 0 1, nD (-1) 0 1, nD p q r] i C := by
  by_cases e : i = 0
  · exact ⟨0, _, by omega, rfl, h _ _ _ nm_n1 (bd_s (by decide) (by decide)) (bd_s (by decide) (by decide)) (bd_s (by decide) (by decide))⟩
  · by_cases e1 : i = 1
    · exact ⟨1, _, by omega, rfl, h _ _ _ nm_n1 (bd_s (by decide) (by decide)) (bd_s (by decide) (by decide)) (bd_s (by decide) (by decide))⟩
    · exact ⟨2, _, by omega, rfl, h _ _ _ hn hp hq hr⟩
theorem grow {n : Nat} {x y z : Int} (hx : Bd n x) (hy : Bd n y) (h : z.natAbs ≤ 4 * x.natAbs + 4 * y.natAbs) : Bd (n + 3) z := by
  have h1 : x.natAbs < 2 ^ n := hx
  have h2 : y.natAbs < 2 ^ n := hy
  show z.natAbs < 2 ^ (n + 3)
  rw [Nat.pow_add]
  omega
theorem vf_bd {v f : Int} (h0 : 0 ≤ v) (h1 : v < 2 * f + 1) (hf : Bd 100 f) (hp : 0 < f) : Bd 100 (v - f) := by
  have h2 : f.natAbs < 2 ^ 100 := hf
  show (v - f).natAbs < 2 ^ 100
  generalize 2 ^ 100 = T at *
  omega
section
variable {P : Program} {w : World} {K : PySem.W.Frag} {mg : Str → Option Value} {base : Heap}

/-! ### _law_number -/
abbrev s__law_number : Stmt := topS 35
theorem sc__law_number : FnScope ["deck", "way"] ["deck"] (defScope s__law_number) := ⟨rfl, rfl, rfl, by decide +kernel, rfl, by decide +kernel, by decide +kernel⟩
def F__law_number : FD := fun ds c Q => ds = [] ∧ Dk c ∧ ∀ x y z c', Nm x y z → Bd 12 x → Bd 12 y → Bd 12 z → Dk c' → Q (nD x y z) c'
theorem ok__law_number {f : Addr} {fd : FuncData} (Fn : Fun K "_law_number" "_law_number" s__law_number f fd) (c__law_take : Cl P w K mg base 1 "_law_take" ["deck", "many"] (spD K F__law_take)) (c__law_num : Cl P w K mg base 2 "_law_num" ["x", "y", "m"] (spP K F__law_num)) : FnOk P w K mg base CX0 3 f fd ["deck"] (spD K F__law_number) := by
  refine fn_D Fn sc__law_number (fun ds c G h => ?_) (fun cdv A outer s H Q E pa ds c G hr hF hQ => ?_)
  · obtain ⟨rfl, hdk, hG⟩ := h
    rfl
  · obtain ⟨rfl, hdk, hG⟩ := hF
    refine (as_asg (i := 1) ?h1 (c_callD c__law_take (hr.mono (by decide)) (ca_cons (nm 0 rfl (ca_cons (c_int (ca_nil (And.intro rfl ⟨_, rfl, ⟨?h2, ?h3, (by assumption)⟩, fun v1 c1 hv1 hw1 hd1 => And.intro rfl (as_ifn (t_eqI (nm 1 rfl (c_int (And.intro (fun b1 => (as_ret hQ (c_tup (ca_cons (c_sub (c_callD c__law_take (hr.mono (by decide)) (ca_cons (nm 0 rfl (ca_cons (c_int (ca_nil (And.intro rfl ⟨_, rfl, ⟨?h4, ?h5, (by assumption)⟩, fun v2 c2 hv2 hw2 hd2 => And.intro rfl (c_int (ca_cons (c_int (ca_cons (c_int (ca_nil (And.intro (And.intro rfl (Nat.le_of_ble_eq_true rfl)) (And.intro rfl ?h6))))))))⟩)))))))))))) (fun b1 => (as_ifn (t_lt (nm 1 rfl (c_int (And.intro (fun b2 => (as_ret hQ (c_call c__law_num (hr.mono (by decide)) (ca_cons (c_sub (c_callD c__law_take (hr.mono (by decide)) (ca_cons (nm 0 rfl (ca_cons (c_int (ca_nil (And.intro rfl ⟨_, rfl, ⟨?h7, ?h8, (by assumption)⟩, fun v3 c3 hv3 hw3 hd3 => And.intro rfl (c_int (ca_cons (c_sub (c_callD c__law_take (hr.mono (by decide)) (ca_cons (nm 0 rfl (ca_cons (c_int (ca_nil (And.intro rfl ⟨_, rfl, ⟨?h9, ?h10, (by assumption)⟩, fun v4 c4 hv4 hw4 hd4 => And.intro rfl (c_int (ca_cons (c_add (c_int (c_callD c__law_take (hr.mono (by decide)) (ca_cons (nm 0 rfl (ca_cons (c_ixL (c_ofN (n_disp (ca_cons (c_int (ca_cons (c_int (ca_cons (c_int (ca_nil (And.intro (And.intro rfl (Nat.le_of_ble_eq_true rfl)) (c_sub (nm 1 rfl (c_int (at3i (by omega) (by omega) (fun n1 hn1a hn1b => (ca_nil (And.intro rfl ⟨_, rfl, ⟨?h11, ?h12, (by assumption)⟩, fun v5 c5 hv5 hw5 hd5 => And.intro rfl (ca_nil ⟨_, _, _, 12, rfl, ?h13, fun x1 y1 z1 lo1 nm1 hx1 hy1 hz1 => And.intro rfl (And.intro rfl ?h14)⟩)⟩))))))))))))))))))))))))))⟩))))))))))⟩)))))))))))) (fun b2 => (as_ret hQ (c_call c__law_num (hr.mono (by decide)) (ca_cons (c_sub (c_callD c__law_take (hr.mono (by decide)) (ca_cons (nm 0 rfl (ca_cons (c_int (ca_nil (And.intro rfl ⟨_, rfl, ⟨?h15, ?h16, (by assumption)⟩, fun v6 c6 hv6 hw6 hd6 => And.intro rfl (c_int (ca_cons (c_sub (c_callD c__law_take (hr.mono (by decide)) (ca_cons (nm 0 rfl (ca_cons (c_int (ca_nil (And.intro rfl ⟨_, rfl, ⟨?h17, ?h18, (by assumption)⟩, fun v7 c7 hv7 hw7 hd7 => And.intro rfl (c_int (ca_cons (c_add (c_int (c_callD c__law_take (hr.mono (by decide)) (ca_cons (nm 0 rfl (ca_cons (c_int (ca_nil (And.intro rfl ⟨_, rfl, ⟨?h19, ?h20, (by assumption)⟩, fun v8 c8 hv8 hw8 hd8 => And.intro rfl (ca_nil ⟨_, _, _, 12, rfl, ?h21, fun x2 y2 z2 lo2 nm2 hx2 hy2 hz2 => And.intro rfl (And.intro rfl ?h22)⟩)⟩)))))))))))⟩))))))))))⟩)))))))))))))))))))))))⟩))))))))
    case h1 =>
      exact sc__law_number.nd
    case h2 =>
      first | decide | omega
    case h3 =>
      first | exact Bd.mono (Bd.of _) (by decide) | exact bd_s (by omega) (by decide)
    case h4 =>
      first | decide | omega
    case h5 =>
      first | exact Bd.mono (Bd.of _) (by decide) | exact bd_s (by omega) (by decide)
    case h6 =>
      first
        | exact ⟨_, rfl, hG _ _ _ _ nm_n1 (bd_s (by omega) (by decide)) (bd_s (by omega) (by decide)) (bd_s (by omega) (by decide)) (by assumption)⟩
        | exact ⟨_, rfl, hG _ _ _ _ nm1 hx1 hy1 hz1 (by assumption)⟩
        | exact ⟨_, rfl, hG _ _ _ _ nm2 hx2 hy2 hz2 (by assumption)⟩
    case h7 =>
      first | decide | omega
    case h8 =>
      first | exact Bd.mono (Bd.of _) (by decide) | exact bd_s (by omega) (by decide)
    case h9 =>
      first | decide | omega
    case h10 =>
      first | exact Bd.mono (Bd.of _) (by decide) | exact bd_s (by omega) (by decide)
    case h11 =>
      first | decide | omega
    case h12 =>
      first | exact Bd.mono (Bd.of _) (by decide) | exact bd_s (by omega) (by decide)
    case h13 =>
      refine ⟨by omega, bd_s (by omega) (by decide), bd_s (by omega) (by decide), bd_s (by omega) (by decide), by decide⟩
    case h14 =>
      first
        | exact ⟨_, rfl, hG _ _ _ _ nm_n1 (bd_s (by omega) (by decide)) (bd_s (by omega) (by decide)) (bd_s (by omega) (by decide)) (by assumption)⟩
        | exact ⟨_, rfl, hG _ _ _ _ nm1 hx1 hy1 hz1 (by assumption)⟩
        | exact ⟨_, rfl, hG _ _ _ _ nm2 hx2 hy2 hz2 (by assumption)⟩
    case h15 =>
      first | decide | omega
    case h16 =>
      first | exact Bd.mono (Bd.of _) (by decide) | exact bd_s (by omega) (by decide)
    case h17 =>
      first | decide | omega
    case h18 =>
      first | exact Bd.mono (Bd.of _) (by decide) | exact bd_s (by omega) (by decide)
    case h19 =>
      first | decide | omega
    case h20 =>
      first | exact Bd.mono (Bd.of _) (by decide) | exact bd_s (by omega) (by decide)
    case h21 =>
      refine ⟨by omega, bd_s (by omega) (by decide), bd_s (by omega) (by decide), bd_s (by omega) (by decide), by decide⟩
    case h22 =>
      first
        | exact ⟨_, rfl, hG _ _ _ _ nm_n1 (bd_s (by omega) (by decide)) (bd_s (by omega) (by decide)) (bd_s (by omega) (by decide)) (by assumption)⟩
        | exact ⟨_, rfl, hG _ _ _ _ nm1 hx1 hy1 hz1 (by assumption)⟩
        | exact ⟨_, rfl, hG _ _ _ _ nm2 hx2 hy2 hz2 (by assumption)⟩

end
end Y02

set_option Elab.async false
set_option linter.all false
set_option maxRecDepth 100000
set_option maxHeartbeats 8000000
namespace Y02
open PySem PySem.Spec PyProof.Rows L2 Evl Wz
local macro_rules | `(tactic| walk_at "bd") => `(tactic| (repeat (first | assumption | apply Bd.mul | apply Bd.add | apply Bd.sub | apply Bd.neg | exact Bd.z | exact Bd.of _)))
local macro_rules | `(tactic| walk_at "bm") => `(tactic| (first | assumption | exact Bd.mono (by walk_at "bd") (by decide)))
local macro_rules | `(tactic| walk_at "b2") => `(tactic| (repeat (first | assumption | apply And.intro | walk_at "bm" | decide | omega)))
section
variable {P : Program} {w : World} {K : PySem.W.Frag} {mg : Str → Option Value} {base : Heap}

/-! ### _law_near -/
abbrev s__law_near : Stmt := topS 36
theorem sc__law_near : FnScope ["deck", "field", "step", "found", "x", "y", "turn", "square"] ["deck", "field"] (defScope s__law_near) := ⟨rfl, rfl, rfl, by decide +kernel, rfl, by decide +kernel, by decide +kernel⟩
def F__law_near : FD := fun ds c Q => ∃ k, ds = [.int k] ∧ (Kd k ∧ Dk c) ∧ ∀ x y z c', Nm x y z → Bd 2126 x → Bd 2126 y → Bd 2126 z → Dk c' → Q (nD x y z) c'
theorem ok__law_near {f : Addr} {fd : FuncData} (Fn : Fun K "_law_near" "_law_near" s__law_near f fd) (c__law_number : Cl P w K mg base 3 "_law_number" ["deck"] (spD K F__law_number)) (c__law_take : Cl P w K mg base 1 "_law_take" ["deck", "many"] (spD K F__law_take)) (c__law_times : Cl P w K mg base 3 "_law_times" ["field", "u", "v"] (spP K F__law_times)) (c__law_num : Cl P w K mg base 2 "_law_num" ["x", "y", "m"] (spP K F__law_num)) (m_range : mg "range" = none) : FnOk P w K mg base CX0 4 f fd ["deck", "field"] (spD K F__law_near) := by
  refine fn_D Fn sc__law_near (fun ds c G h => ?_) (fun cdv A outer s H Q E pa ds c G hr hF hQ => ?_)
  · obtain ⟨k, rfl, ⟨hk, hdk⟩, hG⟩ := h
    rfl
  · obtain ⟨k, rfl, ⟨hk, hdk⟩, hG⟩ := hF
    rcases hk with rfl | rfl | rfl
    ·
      refine (as_asg (i := 2) ?h38 ?h1)
      case h1 =>
        refine (c_disp3 (d1 := nD (-1) 1 1) (d2 := nD 2 (-1) 1) (d3 := nD 1 (-1) 1) ?b0_hu ?b0_e1 ?b0_e2 ?b0_e3 ?b0_nn ?b0_b (hs := ?b0_hs))
        case b0_hu => exact hr.units
        case b0_e1 => exact fun _ hR => (c_tup (ca_cons (c_neg (c_int (ca_cons (c_int (ca_cons (c_int (ca_nil (And.intro (And.intro rfl (Nat.le_of_ble_eq_true rfl)) hR))))))))))
        case b0_e2 => exact fun _ hR => (c_tup (ca_cons (c_int (ca_cons (c_neg (c_int (ca_cons (c_int (ca_nil (And.intro (And.intro rfl (Nat.le_of_ble_eq_true rfl)) hR))))))))))
        case b0_e3 => exact fun _ hR => (c_tup (ca_cons (c_int (ca_cons (c_neg (c_int (ca_cons (c_int (ca_nil (And.intro (And.intro rfl (Nat.le_of_ble_eq_true rfl)) hR))))))))))
        case b0_nn => exact ⟨rfl, rfl, rfl⟩
        case b0_hs => exact fun _ _ => rfl
        refine (nm 1 rfl (And.intro (by decide) ?_))
        rw [show pick (nD (-1) 1 1) (nD 2 (-1) 1) (nD 1 (-1) 1) 2 = nD (-1) 1 1 from rfl]
        refine (as_par3 (i := 3) (j := 4) (l := 5) ?h2 rfl (ca_cons (c_ixL (c_ofN (n_disp (ca_cons (c_tup (ca_cons (c_int (ca_cons (c_int (ca_cons (c_int (ca_nil (And.intro (And.intro rfl (Nat.le_of_ble_eq_true rfl)) (ca_cons (c_tup (ca_cons (c_neg (c_int (ca_cons (c_int (ca_cons (c_int (ca_nil (And.intro (And.intro rfl (Nat.le_of_ble_eq_true rfl)) (ca_cons (c_callD c__law_number (hr.mono (by decide)) (ca_cons (nm 0 rfl (ca_nil (And.intro rfl ⟨rfl, (by assumption), fun p1 q1 r1 cn1 hnn1 hp1 hq1 hr1 hdn1 => And.intro rfl (ca_nil (And.intro (And.intro rfl (Nat.le_of_ble_eq_true rfl)) (c_callD c__law_take (hr.mono (by decide)) (ca_cons (nm 0 rfl (ca_cons (c_int (ca_nil (And.intro rfl ⟨_, rfl, ⟨?h3, ?h4, (by assumption)⟩, fun v1 c1 hv1 hw1 hd1 => And.intro rfl (at3t hv1 hw1 (by assumption) (by assumption) (by assumption) (by assumption) (fun fa fb fn hfn hfa hfb hfc => (ca_cons (c_int (ca_cons (c_int (ca_nil ⟨_, _, _, rfl, (as_forR1 (i := 6) ?h5 rfl PassesOwn.never m_range (ca_cons (c_callD c__law_take (hr.mono (by decide)) (ca_cons (nm 0 rfl (ca_cons (c_ixL (c_ofN (n_disp (ca_cons (c_int (ca_cons (c_int (ca_cons (c_int (ca_cons (c_int (ca_nil (And.intro (And.intro rfl (Nat.le_of_ble_eq_true rfl)) (c_callD c__law_take (hr.mono (by decide)) (ca_cons (nm 0 rfl (ca_cons (c_int (ca_nil (And.intro rfl ⟨_, rfl, ⟨?h6, ?h7, (by assumption)⟩, fun v2 c2 hv2 hw2 hd2 => And.intro rfl (at4n hv2 hw2 (fun n1 hn1a hn1b => (ca_nil (And.intro rfl ⟨_, rfl, ⟨?h8, ?h9, (by assumption)⟩, fun v3 c3 hv3 hw3 hd3 => And.intro rfl (ca_nil ⟨_, (fun j es q => ∃ (x y : Int) (t sq : Option Dat), es = [some (.cel 0), some (.int 2), some (nD (-1) 1 1), some (nD fa fb fn), some (.int x), some (.int y), t, sq] ∧ q = [c3] ∧ Bd (3 * j + 1) x ∧ Bd (3 * j + 1) y), (fun _ _ => False), rfl, ?h37, ⟨_, _, _, _, rfl, rfl, (by show Int.natAbs _ < 2 ^ _; decide), (by show Int.natAbs _ < 2 ^ _; decide)⟩, ⟨fun H10 e10 fr0 j d es q hj hd hw => ?h10, fun es q hw => ?h11, fun _ _ h => h.elim⟩⟩)⟩))))⟩))))))))))))))))))))))))))⟩)))))))⟩)))))))))⟩))))))))))))))))))))))))))))))))
        case h2 =>
          exact sc__law_near.nd
        case h3 =>
          first | decide | omega
        case h4 =>
          first | exact Bd.mono (Bd.of _) (by decide) | exact bd_s (by omega) (by decide)
        case h5 =>
          exact sc__law_near.nd
        case h6 =>
          first | decide | omega
        case h7 =>
          first | exact Bd.mono (Bd.of _) (by decide) | exact bd_s (by omega) (by decide)
        case h8 =>
          first | decide | omega
        case h9 =>
          first | exact Bd.mono (Bd.of _) (by decide) | exact bd_s (by omega) (by decide)
        case h10 =>
          obtain ⟨x, y, t, sq, rfl, rfl, hx, hy⟩ := hw
          cases hd
          have hj2 : j < 700 := by omega
          have hx2 : Bd 2200 x := hx.mono (by omega)
          have hy2 : Bd 2200 y := hy.mono (by omega)
          refine (as_asg (i := 7) ?h12 (c_mul (c_mul (nm 5 rfl (c_ixTn (nm 2 rfl (c_int (And.intro (by decide) (And.intro ?h13 (c_if (t_eqI (nm 1 rfl (c_int (And.intro (fun b1 => (c_int (And.intro ?h14 (as_par (i := 4) (j := 5) ?h15 rfl (ca_cons (c_add (c_mul (nm 4 rfl (c_ixTn (nm 2 rfl (c_int (And.intro (by decide) (And.intro ?h16 (nm 7 rfl (ca_cons (c_add (c_add (c_mul (nm 4 rfl (c_ixTn (nm 2 rfl (c_int (And.intro (by decide) (And.intro ?h17 (c_mul (nm 5 rfl (c_ixTn (nm 2 rfl (c_int (And.intro (by decide) (And.intro ?h18 (c_if (t_eqI (nm 1 rfl (c_int (And.intro (fun b2 => (c_mul (nm 5 rfl (c_ixTn (nm 2 rfl (c_int (And.intro (by decide) (And.intro ?h19 (ca_nil ⟨_, _, rfl, (as_end rfl ?h20)⟩))))))))) (fun b2 => (c_int (ca_nil ⟨_, _, rfl, (as_end rfl ?h21)⟩))))))))))))))))))))))))))))))))))))))) (fun b1 => (nm 1 rfl (And.intro ?h22 (as_par (i := 4) (j := 5) ?h23 rfl (ca_cons (c_add (c_mul (nm 4 rfl (c_ixTn (nm 2 rfl (c_int (And.intro (by decide) (And.intro ?h24 (nm 7 rfl (ca_cons (c_add (c_add (c_mul (nm 4 rfl (c_ixTn (nm 2 rfl (c_int (And.intro (by decide) (And.intro ?h25 (c_mul (nm 5 rfl (c_ixTn (nm 2 rfl (c_int (And.intro (by decide) (And.intro ?h26 (c_if (t_eqI (nm 1 rfl (c_int (And.intro (fun b3 => (c_mul (nm 5 rfl (c_ixTn (nm 2 rfl (c_int (And.intro (by decide) (And.intro ?h27 (ca_nil ⟨_, _, rfl, (as_end rfl ?h28)⟩))))))))) (fun b3 => (c_int (ca_nil ⟨_, _, rfl, (as_end rfl ?h29)⟩)))))))))))))))))))))))))))))))))))))))))))))))))))))
          case h12 =>
            exact sc__law_near.nd
          case h13 =>
            first | exact cm (by walk_at "bd") (by walk_at "bd") (by decide)
          case h14 =>
            first | exact cm (by walk_at "bd") (by walk_at "bd") (by decide)
          case h15 =>
            exact sc__law_near.nd
          case h16 =>
            first | exact cm (by walk_at "bd") (by walk_at "bd") (by decide)
          case h17 =>
            first | exact cm (by walk_at "bd") (by walk_at "bd") (by decide)
          case h18 =>
            first | exact cm (by walk_at "bd") (by walk_at "bd") (by decide)
          case h19 =>
            first | exact cm (by walk_at "bd") (by walk_at "bd") (by decide)
          case h20 =>
            first | exact ⟨_, _, _, _, rfl, rfl, grow hx hy (by omega), grow hx hy (by omega)⟩ | (exfalso; omega)
          case h21 =>
            first | exact ⟨_, _, _, _, rfl, rfl, grow hx hy (by omega), grow hx hy (by omega)⟩ | (exfalso; omega)
          case h22 =>
            first | exact cm (by walk_at "bd") (by walk_at "bd") (by decide)
          case h23 =>
            exact sc__law_near.nd
          case h24 =>
            first | exact cm (by walk_at "bd") (by walk_at "bd") (by decide)
          case h25 =>
            first | exact cm (by walk_at "bd") (by walk_at "bd") (by decide)
          case h26 =>
            first | exact cm (by walk_at "bd") (by walk_at "bd") (by decide)
          case h27 =>
            first | exact cm (by walk_at "bd") (by walk_at "bd") (by decide)
          case h28 =>
            first | exact ⟨_, _, _, _, rfl, rfl, grow hx hy (by omega), grow hx hy (by omega)⟩ | (exfalso; omega)
          case h29 =>
            first | exact ⟨_, _, _, _, rfl, rfl, grow hx hy (by omega), grow hx hy (by omega)⟩ | (exfalso; omega)
        case h11 =>
          obtain ⟨x, y, t, sq, rfl, rfl, hx, hy⟩ := hw
          have hx2 : Bd 2102 x := hx.mono (by omega)
          have hy2 : Bd 2102 y := hy.mono (by omega)
          refine (as_asg (i := 3) ?h30 (c_call c__law_times (hr.mono (by decide)) (ca_cons (nm 1 rfl (ca_cons (nm 3 rfl (ca_cons (c_tup (ca_cons (nm 4 rfl (ca_cons (nm 5 rfl (ca_cons (c_int (ca_nil (And.intro (And.intro rfl (Nat.le_of_ble_eq_true rfl)) (ca_nil ⟨_, _, _, _, _, _, _, 12, 2102, rfl, ?h31, fun x1 y1 z1 lo1 nm1 hx1 hy1 hz1 => And.intro rfl (as_ret hQ (c_call c__law_num (hr.mono (by decide)) (ca_cons (c_ixTn (nm 3 rfl (c_int (And.intro (by decide) (ca_cons (c_ixTn (nm 3 rfl (c_int (And.intro (by decide) (ca_cons (c_mul (c_ixTn (nm 3 rfl (c_int (And.intro (by decide) (c_add (c_int (c_callD c__law_take (hr.mono (by decide)) (ca_cons (nm 0 rfl (ca_cons (c_int (ca_nil (And.intro rfl ⟨_, rfl, ⟨?h32, ?h33, (by assumption)⟩, fun v4 c4 hv4 hw4 hd4 => And.intro rfl (And.intro ?h34 (ca_nil ⟨_, _, _, 2126, rfl, ?h35, fun x2 y2 z2 lo2 nm2 hx2 hy2 hz2 => And.intro rfl (And.intro rfl ?h36)⟩))⟩)))))))))))))))))))))))))))⟩)))))))))))))))))
          case h30 =>
            exact sc__law_near.nd
          case h31 =>
            exact ⟨by first | exact .inl rfl | exact .inr (.inl rfl) | exact .inr (.inr rfl), hfn.ne, by decide, by assumption, by assumption, by assumption, by assumption, by assumption, bd_s (by decide) (by decide), by decide⟩
          case h32 =>
            first | decide | omega
          case h33 =>
            first | exact Bd.mono (Bd.of _) (by decide) | exact bd_s (by omega) (by decide)
          case h34 =>
            exact cm (n := 2118) (m := 4) (hz1.mono (by decide)) (show Bd 4 _ by show Int.natAbs _ < 2 ^ 4; omega) (by decide)
          case h35 =>
            refine ⟨Int.mul_ne_zero nm1.ne (by omega), hx1.mono (by decide), hy1.mono (by decide), Bd.mono (Bd.mul hz1 (show Bd 4 _ by show Int.natAbs _ < 2 ^ 4; omega)) (by decide), by decide⟩
          case h36 =>
            exact ⟨_, rfl, hG _ _ _ _ nm2 hx2 hy2 hz2 (by assumption)⟩
        case h37 =>
          omega
      case h38 =>
        exact sc__law_near.nd
    ·
      refine (as_asg (i := 2) ?h1038 ?h1001)
      case h1001 =>
        refine (c_disp3 (d1 := nD (-1) 1 1) (d2 := nD 2 (-1) 1) (d3 := nD 1 (-1) 1) ?b1_hu ?b1_e1 ?b1_e2 ?b1_e3 ?b1_nn ?b1_b (hs := ?b1_hs))
        case b1_hu => exact hr.units
        case b1_e1 => exact fun _ hR => (c_tup (ca_cons (c_neg (c_int (ca_cons (c_int (ca_cons (c_int (ca_nil (And.intro (And.intro rfl (Nat.le_of_ble_eq_true rfl)) hR))))))))))
        case b1_e2 => exact fun _ hR => (c_tup (ca_cons (c_int (ca_cons (c_neg (c_int (ca_cons (c_int (ca_nil (And.intro (And.intro rfl (Nat.le_of_ble_eq_true rfl)) hR))))))))))
        case b1_e3 => exact fun _ hR => (c_tup (ca_cons (c_int (ca_cons (c_neg (c_int (ca_cons (c_int (ca_nil (And.intro (And.intro rfl (Nat.le_of_ble_eq_true rfl)) hR))))))))))
        case b1_nn => exact ⟨rfl, rfl, rfl⟩
        case b1_hs => exact fun _ _ => rfl
        refine (nm 1 rfl (And.intro (by decide) ?_))
        rw [show pick (nD (-1) 1 1) (nD 2 (-1) 1) (nD 1 (-1) 1) 3 = nD 2 (-1) 1 from rfl]
        refine (as_par3 (i := 3) (j := 4) (l := 5) ?h1002 rfl (ca_cons (c_ixL (c_ofN (n_disp (ca_cons (c_tup (ca_cons (c_int (ca_cons (c_int (ca_cons (c_int (ca_nil (And.intro (And.intro rfl (Nat.le_of_ble_eq_true rfl)) (ca_cons (c_tup (ca_cons (c_neg (c_int (ca_cons (c_int (ca_cons (c_int (ca_nil (And.intro (And.intro rfl (Nat.le_of_ble_eq_true rfl)) (ca_cons (c_callD c__law_number (hr.mono (by decide)) (ca_cons (nm 0 rfl (ca_nil (And.intro rfl ⟨rfl, (by assumption), fun p1 q1 r1 cn1 hnn1 hp1 hq1 hr1 hdn1 => And.intro rfl (ca_nil (And.intro (And.intro rfl (Nat.le_of_ble_eq_true rfl)) (c_callD c__law_take (hr.mono (by decide)) (ca_cons (nm 0 rfl (ca_cons (c_int (ca_nil (And.intro rfl ⟨_, rfl, ⟨?h1003, ?h1004, (by assumption)⟩, fun v1 c1 hv1 hw1 hd1 => And.intro rfl (at3t hv1 hw1 (by assumption) (by assumption) (by assumption) (by assumption) (fun fa fb fn hfn hfa hfb hfc => (ca_cons (c_int (ca_cons (c_int (ca_nil ⟨_, _, _, rfl, (as_forR1 (i := 6) ?h1005 rfl PassesOwn.never m_range (ca_cons (c_callD c__law_take (hr.mono (by decide)) (ca_cons (nm 0 rfl (ca_cons (c_ixL (c_ofN (n_disp (ca_cons (c_int (ca_cons (c_int (ca_cons (c_int (ca_cons (c_int (ca_nil (And.intro (And.intro rfl (Nat.le_of_ble_eq_true rfl)) (c_callD c__law_take (hr.mono (by decide)) (ca_cons (nm 0 rfl (ca_cons (c_int (ca_nil (And.intro rfl ⟨_, rfl, ⟨?h1006, ?h1007, (by assumption)⟩, fun v2 c2 hv2 hw2 hd2 => And.intro rfl (at4n hv2 hw2 (fun n1 hn1a hn1b => (ca_nil (And.intro rfl ⟨_, rfl, ⟨?h1008, ?h1009, (by assumption)⟩, fun v3 c3 hv3 hw3 hd3 => And.intro rfl (ca_nil ⟨_, (fun j es q => ∃ (x y : Int) (t sq : Option Dat), es = [some (.cel 0), some (.int 3), some (nD 2 (-1) 1), some (nD fa fb fn), some (.int x), some (.int y), t, sq] ∧ q = [c3] ∧ Bd (3 * j + 1) x ∧ Bd (3 * j + 1) y), (fun _ _ => False), rfl, ?h1037, ⟨_, _, _, _, rfl, rfl, (by show Int.natAbs _ < 2 ^ _; decide), (by show Int.natAbs _ < 2 ^ _; decide)⟩, ⟨fun H10 e10 fr0 j d es q hj hd hw => ?h1010, fun es q hw => ?h1011, fun _ _ h => h.elim⟩⟩)⟩))))⟩))))))))))))))))))))))))))⟩)))))))⟩)))))))))⟩))))))))))))))))))))))))))))))))
        case h1002 =>
          exact sc__law_near.nd
        case h1003 =>
          first | decide | omega
        case h1004 =>
          first | exact Bd.mono (Bd.of _) (by decide) | exact bd_s (by omega) (by decide)
        case h1005 =>
          exact sc__law_near.nd
        case h1006 =>
          first | decide | omega
        case h1007 =>
          first | exact Bd.mono (Bd.of _) (by decide) | exact bd_s (by omega) (by decide)
        case h1008 =>
          first | decide | omega
        case h1009 =>
          first | exact Bd.mono (Bd.of _) (by decide) | exact bd_s (by omega) (by decide)
        case h1010 =>
          obtain ⟨x, y, t, sq, rfl, rfl, hx, hy⟩ := hw
          cases hd
          have hj2 : j < 700 := by omega
          have hx2 : Bd 2200 x := hx.mono (by omega)
          have hy2 : Bd 2200 y := hy.mono (by omega)
          refine (as_asg (i := 7) ?h1012 (c_mul (c_mul (nm 5 rfl (c_ixTn (nm 2 rfl (c_int (And.intro (by decide) (And.intro ?h1013 (c_if (t_eqI (nm 1 rfl (c_int (And.intro (fun b1 => (c_int (And.intro ?h1014 (as_par (i := 4) (j := 5) ?h1015 rfl (ca_cons (c_add (c_mul (nm 4 rfl (c_ixTn (nm 2 rfl (c_int (And.intro (by decide) (And.intro ?h1016 (nm 7 rfl (ca_cons (c_add (c_add (c_mul (nm 4 rfl (c_ixTn (nm 2 rfl (c_int (And.intro (by decide) (And.intro ?h1017 (c_mul (nm 5 rfl (c_ixTn (nm 2 rfl (c_int (And.intro (by decide) (And.intro ?h1018 (c_if (t_eqI (nm 1 rfl (c_int (And.intro (fun b2 => (c_mul (nm 5 rfl (c_ixTn (nm 2 rfl (c_int (And.intro (by decide) (And.intro ?h1019 (ca_nil ⟨_, _, rfl, (as_end rfl ?h1020)⟩))))))))) (fun b2 => (c_int (ca_nil ⟨_, _, rfl, (as_end rfl ?h1021)⟩))))))))))))))))))))))))))))))))))))))) (fun b1 => (nm 1 rfl (And.intro ?h1022 (as_par (i := 4) (j := 5) ?h1023 rfl (ca_cons (c_add (c_mul (nm 4 rfl (c_ixTn (nm 2 rfl (c_int (And.intro (by decide) (And.intro ?h1024 (nm 7 rfl (ca_cons (c_add (c_add (c_mul (nm 4 rfl (c_ixTn (nm 2 rfl (c_int (And.intro (by decide) (And.intro ?h1025 (c_mul (nm 5 rfl (c_ixTn (nm 2 rfl (c_int (And.intro (by decide) (And.intro ?h1026 (c_if (t_eqI (nm 1 rfl (c_int (And.intro (fun b3 => (c_mul (nm 5 rfl (c_ixTn (nm 2 rfl (c_int (And.intro (by decide) (And.intro ?h1027 (ca_nil ⟨_, _, rfl, (as_end rfl ?h1028)⟩))))))))) (fun b3 => (c_int (ca_nil ⟨_, _, rfl, (as_end rfl ?h1029)⟩)))))))))))))))))))))))))))))))))))))))))))))))))))))
          case h1012 =>
            exact sc__law_near.nd
          case h1013 =>
            first | exact cm (by walk_at "bd") (by walk_at "bd") (by decide)
          case h1014 =>
            first | exact cm (by walk_at "bd") (by walk_at "bd") (by decide)
          case h1015 =>
            exact sc__law_near.nd
          case h1016 =>
            first | exact cm (by walk_at "bd") (by walk_at "bd") (by decide)
          case h1017 =>
            first | exact cm (by walk_at "bd") (by walk_at "bd") (by decide)
          case h1018 =>
            first | exact cm (by walk_at "bd") (by walk_at "bd") (by decide)
          case h1019 =>
            first | exact cm (by walk_at "bd") (by walk_at "bd") (by decide)
          case h1020 =>
            first | exact ⟨_, _, _, _, rfl, rfl, grow hx hy (by omega), grow hx hy (by omega)⟩ | (exfalso; omega)
          case h1021 =>
            first | exact ⟨_, _, _, _, rfl, rfl, grow hx hy (by omega), grow hx hy (by omega)⟩ | (exfalso; omega)
          case h1022 =>
            first | exact cm (by walk_at "bd") (by walk_at "bd") (by decide)
          case h1023 =>
            exact sc__law_near.nd
          case h1024 =>
            first | exact cm (by walk_at "bd") (by walk_at "bd") (by decide)
          case h1025 =>
            first | exact cm (by walk_at "bd") (by walk_at "bd") (by decide)
          case h1026 =>
            first | exact cm (by walk_at "bd") (by walk_at "bd") (by decide)
          case h1027 =>
            first | exact cm (by walk_at "bd") (by walk_at "bd") (by decide)
          case h1028 =>
            first | exact ⟨_, _, _, _, rfl, rfl, grow hx hy (by omega), grow hx hy (by omega)⟩ | (exfalso; omega)
          case h1029 =>
            first | exact ⟨_, _, _, _, rfl, rfl, grow hx hy (by omega), grow hx hy (by omega)⟩ | (exfalso; omega)
        case h1011 =>
          obtain ⟨x, y, t, sq, rfl, rfl, hx, hy⟩ := hw
          have hx2 : Bd 2102 x := hx.mono (by omega)
          have hy2 : Bd 2102 y := hy.mono (by omega)
          refine (as_asg (i := 3) ?h1030 (c_call c__law_times (hr.mono (by decide)) (ca_cons (nm 1 rfl (ca_cons (nm 3 rfl (ca_cons (c_tup (ca_cons (nm 4 rfl (ca_cons (nm 5 rfl (ca_cons (c_int (ca_nil (And.intro (And.intro rfl (Nat.le_of_ble_eq_true rfl)) (ca_nil ⟨_, _, _, _, _, _, _, 12, 2102, rfl, ?h1031, fun x1 y1 z1 lo1 nm1 hx1 hy1 hz1 => And.intro rfl (as_ret hQ (c_call c__law_num (hr.mono (by decide)) (ca_cons (c_ixTn (nm 3 rfl (c_int (And.intro (by decide) (ca_cons (c_ixTn (nm 3 rfl (c_int (And.intro (by decide) (ca_cons (c_mul (c_ixTn (nm 3 rfl (c_int (And.intro (by decide) (c_add (c_int (c_callD c__law_take (hr.mono (by decide)) (ca_cons (nm 0 rfl (ca_cons (c_int (ca_nil (And.intro rfl ⟨_, rfl, ⟨?h1032, ?h1033, (by assumption)⟩, fun v4 c4 hv4 hw4 hd4 => And.intro rfl (And.intro ?h1034 (ca_nil ⟨_, _, _, 2126, rfl, ?h1035, fun x2 y2 z2 lo2 nm2 hx2 hy2 hz2 => And.intro rfl (And.intro rfl ?h1036)⟩))⟩)))))))))))))))))))))))))))⟩)))))))))))))))))
          case h1030 =>
            exact sc__law_near.nd
          case h1031 =>
            exact ⟨by first | exact .inl rfl | exact .inr (.inl rfl) | exact .inr (.inr rfl), hfn.ne, by decide, by assumption, by assumption, by assumption, by assumption, by assumption, bd_s (by decide) (by decide), by decide⟩
          case h1032 =>
            first | decide | omega
          case h1033 =>
            first | exact Bd.mono (Bd.of _) (by decide) | exact bd_s (by omega) (by decide)
          case h1034 =>
            exact cm (n := 2118) (m := 4) (hz1.mono (by decide)) (show Bd 4 _ by show Int.natAbs _ < 2 ^ 4; omega) (by decide)
          case h1035 =>
            refine ⟨Int.mul_ne_zero nm1.ne (by omega), hx1.mono (by decide), hy1.mono (by decide), Bd.mono (Bd.mul hz1 (show Bd 4 _ by show Int.natAbs _ < 2 ^ 4; omega)) (by decide), by decide⟩
          case h1036 =>
            exact ⟨_, rfl, hG _ _ _ _ nm2 hx2 hy2 hz2 (by assumption)⟩
        case h1037 =>
          omega
      case h1038 =>
        exact sc__law_near.nd
    ·
      refine (as_asg (i := 2) ?h2038 ?h2001)
      case h2001 =>
        refine (c_disp3 (d1 := nD (-1) 1 1) (d2 := nD 2 (-1) 1) (d3 := nD 1 (-1) 1) ?b2_hu ?b2_e1 ?b2_e2 ?b2_e3 ?b2_nn ?b2_b (hs := ?b2_hs))
        case b2_hu => exact hr.units
        case b2_e1 => exact fun _ hR => (c_tup (ca_cons (c_neg (c_int (ca_cons (c_int (ca_cons (c_int (ca_nil (And.intro (And.intro rfl (Nat.le_of_ble_eq_true rfl)) hR))))))))))
        case b2_e2 => exact fun _ hR => (c_tup (ca_cons (c_int (ca_cons (c_neg (c_int (ca_cons (c_int (ca_nil (And.intro (And.intro rfl (Nat.le_of_ble_eq_true rfl)) hR))))))))))
        case b2_e3 => exact fun _ hR => (c_tup (ca_cons (c_int (ca_cons (c_neg (c_int (ca_cons (c_int (ca_nil (And.intro (And.intro rfl (Nat.le_of_ble_eq_true rfl)) hR))))))))))
        case b2_nn => exact ⟨rfl, rfl, rfl⟩
        case b2_hs => exact fun _ _ => rfl
        refine (nm 1 rfl (And.intro (by decide) ?_))
        rw [show pick (nD (-1) 1 1) (nD 2 (-1) 1) (nD 1 (-1) 1) 5 = nD 1 (-1) 1 from rfl]
        refine (as_par3 (i := 3) (j := 4) (l := 5) ?h2002 rfl (ca_cons (c_ixL (c_ofN (n_disp (ca_cons (c_tup (ca_cons (c_int (ca_cons (c_int (ca_cons (c_int (ca_nil (And.intro (And.intro rfl (Nat.le_of_ble_eq_true rfl)) (ca_cons (c_tup (ca_cons (c_neg (c_int (ca_cons (c_int (ca_cons (c_int (ca_nil (And.intro (And.intro rfl (Nat.le_of_ble_eq_true rfl)) (ca_cons (c_callD c__law_number (hr.mono (by decide)) (ca_cons (nm 0 rfl (ca_nil (And.intro rfl ⟨rfl, (by assumption), fun p1 q1 r1 cn1 hnn1 hp1 hq1 hr1 hdn1 => And.intro rfl (ca_nil (And.intro (And.intro rfl (Nat.le_of_ble_eq_true rfl)) (c_callD c__law_take (hr.mono (by decide)) (ca_cons (nm 0 rfl (ca_cons (c_int (ca_nil (And.intro rfl ⟨_, rfl, ⟨?h2003, ?h2004, (by assumption)⟩, fun v1 c1 hv1 hw1 hd1 => And.intro rfl (at3t hv1 hw1 (by assumption) (by assumption) (by assumption) (by assumption) (fun fa fb fn hfn hfa hfb hfc => (ca_cons (c_int (ca_cons (c_int (ca_nil ⟨_, _, _, rfl, (as_forR1 (i := 6) ?h2005 rfl PassesOwn.never m_range (ca_cons (c_callD c__law_take (hr.mono (by decide)) (ca_cons (nm 0 rfl (ca_cons (c_ixL (c_ofN (n_disp (ca_cons (c_int (ca_cons (c_int (ca_cons (c_int (ca_cons (c_int (ca_nil (And.intro (And.intro rfl (Nat.le_of_ble_eq_true rfl)) (c_callD c__law_take (hr.mono (by decide)) (ca_cons (nm 0 rfl (ca_cons (c_int (ca_nil (And.intro rfl ⟨_, rfl, ⟨?h2006, ?h2007, (by assumption)⟩, fun v2 c2 hv2 hw2 hd2 => And.intro rfl (at4n hv2 hw2 (fun n1 hn1a hn1b => (ca_nil (And.intro rfl ⟨_, rfl, ⟨?h2008, ?h2009, (by assumption)⟩, fun v3 c3 hv3 hw3 hd3 => And.intro rfl (ca_nil ⟨_, (fun j es q => ∃ (x y : Int) (t sq : Option Dat), es = [some (.cel 0), some (.int 5), some (nD 1 (-1) 1), some (nD fa fb fn), some (.int x), some (.int y), t, sq] ∧ q = [c3] ∧ Bd (3 * j + 1) x ∧ Bd (3 * j + 1) y), (fun _ _ => False), rfl, ?h2037, ⟨_, _, _, _, rfl, rfl, (by show Int.natAbs _ < 2 ^ _; decide), (by show Int.natAbs _ < 2 ^ _; decide)⟩, ⟨fun H10 e10 fr0 j d es q hj hd hw => ?h2010, fun es q hw => ?h2011, fun _ _ h => h.elim⟩⟩)⟩))))⟩))))))))))))))))))))))))))⟩)))))))⟩)))))))))⟩))))))))))))))))))))))))))))))))
        case h2002 =>
          exact sc__law_near.nd
        case h2003 =>
          first | decide | omega
        case h2004 =>
          first | exact Bd.mono (Bd.of _) (by decide) | exact bd_s (by omega) (by decide)
        case h2005 =>
          exact sc__law_near.nd
        case h2006 =>
          first | decide | omega
        case h2007 =>
          first | exact Bd.mono (Bd.of _) (by decide) | exact bd_s (by omega) (by decide)
        case h2008 =>
          first | decide | omega
        case h2009 =>
          first | exact Bd.mono (Bd.of _) (by decide) | exact bd_s (by omega) (by decide)
        case h2010 =>
          obtain ⟨x, y, t, sq, rfl, rfl, hx, hy⟩ := hw
          cases hd
          have hj2 : j < 700 := by omega
          have hx2 : Bd 2200 x := hx.mono (by omega)
          have hy2 : Bd 2200 y := hy.mono (by omega)
          refine (as_asg (i := 7) ?h2012 (c_mul (c_mul (nm 5 rfl (c_ixTn (nm 2 rfl (c_int (And.intro (by decide) (And.intro ?h2013 (c_if (t_eqI (nm 1 rfl (c_int (And.intro (fun b1 => (c_int (And.intro ?h2014 (as_par (i := 4) (j := 5) ?h2015 rfl (ca_cons (c_add (c_mul (nm 4 rfl (c_ixTn (nm 2 rfl (c_int (And.intro (by decide) (And.intro ?h2016 (nm 7 rfl (ca_cons (c_add (c_add (c_mul (nm 4 rfl (c_ixTn (nm 2 rfl (c_int (And.intro (by decide) (And.intro ?h2017 (c_mul (nm 5 rfl (c_ixTn (nm 2 rfl (c_int (And.intro (by decide) (And.intro ?h2018 (c_if (t_eqI (nm 1 rfl (c_int (And.intro (fun b2 => (c_mul (nm 5 rfl (c_ixTn (nm 2 rfl (c_int (And.intro (by decide) (And.intro ?h2019 (ca_nil ⟨_, _, rfl, (as_end rfl ?h2020)⟩))))))))) (fun b2 => (c_int (ca_nil ⟨_, _, rfl, (as_end rfl ?h2021)⟩))))))))))))))))))))))))))))))))))))))) (fun b1 => (nm 1 rfl (And.intro ?h2022 (as_par (i := 4) (j := 5) ?h2023 rfl (ca_cons (c_add (c_mul (nm 4 rfl (c_ixTn (nm 2 rfl (c_int (And.intro (by decide) (And.intro ?h2024 (nm 7 rfl (ca_cons (c_add (c_add (c_mul (nm 4 rfl (c_ixTn (nm 2 rfl (c_int (And.intro (by decide) (And.intro ?h2025 (c_mul (nm 5 rfl (c_ixTn (nm 2 rfl (c_int (And.intro (by decide) (And.intro ?h2026 (c_if (t_eqI (nm 1 rfl (c_int (And.intro (fun b3 => (c_mul (nm 5 rfl (c_ixTn (nm 2 rfl (c_int (And.intro (by decide) (And.intro ?h2027 (ca_nil ⟨_, _, rfl, (as_end rfl ?h2028)⟩))))))))) (fun b3 => (c_int (ca_nil ⟨_, _, rfl, (as_end rfl ?h2029)⟩)))))))))))))))))))))))))))))))))))))))))))))))))))))
          case h2012 =>
            exact sc__law_near.nd
          case h2013 =>
            first | exact cm (by walk_at "bd") (by walk_at "bd") (by decide)
          case h2014 =>
            first | exact cm (by walk_at "bd") (by walk_at "bd") (by decide)
          case h2015 =>
            exact sc__law_near.nd
          case h2016 =>
            first | exact cm (by walk_at "bd") (by walk_at "bd") (by decide)
          case h2017 =>
            first | exact cm (by walk_at "bd") (by walk_at "bd") (by decide)
          case h2018 =>
            first | exact cm (by walk_at "bd") (by walk_at "bd") (by decide)
          case h2019 =>
            first | exact cm (by walk_at "bd") (by walk_at "bd") (by decide)
          case h2020 =>
            first | exact ⟨_, _, _, _, rfl, rfl, grow hx hy (by omega), grow hx hy (by omega)⟩ | (exfalso; omega)
          case h2021 =>
            first | exact ⟨_, _, _, _, rfl, rfl, grow hx hy (by omega), grow hx hy (by omega)⟩ | (exfalso; omega)
          case h2022 =>
            first | exact cm (by walk_at "bd") (by walk_at "bd") (by decide)
          case h2023 =>
            exact sc__law_near.nd
          case h2024 =>
            first | exact cm (by walk_at "bd") (by walk_at "bd") (by decide)
          case h2025 =>
            first | exact cm (by walk_at "bd") (by walk_at "bd") (by decide)
          case h2026 =>
            first | exact cm (by walk_at "bd") (by walk_at "bd") (by decide)
          case h2027 =>
            first | exact cm (by walk_at "bd") (by walk_at "bd") (by decide)
          case h2028 =>
            first | exact ⟨_, _, _, _, rfl, rfl, grow hx hy (by omega), grow hx hy (by omega)⟩ | (exfalso; omega)
          case h2029 =>
            first | exact ⟨_, _, _, _, rfl, rfl, grow hx hy (by omega), grow hx hy (by omega)⟩ | (exfalso; omega)
        case h2011 =>
          obtain ⟨x, y, t, sq, rfl, rfl, hx, hy⟩ := hw
          have hx2 : Bd 2102 x := hx.mono (by omega)
          have hy2 : Bd 2102 y := hy.mono (by omega)
          refine (as_asg (i := 3) ?h2030 (c_call c__law_times (hr.mono (by decide)) (ca_cons (nm 1 rfl (ca_cons (nm 3 rfl (ca_cons (c_tup (ca_cons (nm 4 rfl (ca_cons (nm 5 rfl (ca_cons (c_int (ca_nil (And.intro (And.intro rfl (Nat.le_of_ble_eq_true rfl)) (ca_nil ⟨_, _, _, _, _, _, _, 12, 2102, rfl, ?h2031, fun x1 y1 z1 lo1 nm1 hx1 hy1 hz1 => And.intro rfl (as_ret hQ (c_call c__law_num (hr.mono (by decide)) (ca_cons (c_ixTn (nm 3 rfl (c_int (And.intro (by decide) (ca_cons (c_ixTn (nm 3 rfl (c_int (And.intro (by decide) (ca_cons (c_mul (c_ixTn (nm 3 rfl (c_int (And.intro (by decide) (c_add (c_int (c_callD c__law_take (hr.mono (by decide)) (ca_cons (nm 0 rfl (ca_cons (c_int (ca_nil (And.intro rfl ⟨_, rfl, ⟨?h2032, ?h2033, (by assumption)⟩, fun v4 c4 hv4 hw4 hd4 => And.intro rfl (And.intro ?h2034 (ca_nil ⟨_, _, _, 2126, rfl, ?h2035, fun x2 y2 z2 lo2 nm2 hx2 hy2 hz2 => And.intro rfl (And.intro rfl ?h2036)⟩))⟩)))))))))))))))))))))))))))⟩)))))))))))))))))
          case h2030 =>
            exact sc__law_near.nd
          case h2031 =>
            exact ⟨by first | exact .inl rfl | exact .inr (.inl rfl) | exact .inr (.inr rfl), hfn.ne, by decide, by assumption, by assumption, by assumption, by assumption, by assumption, bd_s (by decide) (by decide), by decide⟩
          case h2032 =>
            first | decide | omega
          case h2033 =>
            first | exact Bd.mono (Bd.of _) (by decide) | exact bd_s (by omega) (by decide)
          case h2034 =>
            exact cm (n := 2118) (m := 4) (hz1.mono (by decide)) (show Bd 4 _ by show Int.natAbs _ < 2 ^ 4; omega) (by decide)
          case h2035 =>
            refine ⟨Int.mul_ne_zero nm1.ne (by omega), hx1.mono (by decide), hy1.mono (by decide), Bd.mono (Bd.mul hz1 (show Bd 4 _ by show Int.natAbs _ < 2 ^ 4; omega)) (by decide), by decide⟩
          case h2036 =>
            exact ⟨_, rfl, hG _ _ _ _ nm2 hx2 hy2 hz2 (by assumption)⟩
        case h2037 =>
          omega
      case h2038 =>
        exact sc__law_near.nd

end
end Y02

set_option Elab.async false
set_option linter.all false
set_option maxRecDepth 100000
set_option maxHeartbeats 8000000
namespace Y02
open PySem PySem.Spec PyProof.Rows L2 Evl Wz
local macro_rules | `(tactic| walk_at "bd") => `(tactic| (repeat (first | assumption | apply Bd.mul | apply Bd.add | apply Bd.sub | apply Bd.neg | exact Bd.z | exact Bd.of _)))
local macro_rules | `(tactic| walk_at "bm") => `(tactic| (first | assumption | exact Bd.mono (by walk_at "bd") (by decide)))
local macro_rules | `(tactic| walk_at "b2") => `(tactic| (repeat (first | assumption | apply And.intro | walk_at "bm" | decide | omega)))
theorem ten9 {v : Int} (h0 : 0 ≤ v) (h1 : v < 10 ^ (9 : Int).toNat) : Bd 30 v := by
  have e : (10 : Int) ^ (9 : Int).toNat = 1000000000 := by decide
  rw [e] at h1
  have e2 : (2 : Nat) ^ 30 = 1073741824 := by decide
  show v.natAbs < 2 ^ 30
  omega
section
variable {P : Program} {w : World} {K : PySem.W.Frag} {mg : Str → Option Value} {base : Heap}

/-! ### _law_drawn -/
abbrev s__law_drawn : Stmt := topS 37
theorem sc__law_drawn : FnScope ["deck", "field", "way", "base", "near", "far"] ["deck", "field"] (defScope s__law_drawn) := ⟨rfl, rfl, rfl, by decide +kernel, rfl, by decide +kernel, by decide +kernel⟩
def F__law_drawn : FD := fun ds c Q => ∃ k, ds = [.int k] ∧ (Kd k ∧ Dk c) ∧ ∀ x y z c', Nm x y z → Bd 2230 x → Bd 2230 y → Bd 2230 z → Dk c' → Q (nD x y z) c'
theorem ok__law_drawn {f : Addr} {fd : FuncData} (Fn : Fun K "_law_drawn" "_law_drawn" s__law_drawn f fd) (c__law_take : Cl P w K mg base 1 "_law_take" ["deck", "many"] (spD K F__law_take)) (c__law_number : Cl P w K mg base 3 "_law_number" ["deck"] (spD K F__law_number)) (c__law_num : Cl P w K mg base 2 "_law_num" ["x", "y", "m"] (spP K F__law_num)) (c__law_near : Cl P w K mg base 4 "_law_near" ["deck", "field"] (spD K F__law_near)) (c__law_plus : Cl P w K mg base 3 "_law_plus" ["u", "v"] (spP K F__law_plus)) : FnOk P w K mg base CX0 5 f fd ["deck", "field"] (spD K F__law_drawn) := by
  refine fn_D Fn sc__law_drawn (fun ds c G h => ?_) (fun cdv A outer s H Q E pa ds c G hr hF hQ => ?_)
  · obtain ⟨k, rfl, ⟨hk, hdk⟩, hG⟩ := h
    rfl
  · obtain ⟨k, rfl, ⟨hk, hdk⟩, hG⟩ := hF
    refine (as_par (i := 2) (j := 3) ?h1 rfl (ca_cons (c_callD c__law_take (hr.mono (by decide)) (ca_cons (nm 0 rfl (ca_cons (c_int (ca_nil (And.intro rfl ⟨_, rfl, ⟨?h2, ?h3, (by assumption)⟩, fun v1 c1 hv1 hw1 hd1 => And.intro rfl (ca_cons (c_callD c__law_number (hr.mono (by decide)) (ca_cons (nm 0 rfl (ca_nil (And.intro rfl ⟨rfl, (by assumption), fun p1 q1 r1 cn1 hnn1 hp1 hq1 hr1 hdn1 => And.intro rfl (ca_nil ⟨_, _, rfl, (as_ifn (t_lt (nm 2 rfl (c_int (And.intro (fun b1 => (as_ret hQ (nm 3 rfl (And.intro rfl ?h4)))) (fun b1 => (as_ifn (t_eqI (nm 2 rfl (c_int (And.intro (fun b2 => (as_ret hQ (c_call c__law_num (hr.mono (by decide)) (ca_cons (c_add (c_mul (c_ixTn (nm 3 rfl (c_int (And.intro (by decide) (c_powW (c_int (c_int (And.intro ?h5 (And.intro ?h6 (c_callD c__law_take (hr.mono (by decide)) (ca_cons (nm 0 rfl (ca_cons (c_powW (c_int (c_int (And.intro ?h7 (ca_nil (And.intro rfl ⟨_, rfl, ⟨?h8, ?h9, (by assumption)⟩, fun v2 c2 hv2 hw2 hd2 => And.intro rfl (ca_cons (c_sub (c_mul (c_ixTn (nm 3 rfl (c_int (And.intro (by decide) (c_powW (c_int (c_int (And.intro ?h10 (And.intro ?h11 (c_callD c__law_take (hr.mono (by decide)) (ca_cons (nm 0 rfl (ca_cons (c_powW (c_int (c_int (And.intro ?h12 (ca_nil (And.intro rfl ⟨_, rfl, ⟨?h13, ?h14, (by assumption)⟩, fun v3 c3 hv3 hw3 hd3 => And.intro rfl (ca_cons (c_ixTn (nm 3 rfl (c_int (And.intro (by decide) (ca_nil ⟨_, _, _, 120, rfl, ?h15, fun x1 y1 z1 lo1 nm1 hx1 hy1 hz1 => And.intro rfl (And.intro rfl ?h16)⟩))))))⟩))))))))))))))))))))))⟩))))))))))))))))))))))))) (fun b2 => (as_asg (i := 4) ?h17 (c_callD c__law_near (hr.mono (by decide)) (ca_cons (nm 0 rfl (ca_cons (nm 1 rfl (ca_nil (And.intro rfl ⟨_, rfl, ⟨?h18, (by assumption)⟩, fun na1 nb1 nn1 cx1 hnx1 hna1 hnb1 hnc1 hdx1 => And.intro rfl (as_asg (i := 5) ?h19 (c_ixL (c_ofN (n_disp (ca_cons (c_int (ca_cons (c_powW (c_int (c_int (And.intro ?h20 (ca_cons (c_powW (c_int (c_int (And.intro ?h21 (ca_nil (And.intro (And.intro rfl (Nat.le_of_ble_eq_true rfl)) (c_callD c__law_take (hr.mono (by decide)) (ca_cons (nm 0 rfl (ca_cons (c_int (ca_nil (And.intro rfl ⟨_, rfl, ⟨?h22, ?h23, (by assumption)⟩, fun v4 c4 hv4 hw4 hd4 => And.intro rfl (at3f hv4 hw4 (fun far hfa hfb => (as_ret hQ (c_if (t_eqI (nm 2 rfl (c_int (And.intro (fun b3 => (nm 4 rfl (And.intro rfl ?h24))) (fun b3 => (c_call c__law_plus (hr.mono (by decide)) (ca_cons (nm 4 rfl (ca_cons (c_tup (ca_cons (c_sub (c_callD c__law_take (hr.mono (by decide)) (ca_cons (nm 0 rfl (ca_cons (c_add (c_mulS (c_int (nm 5 rfl (And.intro (.inl (And.intro (by decide) (by decide))) (c_int (ca_nil (And.intro rfl ⟨_, rfl, ⟨?h25, ?h26, (by assumption)⟩, fun v5 c5 hv5 hw5 hd5 => And.intro rfl (nm 5 rfl (ca_cons (c_int (ca_cons (c_int (ca_nil (And.intro (And.intro rfl (Nat.le_of_ble_eq_true rfl)) (ca_nil ⟨_, _, _, _, _, _, 2126, 102, rfl, ?h27, fun x2 y2 z2 lo2 nm2 hx2 hy2 hz2 => And.intro rfl (And.intro rfl ?h28)⟩))))))))⟩))))))))))))))))))))))))))))⟩)))))))))))))))))))))))))⟩))))))))))))))))))))⟩)⟩))))))⟩)))))))))
    case h1 =>
      exact sc__law_drawn.nd
    case h2 =>
      first | decide | omega
    case h3 =>
      first | exact Bd.mono (Bd.of _) (by decide) | walk_at "bm"
    case h4 =>
      first
        | exact ⟨_, rfl, hG _ _ _ _ hnn1 (hp1.mono (by decide)) (hq1.mono (by decide)) (hr1.mono (by decide)) (by assumption)⟩
        | exact ⟨_, rfl, hG _ _ _ _ hnx1 (hna1.mono (by decide)) (hnb1.mono (by decide)) (hnc1.mono (by decide)) (by assumption)⟩
        | exact ⟨_, rfl, hG _ _ _ _ nm1 (hx1.mono (by decide)) (hy1.mono (by decide)) (hz1.mono (by decide)) (by assumption)⟩
        | exact ⟨_, rfl, hG _ _ _ _ nm2 (hx2.mono (by decide)) (hy2.mono (by decide)) (hz2.mono (by decide)) (by assumption)⟩
    case h5 =>
      exact cpw (by first | omega | decide) (by walk_at "bd") (by decide)
    case h6 =>
      first | exact cm hp1 (Bd.of _) (by decide) | exact cm hq1 (Bd.of _) (by decide)
    case h7 =>
      exact cpw (by first | omega | decide) (by walk_at "bd") (by decide)
    case h8 =>
      first | decide | omega
    case h9 =>
      first | exact Bd.mono (Bd.of _) (by decide) | walk_at "bm"
    case h10 =>
      exact cpw (by first | omega | decide) (by walk_at "bd") (by decide)
    case h11 =>
      first | exact cm hp1 (Bd.of _) (by decide) | exact cm hq1 (Bd.of _) (by decide)
    case h12 =>
      exact cpw (by first | omega | decide) (by walk_at "bd") (by decide)
    case h13 =>
      first | decide | omega
    case h14 =>
      first | exact Bd.mono (Bd.of _) (by decide) | walk_at "bm"
    case h15 =>
      refine ⟨hnn1.ne, ?_, ?_, hr1.mono (by decide), by decide⟩ <;> first | exact ((hp1.mul (Bd.of _)).add (ten9 (by assumption) (by assumption))).mono (by decide) | exact ((hq1.mul (Bd.of _)).sub (ten9 (by assumption) (by assumption))).mono (by decide)
    case h16 =>
      first
        | exact ⟨_, rfl, hG _ _ _ _ hnn1 (hp1.mono (by decide)) (hq1.mono (by decide)) (hr1.mono (by decide)) (by assumption)⟩
        | exact ⟨_, rfl, hG _ _ _ _ hnx1 (hna1.mono (by decide)) (hnb1.mono (by decide)) (hnc1.mono (by decide)) (by assumption)⟩
        | exact ⟨_, rfl, hG _ _ _ _ nm1 (hx1.mono (by decide)) (hy1.mono (by decide)) (hz1.mono (by decide)) (by assumption)⟩
        | exact ⟨_, rfl, hG _ _ _ _ nm2 (hx2.mono (by decide)) (hy2.mono (by decide)) (hz2.mono (by decide)) (by assumption)⟩
    case h17 =>
      exact sc__law_drawn.nd
    case h18 =>
      assumption
    case h19 =>
      exact sc__law_drawn.nd
    case h20 =>
      exact cpw (by first | omega | decide) (by walk_at "bd") (by decide)
    case h21 =>
      exact cpw (by first | omega | decide) (by walk_at "bd") (by decide)
    case h22 =>
      first | decide | omega
    case h23 =>
      first | exact Bd.mono (Bd.of _) (by decide) | walk_at "bm"
    case h24 =>
      first
        | exact ⟨_, rfl, hG _ _ _ _ hnn1 (hp1.mono (by decide)) (hq1.mono (by decide)) (hr1.mono (by decide)) (by assumption)⟩
        | exact ⟨_, rfl, hG _ _ _ _ hnx1 (hna1.mono (by decide)) (hnb1.mono (by decide)) (hnc1.mono (by decide)) (by assumption)⟩
        | exact ⟨_, rfl, hG _ _ _ _ nm1 (hx1.mono (by decide)) (hy1.mono (by decide)) (hz1.mono (by decide)) (by assumption)⟩
        | exact ⟨_, rfl, hG _ _ _ _ nm2 (hx2.mono (by decide)) (hy2.mono (by decide)) (hz2.mono (by decide)) (by assumption)⟩
    case h25 =>
      first | decide | omega
    case h26 =>
      first | exact Bd.mono (Bd.of _) (by decide) | walk_at "bm"
    case h27 =>
      exact ⟨hnx1.ne, by decide, hna1, hnb1, hnc1, (vf_bd (by assumption) (by assumption) hfb hfa).mono (by decide), bd_s (by decide) (by decide), bd_s (by decide) (by decide), by decide⟩
    case h28 =>
      first
        | exact ⟨_, rfl, hG _ _ _ _ hnn1 (hp1.mono (by decide)) (hq1.mono (by decide)) (hr1.mono (by decide)) (by assumption)⟩
        | exact ⟨_, rfl, hG _ _ _ _ hnx1 (hna1.mono (by decide)) (hnb1.mono (by decide)) (hnc1.mono (by decide)) (by assumption)⟩
        | exact ⟨_, rfl, hG _ _ _ _ nm1 (hx1.mono (by decide)) (hy1.mono (by decide)) (hz1.mono (by decide)) (by assumption)⟩
        | exact ⟨_, rfl, hG _ _ _ _ nm2 (hx2.mono (by decide)) (hy2.mono (by decide)) (hz2.mono (by decide)) (by assumption)⟩

/-! ### _law_is_floor -/
abbrev s__law_is_floor : Stmt := topS 38
theorem sc__law_is_floor : FnScope ["field", "u", "whole"] ["field", "u", "whole"] (defScope s__law_is_floor) := ⟨rfl, rfl, rfl, by decide +kernel, rfl, by decide +kernel, by decide +kernel⟩
def F__law_is_floor : FP := fun ds Q => ∃ k a b n w, ds = [.int k, nD a b n, .int w] ∧ (Kd k ∧ 0 < n ∧ Bd 3000 a ∧ Bd 3000 b ∧ Bd 3000 n ∧ Bd 5000 w ∧ 0 ≤ lsD k (a - w * n) b ∧ lsD k (a - (w + 1) * n) b < 0) ∧ Q (.bl true)
theorem ok__law_is_floor {f : Addr} {fd : FuncData} (Fn : Fun K "_law_is_floor" "_law_is_floor" s__law_is_floor f fd) (c__law_sign : Cl P w K mg base 1 "_law_sign" ["field", "u"] (spP K F__law_sign)) (c__law_minus : Cl P w K mg base 3 "_law_minus" ["u", "v"] (spP K F__law_minus)) (m_isinstance : mg "isinstance" = none) (m_int : mg "int" = none) (m_bool : mg "bool" = none) : FnOk P w K mg base CX0 4 f fd ["field", "u", "whole"] (spP K F__law_is_floor) := by
  refine fn_P Fn sc__law_is_floor (fun ds G h => ?_) (fun cdv A outer s H Q E ds G hr hF hQ => ?_)
  · obtain ⟨k, a, b, n, w, rfl, ⟨hk, hn, ha, hb, hbn, hw, h0, h1⟩, hG⟩ := h
    rfl
  · obtain ⟨k, a, b, n, w, rfl, ⟨hk, hn, ha, hb, hbn, hw, h0, h1⟩, hG⟩ := hF
    have hw1 : Bd 5001 (w + 1) := (hw.add (Bd.of 1)).mono (by decide)
    have e1 : lsD k (a * 1 - w * n) (b * 1 - 0 * n) = lsD k (a - w * n) b := by rw [Int.mul_one, Int.mul_one, Int.zero_mul, Int.sub_zero]
    have e2 : lsD k (a * 1 - (w + 1) * n) (b * 1 - 0 * n) = lsD k (a - (w + 1) * n) b := by rw [Int.mul_one, Int.mul_one, Int.zero_mul, Int.sub_zero]
    refine (as_ifn (t_w (w_or (t_not (t_val (c_isi (U := "int") m_isinstance (ca_cons (nm 2 rfl (ca_cons (c_ty (T := "int") m_int (by decide +kernel) (ca_nil ⟨rfl, _, true, rfl, (by decide +kernel), (w_or1 (t_val (c_isi (U := "bool") m_isinstance (ca_cons (nm 2 rfl (ca_cons (c_ty (T := "bool") m_bool (by decide +kernel) (ca_nil ⟨rfl, _, false, rfl, (by decide +kernel), (as_ret hQ (c_andB (c_ge (c_call c__law_sign (hr.mono (by decide)) (ca_cons (nm 0 rfl (ca_cons (c_call c__law_minus (hr.mono (by decide)) (ca_cons (nm 1 rfl (ca_cons (c_tup (ca_cons (nm 2 rfl (ca_cons (c_int (ca_cons (c_int (ca_nil (And.intro (And.intro rfl (Nat.le_of_ble_eq_true rfl)) (ca_nil ⟨_, _, _, _, _, _, 3000, 5600, rfl, ?h1, fun x1 y1 z1 lo1 nm1 hx1 hy1 hz1 => And.intro rfl (ca_nil ⟨_, _, _, _, rfl, ?h2, fun s1 hs1 => And.intro rfl (c_int (And.intro (fun b1 => (c_one (c_lt (c_call c__law_sign (hr.mono (by decide)) (ca_cons (nm 0 rfl (ca_cons (c_call c__law_minus (hr.mono (by decide)) (ca_cons (nm 1 rfl (ca_cons (c_tup (ca_cons (c_add (nm 2 rfl (c_int (ca_cons (c_int (ca_cons (c_int (ca_nil (And.intro (And.intro rfl (Nat.le_of_ble_eq_true rfl)) (ca_nil ⟨_, _, _, _, _, _, 3000, 5600, rfl, ?h3, fun x2 y2 z2 lo2 nm2 hx2 hy2 hz2 => And.intro rfl (ca_nil ⟨_, _, _, _, rfl, ?h4, fun s2 hs2 => And.intro rfl (c_int (And.intro rfl ?h5))⟩)⟩))))))))))))))))))))))) (fun b2 => (And.intro rfl ?h6))))⟩)⟩)))))))))))))))))))))⟩))))))))⟩)))))))))))
    case h1 =>
      first | exact ⟨by omega, by decide, ha, hb, hbn, hw.mono (by decide), bd_s (by decide) (by decide), bd_s (by decide) (by decide), by decide⟩ | exact ⟨by omega, by decide, ha, hb, hbn, hw1.mono (by decide), bd_s (by decide) (by decide), bd_s (by decide) (by decide), by decide⟩
    case h2 =>
      first | exact ⟨hk, hx2.mono (by decide), hy2.mono (by decide)⟩ | exact ⟨hk, hx1.mono (by decide), hy1.mono (by decide)⟩
    case h3 =>
      first | exact ⟨by omega, by decide, ha, hb, hbn, hw.mono (by decide), bd_s (by decide) (by decide), bd_s (by decide) (by decide), by decide⟩ | exact ⟨by omega, by decide, ha, hb, hbn, hw1.mono (by decide), bd_s (by decide) (by decide), bd_s (by decide) (by decide), by decide⟩
    case h4 =>
      first | exact ⟨hk, hx2.mono (by decide), hy2.mono (by decide)⟩ | exact ⟨hk, hx1.mono (by decide), hy1.mono (by decide)⟩
    case h5 =>
      have t1 : s1 = lsD k (a - w * n) b := hs1.trans ((lo1.ls (by rw [Int.mul_one]; exact hn)).trans e1)
      first
        | (have t2 : s2 = lsD k (a - (w + 1) * n) b := hs2.trans ((lo2.ls (by rw [Int.mul_one]; exact hn)).trans e2)
           rw [show decide (s2 < 0) = true from decide_eq_true (by omega)]
           exact hG)
        | (exact absurd (by assumption) (show ¬ decide (0 ≤ s1) = false by rw [decide_eq_true (show 0 ≤ s1 by omega)]; decide))
    case h6 =>
      have t1 : s1 = lsD k (a - w * n) b := hs1.trans ((lo1.ls (by rw [Int.mul_one]; exact hn)).trans e1)
      first
        | (have t2 : s2 = lsD k (a - (w + 1) * n) b := hs2.trans ((lo2.ls (by rw [Int.mul_one]; exact hn)).trans e2)
           rw [show decide (s2 < 0) = true from decide_eq_true (by omega)]
           exact hG)
        | (exact absurd (by assumption) (show ¬ decide (0 ≤ s1) = false by rw [decide_eq_true (show 0 ≤ s1 by omega)]; decide))

end
end Y02

set_option Elab.async false
set_option linter.all false
set_option maxRecDepth 100000
set_option maxHeartbeats 8000000
namespace Y02
open PySem PySem.Spec PyProof.Rows L2 Evl Wz
local macro_rules | `(tactic| walk_at "bd") => `(tactic| (repeat (first | assumption | apply Bd.mul | apply Bd.add | apply Bd.sub | apply Bd.neg | exact Bd.z | exact Bd.of _)))
local macro_rules | `(tactic| walk_at "bm") => `(tactic| (first | assumption | exact Bd.mono (by walk_at "bd") (by decide)))
local macro_rules | `(tactic| walk_at "b2") => `(tactic| (repeat (first | assumption | apply And.intro | walk_at "bm" | decide | omega)))

theorem Sh.int {n : Nat} {i : Int} : Sh n (.int i) := by
  cases n with
  | zero => rw [Sh]; exact ⟨_, rfl⟩
  | succ n => rw [Sh]; exact .inl ⟨_, rfl⟩
def Shs (n : Nat) (xs : List Dat) : Prop := ∀ (i : Nat) (e : Dat), xs[i]? = some e → Sh n e
theorem Shs.nil {n : Nat} : Shs n [] := fun i e q => by simp at q
theorem Shs.cons {n : Nat} {d : Dat} {xs : List Dat} (h : Sh n d) (g : Shs n xs) : Shs n (d :: xs) := fun i e q => by
  cases i with
  | zero =>
    have : d = e := by simpa using q
    exact this ▸ h
  | succ i => exact g i e (by simpa using q)
theorem Sh.tup {n : Nat} {xs : List Dat} (h : Shs n xs) (l : xs.length ≤ 1000) : Sh (n + 1) (.tup xs) := by
  rw [Sh]
  exact .inr ⟨xs, .inl rfl, l, h⟩
theorem Sh.lst {n : Nat} {xs : List Dat} (h : Shs n xs) (l : xs.length ≤ 1000) : Sh (n + 1) (.lst xs) := by
  rw [Sh]
  exact .inr ⟨xs, .inr rfl, l, h⟩
theorem sh_i2 {a b : Int} : Sh 2 (.lst [.int a, .int b]) := Sh.lst (.cons Sh.int (.cons Sh.int .nil)) (Nat.le_of_ble_eq_true rfl)
theorem sh_i3 {a b c : Int} : Sh 2 (.lst [.int a, .int b, .int c]) := Sh.lst (.cons Sh.int (.cons Sh.int (.cons Sh.int .nil))) (Nat.le_of_ble_eq_true rfl)
theorem sh_t2 {s t : T3} : Sh 2 (.lst [tD s, tD t]) := Sh.lst (.cons (Sh.tup (.cons Sh.int (.cons Sh.int (.cons Sh.int .nil))) (Nat.le_of_ble_eq_true rfl)) (.cons (Sh.tup (.cons Sh.int (.cons Sh.int (.cons Sh.int .nil))) (Nat.le_of_ble_eq_true rfl)) .nil)) (Nat.le_of_ble_eq_true rfl)
theorem sg_neg {K x y : Int} : sgL K (-x) (-y) = -(sgL K x y) := by
  have e1 : -x * -y = x * y := Int.neg_mul_neg x y
  have e2 : -x * -x = x * x := Int.neg_mul_neg x x
  have e3 : K * -y * -y = K * y * y := by grind
  unfold sgL
  rw [e1, e2, e3]
  by_cases h : 0 ≤ x * y
  · rw [if_pos h, if_pos h, show decide (0 < -x + -y) = decide (x + y < 0) from dec_congr (by omega), show decide (-x + -y < 0) = decide (0 < x + y) from dec_congr (by omega)]
    omega
  · have hx : x ≠ 0 := fun z => by
      subst z
      rw [Int.zero_mul] at h
      exact h (Int.le_refl _)
    rw [if_neg h, if_neg h]
    by_cases hp : 0 < x
    · rw [if_pos hp, if_neg (show ¬ 0 < -x by omega)]
      omega
    · rw [if_neg hp, if_pos (show 0 < -x by omega)]
      omega
theorem ls_neg {k a b : Int} : lsD k (-a) (-b) = -(lsD k a b) := by
  unfold lsD
  rw [show 2 * -a + -b = -(2 * a + b) by omega, sg_neg, sg_neg]
  split <;> rfl
/-! _law_units -/
abbrev U2 := Option (Int × Int)
@[reducible] def uD : U2 → Dat
  | none => .non
  | some p => nD p.1 p.2 1
def mA (k x y : Int) : Int := if k = 5 then x + y else x
def OKU (k x y : Int) : Prop := (ptA k x y (mA k x y) (-y) = 1 ∨ ptA k x y (mA k x y) (-y) = -1) ∧ ptB k x y (mA k x y) (-y) = 0 ∧ 0 < lsD k (x - 1) y
instance {k x y : Int} : Decidable (OKU k x y) := by unfold OKU; exact inferInstance
def lsU (k x y : Int) : U2 → Prop
  | none => True
  | some p => lsD k (x - p.1) (y - p.2) < 0
instance {k x y : Int} {s : U2} : Decidable (lsU k x y s) := by cases s <;> (unfold lsU; exact inferInstance)
def stU (k x y : Int) (s : U2 × U2) : U2 × U2 :=
  if OKU k x y then (if lsU k x y s.1 then some (x, y) else s.1, if 0 < lsD k (mA k x y) (-y) ∧ lsU k x y s.2 then some (x, y) else s.2) else s
def rowU (k x : Int) (s : U2 × U2) : Nat → U2 × U2
  | 0 => s
  | j + 1 => stU k x (-9 + (j : Int)) (rowU k x s j)
def allU (k : Int) : Nat → U2 × U2
  | 0 => (none, none)
  | j + 1 => rowU k (-9 + (j : Int)) (allU k j) 19
theorem allU_is {k : Int} (h : Kd k) : allU k 19 = (some ((unF k).1, (unF k).2.1), some ((suF k).1, (suF k).2.1)) ∧ (unF k).2.2 = 1 ∧ (suF k).2.2 = 1 := by
  rcases h with rfl | rfl | rfl <;> exact ⟨by decide +kernel, rfl, rfl⟩
section
variable {P : Program} {w : World} {K : PySem.W.Frag} {mg : Str → Option Value} {base : Heap}

theorem BUx {k x y : Int} (h : Bd 12 x ∧ Bd 12 y) : True := trivial
/-- both are small -/
def BU (s : U2 × U2) : Prop := (∀ p, s.1 = some p → Bd 12 p.1 ∧ Bd 12 p.2) ∧ (∀ p, s.2 = some p → Bd 12 p.1 ∧ Bd 12 p.2)
theorem BU.st {k x y : Int} {s : U2 × U2} (h : BU s) (hx : Bd 12 x) (hy : Bd 12 y) : BU (stU k x y s) := by
  have hn : ∀ p : Int × Int, (some (x, y) : U2) = some p → Bd 12 p.1 ∧ Bd 12 p.2 := fun p e => by cases e; exact ⟨hx, hy⟩
  unfold stU
  split
  · refine ⟨fun p e => ?_, fun p e => ?_⟩
    · dsimp only at e
      split at e
      · exact hn p e
      · exact h.1 p e
    · dsimp only at e
      split at e
      · exact hn p e
      · exact h.2 p e
  · exact h
theorem BU.row {k x : Int} {s : U2 × U2} (h : BU s) (hx : Bd 12 x) : ∀ j : Nat, j ≤ 19 → BU (rowU k x s j)
  | 0, _ => h
  | j + 1, hj => (BU.row h hx j (by omega)).st hx (bd_s (by omega) (by decide))
theorem abs1 {x : Int} : (if x < 0 then -x else x) = 1 ↔ x = 1 ∨ x = -1 := by split <;> omega
theorem okU_no1 {k x y c x1 y1 z1 : Int} (e : mA k x y = c) (lo : LO (ptA k x y c (-y)) (ptB k x y c (-y)) (1 * 1) x1 y1 z1) (b : ¬ (if x1 < 0 then -x1 else x1) = 1) : ¬ OKU k x y := fun z => by
  unfold OKU at z
  rw [e, ← (lo.one (by decide)).1] at z
  exact b (abs1.mpr z.1)
theorem okU_no2 {k x y c x1 y1 z1 : Int} (e : mA k x y = c) (lo : LO (ptA k x y c (-y)) (ptB k x y c (-y)) (1 * 1) x1 y1 z1) (b : ¬ y1 = 0) : ¬ OKU k x y := fun z => by
  unfold OKU at z
  rw [e, ← (lo.one (by decide)).2.1] at z
  exact b z.2.1
theorem okU_no3 {k x y s : Int} (hs : s = lsD k (x - 1) y) (b : ¬ 0 < s) : ¬ OKU k x y := fun z => by
  unfold OKU at z
  rw [← hs] at z
  exact b z.2.2
theorem okU_yes {k x y c x1 y1 z1 s : Int} (e : mA k x y = c) (lo : LO (ptA k x y c (-y)) (ptB k x y c (-y)) (1 * 1) x1 y1 z1) (b1 : (if x1 < 0 then -x1 else x1) = 1) (b2 : y1 = 0) (hs : s = lsD k (x - 1) y) (b3 : 0 < s) : OKU k x y := by
  unfold OKU
  rw [e, ← (lo.one (by decide)).1, ← (lo.one (by decide)).2.1, ← hs]
  exact ⟨abs1.mp b1, b2, b3⟩
theorem lsU_i {k x y p1 p2 x2 y2 z2 s : Int} (lo : LO (x * 1 - p1 * 1) (y * 1 - p2 * 1) (1 * 1) x2 y2 z2) (hs : s = lsD k x2 y2) : s = lsD k (x - p1) (y - p2) := by
  obtain ⟨h1, h2, _⟩ := lo.one (by decide)
  rw [hs, h1, h2, Int.mul_one, Int.mul_one, Int.mul_one, Int.mul_one]
theorem lsU_t {k x y p1 p2 x2 y2 z2 s : Int} (lo : LO (x * 1 - p1 * 1) (y * 1 - p2 * 1) (1 * 1) x2 y2 z2) (hs : s = lsD k x2 y2) (b : s < 0) : lsU k x y (some (p1, p2)) := by
  show lsD k (x - p1) (y - p2) < 0
  rw [← lsU_i lo hs]
  exact b
theorem lsU_f {k x y p1 p2 x2 y2 z2 s : Int} (lo : LO (x * 1 - p1 * 1) (y * 1 - p2 * 1) (1 * 1) x2 y2 z2) (hs : s = lsD k x2 y2) (b : ¬ s < 0) : ¬ lsU k x y (some (p1, p2)) := by
  show ¬ lsD k (x - p1) (y - p2) < 0
  rw [← lsU_i lo hs]
  exact b
theorem vpos {k x y c s : Int} (e : mA k x y = c) (hs : s = lsD k c (-y)) (b : 0 < s) : 0 < lsD k (mA k x y) (-y) := by rw [e, ← hs]; exact b
theorem vneg {k x y c s : Int} (e : mA k x y = c) (hs : s = lsD k c (-y)) (b : ¬ 0 < s) : ¬ 0 < lsD k (mA k x y) (-y) := by rw [e, ← hs]; exact b
theorem st_no {k x y : Int} {s : U2 × U2} (h : ¬ OKU k x y) : stU k x y s = s := if_neg h
theorem st_is {k x y : Int} {s : U2 × U2} {L R : U2} (ok : OKU k x y) (h1 : (lsU k x y s.1 ∧ L = some (x, y)) ∨ (¬ lsU k x y s.1 ∧ L = s.1)) (h2 : ((0 < lsD k (mA k x y) (-y) ∧ lsU k x y s.2) ∧ R = some (x, y)) ∨ (¬ (0 < lsD k (mA k x y) (-y) ∧ lsU k x y s.2) ∧ R = s.2)) : stU k x y s = (L, R) := by
  unfold stU
  rw [if_pos ok]
  refine Prod.ext ?_ ?_
  · rcases h1 with ⟨a, b⟩ | ⟨a, b⟩
    · rw [b]; exact if_pos a
    · rw [b]; exact if_neg a
  · rcases h2 with ⟨a, b⟩ | ⟨a, b⟩
    · rw [b]; exact if_pos a
    · rw [b]; exact if_neg a
theorem BU.all {k : Int} : ∀ j : Nat, j ≤ 19 → BU (allU k j)
  | 0, _ => by refine And.intro (fun p e => ?_) (fun p e => ?_) <;> cases e
  | j + 1, hj => (BU.all j (by omega)).row (bd_s (by omega) (by decide)) 19 (Nat.le_refl _)

/-! ### _law_units -/
abbrev s__law_units : Stmt := topS 40
theorem sc__law_units : FnScope ["field", "least", "least_high", "x", "y", "u", "v", "size"] ["field"] (defScope s__law_units) := ⟨rfl, rfl, rfl, by decide +kernel, rfl, by decide +kernel, by decide +kernel⟩
def F__law_units : FN := fun ds Q => ∃ k, ds = [.int k] ∧ Kd k ∧ Q [tD (unF k), tD (suF k)]
theorem ok__law_units {f : Addr} {fd : FuncData} (Fn : Fun K "_law_units" "_law_units" s__law_units f fd) (c__law_times : Cl P w K mg base 3 "_law_times" ["field", "u", "v"] (spP K F__law_times)) (c__law_sign : Cl P w K mg base 1 "_law_sign" ["field", "u"] (spP K F__law_sign)) (c__law_minus : Cl P w K mg base 3 "_law_minus" ["u", "v"] (spP K F__law_minus)) (m_range : mg "range" = none) (m_abs : mg "abs" = none) : FnOk P w K mg base CX0 4 f fd ["field"] (spN K F__law_units) := by
  refine fn_N Fn sc__law_units (fun ds G h => ?_) (fun cdv A outer s H Q E ds G hr hF hQ => ?_)
  · obtain ⟨k, rfl, hk, hG⟩ := h
    rfl
  · obtain ⟨k, rfl, hk, hG⟩ := hF
    refine (as_unp2 (i := 1) (j := 2) ?h1 rfl (c_tup (ca_cons (c_non (ca_cons (c_non (ca_nil (And.intro (And.intro rfl (Nat.le_of_ble_eq_true rfl)) ⟨_, _, rfl, (as_forR2 (i := 3) ?h2 rfl PassesOwn.never m_range (ca_cons (c_neg (c_int (ca_cons (c_int (ca_nil ⟨_, _, (fun j es q => ∃ x y u v z : Option Dat, es = [some (.int k), some (uD (allU k j).1), some (uD (allU k j).2), x, y, u, v, z] ∧ q = []), (fun _ _ => False), rfl, ?h146, ⟨_, _, _, _, _, rfl, rfl⟩, ⟨fun H10 e10 fr0 j d es q hj hd hw => ?h3, fun es q hw => ?h4, fun _ _ h => h.elim⟩⟩)))))))⟩))))))))
    case h1 =>
      exact sc__law_units.nd
    case h2 =>
      exact sc__law_units.nd
    case h3 =>
      obtain ⟨x, y, u, v, z, rfl, rfl⟩ := hw
      cases hd
      refine (as_forR2 (i := 4) ?h142 rfl PassesOwn.never m_range (ca_cons (c_neg (c_int (ca_cons (c_int (ca_nil ⟨_, _, (fun i es q => ∃ (y u v z : Option Dat) (s : U2 × U2), s = rowU k (-9 + (j : Int)) (allU k j) i ∧ BU s ∧ es = [some (.int k), some (uD s.1), some (uD s.2), some (.int (-9 + (j : Int))), y, u, v, z] ∧ q = []), (fun _ _ => False), rfl, ?h143, ?h144, ⟨fun H1b e1b frb j_1 d es q hj hd hw => ?h5, fun es q hw => ?h6, fun _ _ h => h.elim⟩⟩)))))))
      case h5 =>
        obtain ⟨y, u, v, z, s, hs, hbu, rfl, rfl⟩ := hw
        cases hd
        obtain ⟨s1o, s2o⟩ := s
        have hX : Bd 12 (-9 + (j : Int)) := bd_s (by omega) (by decide)
        have hY : Bd 12 (-9 + (j_1 : Int)) := bd_s (by omega) (by decide)
        rcases s1o with _ | ⟨p1, p2⟩ <;> rcases s2o with _ | ⟨r1, r2⟩
        ·
          refine (as_par (i := 5) (j := 6) ?h7 rfl (ca_cons (c_tup (ca_cons (nm 3 rfl (ca_cons (nm 4 rfl (ca_cons (c_int (ca_nil (And.intro (And.intro rfl (Nat.le_of_ble_eq_true rfl)) (ca_cons (c_if (t_eqI (nm 0 rfl (c_int (And.intro (fun b1 => (c_tup (ca_cons (c_add (nm 3 rfl (nm 4 rfl (ca_cons (c_neg (nm 4 rfl (ca_cons (c_int (ca_nil (And.intro (And.intro rfl (Nat.le_of_ble_eq_true rfl)) (ca_nil ⟨_, _, rfl, (as_asg (i := 7) ?h8 (c_call c__law_times (hr.mono (by decide)) (ca_cons (nm 0 rfl (ca_cons (nm 5 rfl (ca_cons (nm 6 rfl (ca_nil ⟨_, _, _, _, _, _, _, 12, 12, rfl, ?h9, fun x1 y1 z1 lo1 nm1 hx1 hy1 hz1 => And.intro rfl (as_ifn (t_w (w_and (t_eqI (c_abs m_abs (ca_cons (c_ixTn (nm 7 rfl (c_int (And.intro (by decide) (ca_nil (c_int (And.intro (fun b2 => (w_and (t_eqI (c_ixTn (nm 7 rfl (c_int (And.intro (by decide) (c_int (And.intro (fun b3 => (w_and1 (t_gt (c_call c__law_sign (hr.mono (by decide)) (ca_cons (nm 0 rfl (ca_cons (c_tup (ca_cons (c_sub (nm 3 rfl (c_int (ca_cons (nm 4 rfl (ca_cons (c_int (ca_nil (And.intro (And.intro rfl (Nat.le_of_ble_eq_true rfl)) (ca_nil ⟨_, _, _, _, rfl, ?h10, fun s1 hs1 => And.intro rfl (c_int (And.intro (fun b4 => (as_ifn (t_w (w_or (t_isN (nm 1 rfl (as_asg (i := 1) ?h11 (nm 5 rfl (as_go (as_ifn (t_w (w_and (t_gt (c_call c__law_sign (hr.mono (by decide)) (ca_cons (nm 0 rfl (ca_cons (nm 6 rfl (ca_nil ⟨_, _, _, _, rfl, ?h12, fun s2 hs2 => And.intro rfl (c_int (And.intro (fun b5 => (w_and1 (t_w (w_or (t_isN (nm 2 rfl (as_asg (i := 2) ?h13 (nm 5 rfl (as_go (as_go (as_end rfl ?h14))))))))))) (fun b5 => (as_go (as_end rfl ?h15)))))⟩))))))))))))))))))) (fun b4 => (as_end rfl ?h16))))⟩))))))))))))))))))) (fun b3 => (as_end rfl ?h17))))))))))) (fun b2 => (as_end rfl ?h18)))))))))))))))⟩)))))))))⟩)))))))))))))) (fun b1 => (c_tup (ca_cons (nm 3 rfl (ca_cons (c_neg (nm 4 rfl (ca_cons (c_int (ca_nil (And.intro (And.intro rfl (Nat.le_of_ble_eq_true rfl)) (ca_nil ⟨_, _, rfl, (as_asg (i := 7) ?h19 (c_call c__law_times (hr.mono (by decide)) (ca_cons (nm 0 rfl (ca_cons (nm 5 rfl (ca_cons (nm 6 rfl (ca_nil ⟨_, _, _, _, _, _, _, 12, 12, rfl, ?h20, fun x1 y1 z1 lo1 nm1 hx1 hy1 hz1 => And.intro rfl (as_ifn (t_w (w_and (t_eqI (c_abs m_abs (ca_cons (c_ixTn (nm 7 rfl (c_int (And.intro (by decide) (ca_nil (c_int (And.intro (fun b6 => (w_and (t_eqI (c_ixTn (nm 7 rfl (c_int (And.intro (by decide) (c_int (And.intro (fun b7 => (w_and1 (t_gt (c_call c__law_sign (hr.mono (by decide)) (ca_cons (nm 0 rfl (ca_cons (c_tup (ca_cons (c_sub (nm 3 rfl (c_int (ca_cons (nm 4 rfl (ca_cons (c_int (ca_nil (And.intro (And.intro rfl (Nat.le_of_ble_eq_true rfl)) (ca_nil ⟨_, _, _, _, rfl, ?h21, fun s1 hs1 => And.intro rfl (c_int (And.intro (fun b8 => (as_ifn (t_w (w_or (t_isN (nm 1 rfl (as_asg (i := 1) ?h22 (nm 5 rfl (as_go (as_ifn (t_w (w_and (t_gt (c_call c__law_sign (hr.mono (by decide)) (ca_cons (nm 0 rfl (ca_cons (nm 6 rfl (ca_nil ⟨_, _, _, _, rfl, ?h23, fun s2 hs2 => And.intro rfl (c_int (And.intro (fun b9 => (w_and1 (t_w (w_or (t_isN (nm 2 rfl (as_asg (i := 2) ?h24 (nm 5 rfl (as_go (as_go (as_end rfl ?h25))))))))))) (fun b9 => (as_go (as_end rfl ?h26)))))⟩))))))))))))))))))) (fun b8 => (as_end rfl ?h27))))⟩))))))))))))))))))) (fun b7 => (as_end rfl ?h28))))))))))) (fun b6 => (as_end rfl ?h29)))))))))))))))⟩)))))))))⟩)))))))))))))))))))))))))))))
          case h7 =>
            exact sc__law_units.nd
          case h8 =>
            exact sc__law_units.nd
          case h9 =>
            exact ⟨hk, by decide, by decide, bd_s (by omega) (by decide), bd_s (by omega) (by decide), bd_s (by decide) (by decide), bd_s (by omega) (by decide), bd_s (by omega) (by decide), bd_s (by decide) (by decide), by decide⟩
          case h10 =>
            first | exact ⟨hk, bd_s (by omega) (by decide), bd_s (by omega) (by decide)⟩ | exact ⟨hk, hx2.mono (by decide), hy2.mono (by decide)⟩ | exact ⟨hk, hx3.mono (by decide), hy3.mono (by decide)⟩
          case h11 =>
            exact sc__law_units.nd
          case h12 =>
            first | exact ⟨hk, bd_s (by omega) (by decide), bd_s (by omega) (by decide)⟩ | exact ⟨hk, hx2.mono (by decide), hy2.mono (by decide)⟩ | exact ⟨hk, hx3.mono (by decide), hy3.mono (by decide)⟩
          case h13 =>
            exact sc__law_units.nd
          case h14 =>
            first
              | exact ⟨_, _, _, _, (some ((-9 + (j : Int)), (-9 + (j_1 : Int))), none), (by rw [rowU, ← hs]; exact (st_is (s := (none, none)) (L := some ((-9 + (j : Int)), (-9 + (j_1 : Int)))) (R := none) (okU_yes (by unfold mA; first | rw [if_pos (show k = 5 by assumption)] | rw [if_neg (show ¬ k = 5 by assumption)]) lo1 (by assumption) (by assumption) hs1 (by assumption)) (.inl ⟨trivial, rfl⟩) (.inr ⟨fun z => vneg (by unfold mA; first | rw [if_pos (show k = 5 by assumption)] | rw [if_neg (show ¬ k = 5 by assumption)]) hs2 (by assumption) z.1, rfl⟩)).symm), (by have hb2 := hbu.st (k := k) hX hY; rw [st_is (s := (none, none)) (L := some ((-9 + (j : Int)), (-9 + (j_1 : Int)))) (R := none) (okU_yes (by unfold mA; first | rw [if_pos (show k = 5 by assumption)] | rw [if_neg (show ¬ k = 5 by assumption)]) lo1 (by assumption) (by assumption) hs1 (by assumption)) (.inl ⟨trivial, rfl⟩) (.inr ⟨fun z => vneg (by unfold mA; first | rw [if_pos (show k = 5 by assumption)] | rw [if_neg (show ¬ k = 5 by assumption)]) hs2 (by assumption) z.1, rfl⟩)] at hb2; exact hb2), rfl, rfl⟩
              | exact ⟨_, _, _, _, (some ((-9 + (j : Int)), (-9 + (j_1 : Int))), some ((-9 + (j : Int)), (-9 + (j_1 : Int)))), (by rw [rowU, ← hs]; exact (st_is (s := (none, none)) (L := some ((-9 + (j : Int)), (-9 + (j_1 : Int)))) (R := some ((-9 + (j : Int)), (-9 + (j_1 : Int)))) (okU_yes (by unfold mA; first | rw [if_pos (show k = 5 by assumption)] | rw [if_neg (show ¬ k = 5 by assumption)]) lo1 (by assumption) (by assumption) hs1 (by assumption)) (.inl ⟨trivial, rfl⟩) (.inl ⟨⟨vpos (by unfold mA; first | rw [if_pos (show k = 5 by assumption)] | rw [if_neg (show ¬ k = 5 by assumption)]) hs2 (by assumption), trivial⟩, rfl⟩)).symm), (by have hb2 := hbu.st (k := k) hX hY; rw [st_is (s := (none, none)) (L := some ((-9 + (j : Int)), (-9 + (j_1 : Int)))) (R := some ((-9 + (j : Int)), (-9 + (j_1 : Int)))) (okU_yes (by unfold mA; first | rw [if_pos (show k = 5 by assumption)] | rw [if_neg (show ¬ k = 5 by assumption)]) lo1 (by assumption) (by assumption) hs1 (by assumption)) (.inl ⟨trivial, rfl⟩) (.inl ⟨⟨vpos (by unfold mA; first | rw [if_pos (show k = 5 by assumption)] | rw [if_neg (show ¬ k = 5 by assumption)]) hs2 (by assumption), trivial⟩, rfl⟩)] at hb2; exact hb2), rfl, rfl⟩
              | exact ⟨_, _, _, _, (none, none), (by rw [rowU, ← hs]; exact (st_no (s := (none, none)) (okU_no1 (by unfold mA; first | rw [if_pos (show k = 5 by assumption)] | rw [if_neg (show ¬ k = 5 by assumption)]) lo1 (by assumption))).symm), (by have hb2 := hbu.st (k := k) hX hY; rw [st_no (s := (none, none)) (okU_no1 (by unfold mA; first | rw [if_pos (show k = 5 by assumption)] | rw [if_neg (show ¬ k = 5 by assumption)]) lo1 (by assumption))] at hb2; exact hb2), rfl, rfl⟩
              | exact ⟨_, _, _, _, (none, none), (by rw [rowU, ← hs]; exact (st_no (s := (none, none)) (okU_no2 (by unfold mA; first | rw [if_pos (show k = 5 by assumption)] | rw [if_neg (show ¬ k = 5 by assumption)]) lo1 (by assumption))).symm), (by have hb2 := hbu.st (k := k) hX hY; rw [st_no (s := (none, none)) (okU_no2 (by unfold mA; first | rw [if_pos (show k = 5 by assumption)] | rw [if_neg (show ¬ k = 5 by assumption)]) lo1 (by assumption))] at hb2; exact hb2), rfl, rfl⟩
              | exact ⟨_, _, _, _, (none, none), (by rw [rowU, ← hs]; exact (st_no (s := (none, none)) (okU_no3 hs1 (by assumption))).symm), (by have hb2 := hbu.st (k := k) hX hY; rw [st_no (s := (none, none)) (okU_no3 hs1 (by assumption))] at hb2; exact hb2), rfl, rfl⟩
          case h15 =>
            first
              | exact ⟨_, _, _, _, (some ((-9 + (j : Int)), (-9 + (j_1 : Int))), none), (by rw [rowU, ← hs]; exact (st_is (s := (none, none)) (L := some ((-9 + (j : Int)), (-9 + (j_1 : Int)))) (R := none) (okU_yes (by unfold mA; first | rw [if_pos (show k = 5 by assumption)] | rw [if_neg (show ¬ k = 5 by assumption)]) lo1 (by assumption) (by assumption) hs1 (by assumption)) (.inl ⟨trivial, rfl⟩) (.inr ⟨fun z => vneg (by unfold mA; first | rw [if_pos (show k = 5 by assumption)] | rw [if_neg (show ¬ k = 5 by assumption)]) hs2 (by assumption) z.1, rfl⟩)).symm), (by have hb2 := hbu.st (k := k) hX hY; rw [st_is (s := (none, none)) (L := some ((-9 + (j : Int)), (-9 + (j_1 : Int)))) (R := none) (okU_yes (by unfold mA; first | rw [if_pos (show k = 5 by assumption)] | rw [if_neg (show ¬ k = 5 by assumption)]) lo1 (by assumption) (by assumption) hs1 (by assumption)) (.inl ⟨trivial, rfl⟩) (.inr ⟨fun z => vneg (by unfold mA; first | rw [if_pos (show k = 5 by assumption)] | rw [if_neg (show ¬ k = 5 by assumption)]) hs2 (by assumption) z.1, rfl⟩)] at hb2; exact hb2), rfl, rfl⟩
              | exact ⟨_, _, _, _, (some ((-9 + (j : Int)), (-9 + (j_1 : Int))), some ((-9 + (j : Int)), (-9 + (j_1 : Int)))), (by rw [rowU, ← hs]; exact (st_is (s := (none, none)) (L := some ((-9 + (j : Int)), (-9 + (j_1 : Int)))) (R := some ((-9 + (j : Int)), (-9 + (j_1 : Int)))) (okU_yes (by unfold mA; first | rw [if_pos (show k = 5 by assumption)] | rw [if_neg (show ¬ k = 5 by assumption)]) lo1 (by assumption) (by assumption) hs1 (by assumption)) (.inl ⟨trivial, rfl⟩) (.inl ⟨⟨vpos (by unfold mA; first | rw [if_pos (show k = 5 by assumption)] | rw [if_neg (show ¬ k = 5 by assumption)]) hs2 (by assumption), trivial⟩, rfl⟩)).symm), (by have hb2 := hbu.st (k := k) hX hY; rw [st_is (s := (none, none)) (L := some ((-9 + (j : Int)), (-9 + (j_1 : Int)))) (R := some ((-9 + (j : Int)), (-9 + (j_1 : Int)))) (okU_yes (by unfold mA; first | rw [if_pos (show k = 5 by assumption)] | rw [if_neg (show ¬ k = 5 by assumption)]) lo1 (by assumption) (by assumption) hs1 (by assumption)) (.inl ⟨trivial, rfl⟩) (.inl ⟨⟨vpos (by unfold mA; first | rw [if_pos (show k = 5 by assumption)] | rw [if_neg (show ¬ k = 5 by assumption)]) hs2 (by assumption), trivial⟩, rfl⟩)] at hb2; exact hb2), rfl, rfl⟩
              | exact ⟨_, _, _, _, (none, none), (by rw [rowU, ← hs]; exact (st_no (s := (none, none)) (okU_no1 (by unfold mA; first | rw [if_pos (show k = 5 by assumption)] | rw [if_neg (show ¬ k = 5 by assumption)]) lo1 (by assumption))).symm), (by have hb2 := hbu.st (k := k) hX hY; rw [st_no (s := (none, none)) (okU_no1 (by unfold mA; first | rw [if_pos (show k = 5 by assumption)] | rw [if_neg (show ¬ k = 5 by assumption)]) lo1 (by assumption))] at hb2; exact hb2), rfl, rfl⟩
              | exact ⟨_, _, _, _, (none, none), (by rw [rowU, ← hs]; exact (st_no (s := (none, none)) (okU_no2 (by unfold mA; first | rw [if_pos (show k = 5 by assumption)] | rw [if_neg (show ¬ k = 5 by assumption)]) lo1 (by assumption))).symm), (by have hb2 := hbu.st (k := k) hX hY; rw [st_no (s := (none, none)) (okU_no2 (by unfold mA; first | rw [if_pos (show k = 5 by assumption)] | rw [if_neg (show ¬ k = 5 by assumption)]) lo1 (by assumption))] at hb2; exact hb2), rfl, rfl⟩
              | exact ⟨_, _, _, _, (none, none), (by rw [rowU, ← hs]; exact (st_no (s := (none, none)) (okU_no3 hs1 (by assumption))).symm), (by have hb2 := hbu.st (k := k) hX hY; rw [st_no (s := (none, none)) (okU_no3 hs1 (by assumption))] at hb2; exact hb2), rfl, rfl⟩
          case h16 =>
            first
              | exact ⟨_, _, _, _, (some ((-9 + (j : Int)), (-9 + (j_1 : Int))), none), (by rw [rowU, ← hs]; exact (st_is (s := (none, none)) (L := some ((-9 + (j : Int)), (-9 + (j_1 : Int)))) (R := none) (okU_yes (by unfold mA; first | rw [if_pos (show k = 5 by assumption)] | rw [if_neg (show ¬ k = 5 by assumption)]) lo1 (by assumption) (by assumption) hs1 (by assumption)) (.inl ⟨trivial, rfl⟩) (.inr ⟨fun z => vneg (by unfold mA; first | rw [if_pos (show k = 5 by assumption)] | rw [if_neg (show ¬ k = 5 by assumption)]) hs2 (by assumption) z.1, rfl⟩)).symm), (by have hb2 := hbu.st (k := k) hX hY; rw [st_is (s := (none, none)) (L := some ((-9 + (j : Int)), (-9 + (j_1 : Int)))) (R := none) (okU_yes (by unfold mA; first | rw [if_pos (show k = 5 by assumption)] | rw [if_neg (show ¬ k = 5 by assumption)]) lo1 (by assumption) (by assumption) hs1 (by assumption)) (.inl ⟨trivial, rfl⟩) (.inr ⟨fun z => vneg (by unfold mA; first | rw [if_pos (show k = 5 by assumption)] | rw [if_neg (show ¬ k = 5 by assumption)]) hs2 (by assumption) z.1, rfl⟩)] at hb2; exact hb2), rfl, rfl⟩
              | exact ⟨_, _, _, _, (some ((-9 + (j : Int)), (-9 + (j_1 : Int))), some ((-9 + (j : Int)), (-9 + (j_1 : Int)))), (by rw [rowU, ← hs]; exact (st_is (s := (none, none)) (L := some ((-9 + (j : Int)), (-9 + (j_1 : Int)))) (R := some ((-9 + (j : Int)), (-9 + (j_1 : Int)))) (okU_yes (by unfold mA; first | rw [if_pos (show k = 5 by assumption)] | rw [if_neg (show ¬ k = 5 by assumption)]) lo1 (by assumption) (by assumption) hs1 (by assumption)) (.inl ⟨trivial, rfl⟩) (.inl ⟨⟨vpos (by unfold mA; first | rw [if_pos (show k = 5 by assumption)] | rw [if_neg (show ¬ k = 5 by assumption)]) hs2 (by assumption), trivial⟩, rfl⟩)).symm), (by have hb2 := hbu.st (k := k) hX hY; rw [st_is (s := (none, none)) (L := some ((-9 + (j : Int)), (-9 + (j_1 : Int)))) (R := some ((-9 + (j : Int)), (-9 + (j_1 : Int)))) (okU_yes (by unfold mA; first | rw [if_pos (show k = 5 by assumption)] | rw [if_neg (show ¬ k = 5 by assumption)]) lo1 (by assumption) (by assumption) hs1 (by assumption)) (.inl ⟨trivial, rfl⟩) (.inl ⟨⟨vpos (by unfold mA; first | rw [if_pos (show k = 5 by assumption)] | rw [if_neg (show ¬ k = 5 by assumption)]) hs2 (by assumption), trivial⟩, rfl⟩)] at hb2; exact hb2), rfl, rfl⟩
              | exact ⟨_, _, _, _, (none, none), (by rw [rowU, ← hs]; exact (st_no (s := (none, none)) (okU_no1 (by unfold mA; first | rw [if_pos (show k = 5 by assumption)] | rw [if_neg (show ¬ k = 5 by assumption)]) lo1 (by assumption))).symm), (by have hb2 := hbu.st (k := k) hX hY; rw [st_no (s := (none, none)) (okU_no1 (by unfold mA; first | rw [if_pos (show k = 5 by assumption)] | rw [if_neg (show ¬ k = 5 by assumption)]) lo1 (by assumption))] at hb2; exact hb2), rfl, rfl⟩
              | exact ⟨_, _, _, _, (none, none), (by rw [rowU, ← hs]; exact (st_no (s := (none, none)) (okU_no2 (by unfold mA; first | rw [if_pos (show k = 5 by assumption)] | rw [if_neg (show ¬ k = 5 by assumption)]) lo1 (by assumption))).symm), (by have hb2 := hbu.st (k := k) hX hY; rw [st_no (s := (none, none)) (okU_no2 (by unfold mA; first | rw [if_pos (show k = 5 by assumption)] | rw [if_neg (show ¬ k = 5 by assumption)]) lo1 (by assumption))] at hb2; exact hb2), rfl, rfl⟩
              | exact ⟨_, _, _, _, (none, none), (by rw [rowU, ← hs]; exact (st_no (s := (none, none)) (okU_no3 hs1 (by assumption))).symm), (by have hb2 := hbu.st (k := k) hX hY; rw [st_no (s := (none, none)) (okU_no3 hs1 (by assumption))] at hb2; exact hb2), rfl, rfl⟩
          case h17 =>
            first
              | exact ⟨_, _, _, _, (some ((-9 + (j : Int)), (-9 + (j_1 : Int))), none), (by rw [rowU, ← hs]; exact (st_is (s := (none, none)) (L := some ((-9 + (j : Int)), (-9 + (j_1 : Int)))) (R := none) (okU_yes (by unfold mA; first | rw [if_pos (show k = 5 by assumption)] | rw [if_neg (show ¬ k = 5 by assumption)]) lo1 (by assumption) (by assumption) hs1 (by assumption)) (.inl ⟨trivial, rfl⟩) (.inr ⟨fun z => vneg (by unfold mA; first | rw [if_pos (show k = 5 by assumption)] | rw [if_neg (show ¬ k = 5 by assumption)]) hs2 (by assumption) z.1, rfl⟩)).symm), (by have hb2 := hbu.st (k := k) hX hY; rw [st_is (s := (none, none)) (L := some ((-9 + (j : Int)), (-9 + (j_1 : Int)))) (R := none) (okU_yes (by unfold mA; first | rw [if_pos (show k = 5 by assumption)] | rw [if_neg (show ¬ k = 5 by assumption)]) lo1 (by assumption) (by assumption) hs1 (by assumption)) (.inl ⟨trivial, rfl⟩) (.inr ⟨fun z => vneg (by unfold mA; first | rw [if_pos (show k = 5 by assumption)] | rw [if_neg (show ¬ k = 5 by assumption)]) hs2 (by assumption) z.1, rfl⟩)] at hb2; exact hb2), rfl, rfl⟩
              | exact ⟨_, _, _, _, (some ((-9 + (j : Int)), (-9 + (j_1 : Int))), some ((-9 + (j : Int)), (-9 + (j_1 : Int)))), (by rw [rowU, ← hs]; exact (st_is (s := (none, none)) (L := some ((-9 + (j : Int)), (-9 + (j_1 : Int)))) (R := some ((-9 + (j : Int)), (-9 + (j_1 : Int)))) (okU_yes (by unfold mA; first | rw [if_pos (show k = 5 by assumption)] | rw [if_neg (show ¬ k = 5 by assumption)]) lo1 (by assumption) (by assumption) hs1 (by assumption)) (.inl ⟨trivial, rfl⟩) (.inl ⟨⟨vpos (by unfold mA; first | rw [if_pos (show k = 5 by assumption)] | rw [if_neg (show ¬ k = 5 by assumption)]) hs2 (by assumption), trivial⟩, rfl⟩)).symm), (by have hb2 := hbu.st (k := k) hX hY; rw [st_is (s := (none, none)) (L := some ((-9 + (j : Int)), (-9 + (j_1 : Int)))) (R := some ((-9 + (j : Int)), (-9 + (j_1 : Int)))) (okU_yes (by unfold mA; first | rw [if_pos (show k = 5 by assumption)] | rw [if_neg (show ¬ k = 5 by assumption)]) lo1 (by assumption) (by assumption) hs1 (by assumption)) (.inl ⟨trivial, rfl⟩) (.inl ⟨⟨vpos (by unfold mA; first | rw [if_pos (show k = 5 by assumption)] | rw [if_neg (show ¬ k = 5 by assumption)]) hs2 (by assumption), trivial⟩, rfl⟩)] at hb2; exact hb2), rfl, rfl⟩
              | exact ⟨_, _, _, _, (none, none), (by rw [rowU, ← hs]; exact (st_no (s := (none, none)) (okU_no1 (by unfold mA; first | rw [if_pos (show k = 5 by assumption)] | rw [if_neg (show ¬ k = 5 by assumption)]) lo1 (by assumption))).symm), (by have hb2 := hbu.st (k := k) hX hY; rw [st_no (s := (none, none)) (okU_no1 (by unfold mA; first | rw [if_pos (show k = 5 by assumption)] | rw [if_neg (show ¬ k = 5 by assumption)]) lo1 (by assumption))] at hb2; exact hb2), rfl, rfl⟩
              | exact ⟨_, _, _, _, (none, none), (by rw [rowU, ← hs]; exact (st_no (s := (none, none)) (okU_no2 (by unfold mA; first | rw [if_pos (show k = 5 by assumption)] | rw [if_neg (show ¬ k = 5 by assumption)]) lo1 (by assumption))).symm), (by have hb2 := hbu.st (k := k) hX hY; rw [st_no (s := (none, none)) (okU_no2 (by unfold mA; first | rw [if_pos (show k = 5 by assumption)] | rw [if_neg (show ¬ k = 5 by assumption)]) lo1 (by assumption))] at hb2; exact hb2), rfl, rfl⟩
              | exact ⟨_, _, _, _, (none, none), (by rw [rowU, ← hs]; exact (st_no (s := (none, none)) (okU_no3 hs1 (by assumption))).symm), (by have hb2 := hbu.st (k := k) hX hY; rw [st_no (s := (none, none)) (okU_no3 hs1 (by assumption))] at hb2; exact hb2), rfl, rfl⟩
          case h18 =>
            first
              | exact ⟨_, _, _, _, (some ((-9 + (j : Int)), (-9 + (j_1 : Int))), none), (by rw [rowU, ← hs]; exact (st_is (s := (none, none)) (L := some ((-9 + (j : Int)), (-9 + (j_1 : Int)))) (R := none) (okU_yes (by unfold mA; first | rw [if_pos (show k = 5 by assumption)] | rw [if_neg (show ¬ k = 5 by assumption)]) lo1 (by assumption) (by assumption) hs1 (by assumption)) (.inl ⟨trivial, rfl⟩) (.inr ⟨fun z => vneg (by unfold mA; first | rw [if_pos (show k = 5 by assumption)] | rw [if_neg (show ¬ k = 5 by assumption)]) hs2 (by assumption) z.1, rfl⟩)).symm), (by have hb2 := hbu.st (k := k) hX hY; rw [st_is (s := (none, none)) (L := some ((-9 + (j : Int)), (-9 + (j_1 : Int)))) (R := none) (okU_yes (by unfold mA; first | rw [if_pos (show k = 5 by assumption)] | rw [if_neg (show ¬ k = 5 by assumption)]) lo1 (by assumption) (by assumption) hs1 (by assumption)) (.inl ⟨trivial, rfl⟩) (.inr ⟨fun z => vneg (by unfold mA; first | rw [if_pos (show k = 5 by assumption)] | rw [if_neg (show ¬ k = 5 by assumption)]) hs2 (by assumption) z.1, rfl⟩)] at hb2; exact hb2), rfl, rfl⟩
              | exact ⟨_, _, _, _, (some ((-9 + (j : Int)), (-9 + (j_1 : Int))), some ((-9 + (j : Int)), (-9 + (j_1 : Int)))), (by rw [rowU, ← hs]; exact (st_is (s := (none, none)) (L := some ((-9 + (j : Int)), (-9 + (j_1 : Int)))) (R := some ((-9 + (j : Int)), (-9 + (j_1 : Int)))) (okU_yes (by unfold mA; first | rw [if_pos (show k = 5 by assumption)] | rw [if_neg (show ¬ k = 5 by assumption)]) lo1 (by assumption) (by assumption) hs1 (by assumption)) (.inl ⟨trivial, rfl⟩) (.inl ⟨⟨vpos (by unfold mA; first | rw [if_pos (show k = 5 by assumption)] | rw [if_neg (show ¬ k = 5 by assumption)]) hs2 (by assumption), trivial⟩, rfl⟩)).symm), (by have hb2 := hbu.st (k := k) hX hY; rw [st_is (s := (none, none)) (L := some ((-9 + (j : Int)), (-9 + (j_1 : Int)))) (R := some ((-9 + (j : Int)), (-9 + (j_1 : Int)))) (okU_yes (by unfold mA; first | rw [if_pos (show k = 5 by assumption)] | rw [if_neg (show ¬ k = 5 by assumption)]) lo1 (by assumption) (by assumption) hs1 (by assumption)) (.inl ⟨trivial, rfl⟩) (.inl ⟨⟨vpos (by unfold mA; first | rw [if_pos (show k = 5 by assumption)] | rw [if_neg (show ¬ k = 5 by assumption)]) hs2 (by assumption), trivial⟩, rfl⟩)] at hb2; exact hb2), rfl, rfl⟩
              | exact ⟨_, _, _, _, (none, none), (by rw [rowU, ← hs]; exact (st_no (s := (none, none)) (okU_no1 (by unfold mA; first | rw [if_pos (show k = 5 by assumption)] | rw [if_neg (show ¬ k = 5 by assumption)]) lo1 (by assumption))).symm), (by have hb2 := hbu.st (k := k) hX hY; rw [st_no (s := (none, none)) (okU_no1 (by unfold mA; first | rw [if_pos (show k = 5 by assumption)] | rw [if_neg (show ¬ k = 5 by assumption)]) lo1 (by assumption))] at hb2; exact hb2), rfl, rfl⟩
              | exact ⟨_, _, _, _, (none, none), (by rw [rowU, ← hs]; exact (st_no (s := (none, none)) (okU_no2 (by unfold mA; first | rw [if_pos (show k = 5 by assumption)] | rw [if_neg (show ¬ k = 5 by assumption)]) lo1 (by assumption))).symm), (by have hb2 := hbu.st (k := k) hX hY; rw [st_no (s := (none, none)) (okU_no2 (by unfold mA; first | rw [if_pos (show k = 5 by assumption)] | rw [if_neg (show ¬ k = 5 by assumption)]) lo1 (by assumption))] at hb2; exact hb2), rfl, rfl⟩
              | exact ⟨_, _, _, _, (none, none), (by rw [rowU, ← hs]; exact (st_no (s := (none, none)) (okU_no3 hs1 (by assumption))).symm), (by have hb2 := hbu.st (k := k) hX hY; rw [st_no (s := (none, none)) (okU_no3 hs1 (by assumption))] at hb2; exact hb2), rfl, rfl⟩
          case h19 =>
            exact sc__law_units.nd
          case h20 =>
            exact ⟨hk, by decide, by decide, bd_s (by omega) (by decide), bd_s (by omega) (by decide), bd_s (by decide) (by decide), bd_s (by omega) (by decide), bd_s (by omega) (by decide), bd_s (by decide) (by decide), by decide⟩
          case h21 =>
            first | exact ⟨hk, bd_s (by omega) (by decide), bd_s (by omega) (by decide)⟩ | exact ⟨hk, hx2.mono (by decide), hy2.mono (by decide)⟩ | exact ⟨hk, hx3.mono (by decide), hy3.mono (by decide)⟩
          case h22 =>
            exact sc__law_units.nd
          case h23 =>
            first | exact ⟨hk, bd_s (by omega) (by decide), bd_s (by omega) (by decide)⟩ | exact ⟨hk, hx2.mono (by decide), hy2.mono (by decide)⟩ | exact ⟨hk, hx3.mono (by decide), hy3.mono (by decide)⟩
          case h24 =>
            exact sc__law_units.nd
          case h25 =>
            first
              | exact ⟨_, _, _, _, (some ((-9 + (j : Int)), (-9 + (j_1 : Int))), none), (by rw [rowU, ← hs]; exact (st_is (s := (none, none)) (L := some ((-9 + (j : Int)), (-9 + (j_1 : Int)))) (R := none) (okU_yes (by unfold mA; first | rw [if_pos (show k = 5 by assumption)] | rw [if_neg (show ¬ k = 5 by assumption)]) lo1 (by assumption) (by assumption) hs1 (by assumption)) (.inl ⟨trivial, rfl⟩) (.inr ⟨fun z => vneg (by unfold mA; first | rw [if_pos (show k = 5 by assumption)] | rw [if_neg (show ¬ k = 5 by assumption)]) hs2 (by assumption) z.1, rfl⟩)).symm), (by have hb2 := hbu.st (k := k) hX hY; rw [st_is (s := (none, none)) (L := some ((-9 + (j : Int)), (-9 + (j_1 : Int)))) (R := none) (okU_yes (by unfold mA; first | rw [if_pos (show k = 5 by assumption)] | rw [if_neg (show ¬ k = 5 by assumption)]) lo1 (by assumption) (by assumption) hs1 (by assumption)) (.inl ⟨trivial, rfl⟩) (.inr ⟨fun z => vneg (by unfold mA; first | rw [if_pos (show k = 5 by assumption)] | rw [if_neg (show ¬ k = 5 by assumption)]) hs2 (by assumption) z.1, rfl⟩)] at hb2; exact hb2), rfl, rfl⟩
              | exact ⟨_, _, _, _, (some ((-9 + (j : Int)), (-9 + (j_1 : Int))), some ((-9 + (j : Int)), (-9 + (j_1 : Int)))), (by rw [rowU, ← hs]; exact (st_is (s := (none, none)) (L := some ((-9 + (j : Int)), (-9 + (j_1 : Int)))) (R := some ((-9 + (j : Int)), (-9 + (j_1 : Int)))) (okU_yes (by unfold mA; first | rw [if_pos (show k = 5 by assumption)] | rw [if_neg (show ¬ k = 5 by assumption)]) lo1 (by assumption) (by assumption) hs1 (by assumption)) (.inl ⟨trivial, rfl⟩) (.inl ⟨⟨vpos (by unfold mA; first | rw [if_pos (show k = 5 by assumption)] | rw [if_neg (show ¬ k = 5 by assumption)]) hs2 (by assumption), trivial⟩, rfl⟩)).symm), (by have hb2 := hbu.st (k := k) hX hY; rw [st_is (s := (none, none)) (L := some ((-9 + (j : Int)), (-9 + (j_1 : Int)))) (R := some ((-9 + (j : Int)), (-9 + (j_1 : Int)))) (okU_yes (by unfold mA; first | rw [if_pos (show k = 5 by assumption)] | rw [if_neg (show ¬ k = 5 by assumption)]) lo1 (by assumption) (by assumption) hs1 (by assumption)) (.inl ⟨trivial, rfl⟩) (.inl ⟨⟨vpos (by unfold mA; first | rw [if_pos (show k = 5 by assumption)] | rw [if_neg (show ¬ k = 5 by assumption)]) hs2 (by assumption), trivial⟩, rfl⟩)] at hb2; exact hb2), rfl, rfl⟩
              | exact ⟨_, _, _, _, (none, none), (by rw [rowU, ← hs]; exact (st_no (s := (none, none)) (okU_no1 (by unfold mA; first | rw [if_pos (show k = 5 by assumption)] | rw [if_neg (show ¬ k = 5 by assumption)]) lo1 (by assumption))).symm), (by have hb2 := hbu.st (k := k) hX hY; rw [st_no (s := (none, none)) (okU_no1 (by unfold mA; first | rw [if_pos (show k = 5 by assumption)] | rw [if_neg (show ¬ k = 5 by assumption)]) lo1 (by assumption))] at hb2; exact hb2), rfl, rfl⟩
              | exact ⟨_, _, _, _, (none, none), (by rw [rowU, ← hs]; exact (st_no (s := (none, none)) (okU_no2 (by unfold mA; first | rw [if_pos (show k = 5 by assumption)] | rw [if_neg (show ¬ k = 5 by assumption)]) lo1 (by assumption))).symm), (by have hb2 := hbu.st (k := k) hX hY; rw [st_no (s := (none, none)) (okU_no2 (by unfold mA; first | rw [if_pos (show k = 5 by assumption)] | rw [if_neg (show ¬ k = 5 by assumption)]) lo1 (by assumption))] at hb2; exact hb2), rfl, rfl⟩
              | exact ⟨_, _, _, _, (none, none), (by rw [rowU, ← hs]; exact (st_no (s := (none, none)) (okU_no3 hs1 (by assumption))).symm), (by have hb2 := hbu.st (k := k) hX hY; rw [st_no (s := (none, none)) (okU_no3 hs1 (by assumption))] at hb2; exact hb2), rfl, rfl⟩
          case h26 =>
            first
              | exact ⟨_, _, _, _, (some ((-9 + (j : Int)), (-9 + (j_1 : Int))), none), (by rw [rowU, ← hs]; exact (st_is (s := (none, none)) (L := some ((-9 + (j : Int)), (-9 + (j_1 : Int)))) (R := none) (okU_yes (by unfold mA; first | rw [if_pos (show k = 5 by assumption)] | rw [if_neg (show ¬ k = 5 by assumption)]) lo1 (by assumption) (by assumption) hs1 (by assumption)) (.inl ⟨trivial, rfl⟩) (.inr ⟨fun z => vneg (by unfold mA; first | rw [if_pos (show k = 5 by assumption)] | rw [if_neg (show ¬ k = 5 by assumption)]) hs2 (by assumption) z.1, rfl⟩)).symm), (by have hb2 := hbu.st (k := k) hX hY; rw [st_is (s := (none, none)) (L := some ((-9 + (j : Int)), (-9 + (j_1 : Int)))) (R := none) (okU_yes (by unfold mA; first | rw [if_pos (show k = 5 by assumption)] | rw [if_neg (show ¬ k = 5 by assumption)]) lo1 (by assumption) (by assumption) hs1 (by assumption)) (.inl ⟨trivial, rfl⟩) (.inr ⟨fun z => vneg (by unfold mA; first | rw [if_pos (show k = 5 by assumption)] | rw [if_neg (show ¬ k = 5 by assumption)]) hs2 (by assumption) z.1, rfl⟩)] at hb2; exact hb2), rfl, rfl⟩
              | exact ⟨_, _, _, _, (some ((-9 + (j : Int)), (-9 + (j_1 : Int))), some ((-9 + (j : Int)), (-9 + (j_1 : Int)))), (by rw [rowU, ← hs]; exact (st_is (s := (none, none)) (L := some ((-9 + (j : Int)), (-9 + (j_1 : Int)))) (R := some ((-9 + (j : Int)), (-9 + (j_1 : Int)))) (okU_yes (by unfold mA; first | rw [if_pos (show k = 5 by assumption)] | rw [if_neg (show ¬ k = 5 by assumption)]) lo1 (by assumption) (by assumption) hs1 (by assumption)) (.inl ⟨trivial, rfl⟩) (.inl ⟨⟨vpos (by unfold mA; first | rw [if_pos (show k = 5 by assumption)] | rw [if_neg (show ¬ k = 5 by assumption)]) hs2 (by assumption), trivial⟩, rfl⟩)).symm), (by have hb2 := hbu.st (k := k) hX hY; rw [st_is (s := (none, none)) (L := some ((-9 + (j : Int)), (-9 + (j_1 : Int)))) (R := some ((-9 + (j : Int)), (-9 + (j_1 : Int)))) (okU_yes (by unfold mA; first | rw [if_pos (show k = 5 by assumption)] | rw [if_neg (show ¬ k = 5 by assumption)]) lo1 (by assumption) (by assumption) hs1 (by assumption)) (.inl ⟨trivial, rfl⟩) (.inl ⟨⟨vpos (by unfold mA; first | rw [if_pos (show k = 5 by assumption)] | rw [if_neg (show ¬ k = 5 by assumption)]) hs2 (by assumption), trivial⟩, rfl⟩)] at hb2; exact hb2), rfl, rfl⟩
              | exact ⟨_, _, _, _, (none, none), (by rw [rowU, ← hs]; exact (st_no (s := (none, none)) (okU_no1 (by unfold mA; first | rw [if_pos (show k = 5 by assumption)] | rw [if_neg (show ¬ k = 5 by assumption)]) lo1 (by assumption))).symm), (by have hb2 := hbu.st (k := k) hX hY; rw [st_no (s := (none, none)) (okU_no1 (by unfold mA; first | rw [if_pos (show k = 5 by assumption)] | rw [if_neg (show ¬ k = 5 by assumption)]) lo1 (by assumption))] at hb2; exact hb2), rfl, rfl⟩
              | exact ⟨_, _, _, _, (none, none), (by rw [rowU, ← hs]; exact (st_no (s := (none, none)) (okU_no2 (by unfold mA; first | rw [if_pos (show k = 5 by assumption)] | rw [if_neg (show ¬ k = 5 by assumption)]) lo1 (by assumption))).symm), (by have hb2 := hbu.st (k := k) hX hY; rw [st_no (s := (none, none)) (okU_no2 (by unfold mA; first | rw [if_pos (show k = 5 by assumption)] | rw [if_neg (show ¬ k = 5 by assumption)]) lo1 (by assumption))] at hb2; exact hb2), rfl, rfl⟩
              | exact ⟨_, _, _, _, (none, none), (by rw [rowU, ← hs]; exact (st_no (s := (none, none)) (okU_no3 hs1 (by assumption))).symm), (by have hb2 := hbu.st (k := k) hX hY; rw [st_no (s := (none, none)) (okU_no3 hs1 (by assumption))] at hb2; exact hb2), rfl, rfl⟩
          case h27 =>
            first
              | exact ⟨_, _, _, _, (some ((-9 + (j : Int)), (-9 + (j_1 : Int))), none), (by rw [rowU, ← hs]; exact (st_is (s := (none, none)) (L := some ((-9 + (j : Int)), (-9 + (j_1 : Int)))) (R := none) (okU_yes (by unfold mA; first | rw [if_pos (show k = 5 by assumption)] | rw [if_neg (show ¬ k = 5 by assumption)]) lo1 (by assumption) (by assumption) hs1 (by assumption)) (.inl ⟨trivial, rfl⟩) (.inr ⟨fun z => vneg (by unfold mA; first | rw [if_pos (show k = 5 by assumption)] | rw [if_neg (show ¬ k = 5 by assumption)]) hs2 (by assumption) z.1, rfl⟩)).symm), (by have hb2 := hbu.st (k := k) hX hY; rw [st_is (s := (none, none)) (L := some ((-9 + (j : Int)), (-9 + (j_1 : Int)))) (R := none) (okU_yes (by unfold mA; first | rw [if_pos (show k = 5 by assumption)] | rw [if_neg (show ¬ k = 5 by assumption)]) lo1 (by assumption) (by assumption) hs1 (by assumption)) (.inl ⟨trivial, rfl⟩) (.inr ⟨fun z => vneg (by unfold mA; first | rw [if_pos (show k = 5 by assumption)] | rw [if_neg (show ¬ k = 5 by assumption)]) hs2 (by assumption) z.1, rfl⟩)] at hb2; exact hb2), rfl, rfl⟩
              | exact ⟨_, _, _, _, (some ((-9 + (j : Int)), (-9 + (j_1 : Int))), some ((-9 + (j : Int)), (-9 + (j_1 : Int)))), (by rw [rowU, ← hs]; exact (st_is (s := (none, none)) (L := some ((-9 + (j : Int)), (-9 + (j_1 : Int)))) (R := some ((-9 + (j : Int)), (-9 + (j_1 : Int)))) (okU_yes (by unfold mA; first | rw [if_pos (show k = 5 by assumption)] | rw [if_neg (show ¬ k = 5 by assumption)]) lo1 (by assumption) (by assumption) hs1 (by assumption)) (.inl ⟨trivial, rfl⟩) (.inl ⟨⟨vpos (by unfold mA; first | rw [if_pos (show k = 5 by assumption)] | rw [if_neg (show ¬ k = 5 by assumption)]) hs2 (by assumption), trivial⟩, rfl⟩)).symm), (by have hb2 := hbu.st (k := k) hX hY; rw [st_is (s := (none, none)) (L := some ((-9 + (j : Int)), (-9 + (j_1 : Int)))) (R := some ((-9 + (j : Int)), (-9 + (j_1 : Int)))) (okU_yes (by unfold mA; first | rw [if_pos (show k = 5 by assumption)] | rw [if_neg (show ¬ k = 5 by assumption)]) lo1 (by assumption) (by assumption) hs1 (by assumption)) (.inl ⟨trivial, rfl⟩) (.inl ⟨⟨vpos (by unfold mA; first | rw [if_pos (show k = 5 by assumption)] | rw [if_neg (show ¬ k = 5 by assumption)]) hs2 (by assumption), trivial⟩, rfl⟩)] at hb2; exact hb2), rfl, rfl⟩
              | exact ⟨_, _, _, _, (none, none), (by rw [rowU, ← hs]; exact (st_no (s := (none, none)) (okU_no1 (by unfold mA; first | rw [if_pos (show k = 5 by assumption)] | rw [if_neg (show ¬ k = 5 by assumption)]) lo1 (by assumption))).symm), (by have hb2 := hbu.st (k := k) hX hY; rw [st_no (s := (none, none)) (okU_no1 (by unfold mA; first | rw [if_pos (show k = 5 by assumption)] | rw [if_neg (show ¬ k = 5 by assumption)]) lo1 (by assumption))] at hb2; exact hb2), rfl, rfl⟩
              | exact ⟨_, _, _, _, (none, none), (by rw [rowU, ← hs]; exact (st_no (s := (none, none)) (okU_no2 (by unfold mA; first | rw [if_pos (show k = 5 by assumption)] | rw [if_neg (show ¬ k = 5 by assumption)]) lo1 (by assumption))).symm), (by have hb2 := hbu.st (k := k) hX hY; rw [st_no (s := (none, none)) (okU_no2 (by unfold mA; first | rw [if_pos (show k = 5 by assumption)] | rw [if_neg (show ¬ k = 5 by assumption)]) lo1 (by assumption))] at hb2; exact hb2), rfl, rfl⟩
              | exact ⟨_, _, _, _, (none, none), (by rw [rowU, ← hs]; exact (st_no (s := (none, none)) (okU_no3 hs1 (by assumption))).symm), (by have hb2 := hbu.st (k := k) hX hY; rw [st_no (s := (none, none)) (okU_no3 hs1 (by assumption))] at hb2; exact hb2), rfl, rfl⟩
          case h28 =>
            first
              | exact ⟨_, _, _, _, (some ((-9 + (j : Int)), (-9 + (j_1 : Int))), none), (by rw [rowU, ← hs]; exact (st_is (s := (none, none)) (L := some ((-9 + (j : Int)), (-9 + (j_1 : Int)))) (R := none) (okU_yes (by unfold mA; first | rw [if_pos (show k = 5 by assumption)] | rw [if_neg (show ¬ k = 5 by assumption)]) lo1 (by assumption) (by assumption) hs1 (by assumption)) (.inl ⟨trivial, rfl⟩) (.inr ⟨fun z => vneg (by unfold mA; first | rw [if_pos (show k = 5 by assumption)] | rw [if_neg (show ¬ k = 5 by assumption)]) hs2 (by assumption) z.1, rfl⟩)).symm), (by have hb2 := hbu.st (k := k) hX hY; rw [st_is (s := (none, none)) (L := some ((-9 + (j : Int)), (-9 + (j_1 : Int)))) (R := none) (okU_yes (by unfold mA; first | rw [if_pos (show k = 5 by assumption)] | rw [if_neg (show ¬ k = 5 by assumption)]) lo1 (by assumption) (by assumption) hs1 (by assumption)) (.inl ⟨trivial, rfl⟩) (.inr ⟨fun z => vneg (by unfold mA; first | rw [if_pos (show k = 5 by assumption)] | rw [if_neg (show ¬ k = 5 by assumption)]) hs2 (by assumption) z.1, rfl⟩)] at hb2; exact hb2), rfl, rfl⟩
              | exact ⟨_, _, _, _, (some ((-9 + (j : Int)), (-9 + (j_1 : Int))), some ((-9 + (j : Int)), (-9 + (j_1 : Int)))), (by rw [rowU, ← hs]; exact (st_is (s := (none, none)) (L := some ((-9 + (j : Int)), (-9 + (j_1 : Int)))) (R := some ((-9 + (j : Int)), (-9 + (j_1 : Int)))) (okU_yes (by unfold mA; first | rw [if_pos (show k = 5 by assumption)] | rw [if_neg (show ¬ k = 5 by assumption)]) lo1 (by assumption) (by assumption) hs1 (by assumption)) (.inl ⟨trivial, rfl⟩) (.inl ⟨⟨vpos (by unfold mA; first | rw [if_pos (show k = 5 by assumption)] | rw [if_neg (show ¬ k = 5 by assumption)]) hs2 (by assumption), trivial⟩, rfl⟩)).symm), (by have hb2 := hbu.st (k := k) hX hY; rw [st_is (s := (none, none)) (L := some ((-9 + (j : Int)), (-9 + (j_1 : Int)))) (R := some ((-9 + (j : Int)), (-9 + (j_1 : Int)))) (okU_yes (by unfold mA; first | rw [if_pos (show k = 5 by assumption)] | rw [if_neg (show ¬ k = 5 by assumption)]) lo1 (by assumption) (by assumption) hs1 (by assumption)) (.inl ⟨trivial, rfl⟩) (.inl ⟨⟨vpos (by unfold mA; first | rw [if_pos (show k = 5 by assumption)] | rw [if_neg (show ¬ k = 5 by assumption)]) hs2 (by assumption), trivial⟩, rfl⟩)] at hb2; exact hb2), rfl, rfl⟩
              | exact ⟨_, _, _, _, (none, none), (by rw [rowU, ← hs]; exact (st_no (s := (none, none)) (okU_no1 (by unfold mA; first | rw [if_pos (show k = 5 by assumption)] | rw [if_neg (show ¬ k = 5 by assumption)]) lo1 (by assumption))).symm), (by have hb2 := hbu.st (k := k) hX hY; rw [st_no (s := (none, none)) (okU_no1 (by unfold mA; first | rw [if_pos (show k = 5 by assumption)] | rw [if_neg (show ¬ k = 5 by assumption)]) lo1 (by assumption))] at hb2; exact hb2), rfl, rfl⟩
              | exact ⟨_, _, _, _, (none, none), (by rw [rowU, ← hs]; exact (st_no (s := (none, none)) (okU_no2 (by unfold mA; first | rw [if_pos (show k = 5 by assumption)] | rw [if_neg (show ¬ k = 5 by assumption)]) lo1 (by assumption))).symm), (by have hb2 := hbu.st (k := k) hX hY; rw [st_no (s := (none, none)) (okU_no2 (by unfold mA; first | rw [if_pos (show k = 5 by assumption)] | rw [if_neg (show ¬ k = 5 by assumption)]) lo1 (by assumption))] at hb2; exact hb2), rfl, rfl⟩
              | exact ⟨_, _, _, _, (none, none), (by rw [rowU, ← hs]; exact (st_no (s := (none, none)) (okU_no3 hs1 (by assumption))).symm), (by have hb2 := hbu.st (k := k) hX hY; rw [st_no (s := (none, none)) (okU_no3 hs1 (by assumption))] at hb2; exact hb2), rfl, rfl⟩
          case h29 =>
            first
              | exact ⟨_, _, _, _, (some ((-9 + (j : Int)), (-9 + (j_1 : Int))), none), (by rw [rowU, ← hs]; exact (st_is (s := (none, none)) (L := some ((-9 + (j : Int)), (-9 + (j_1 : Int)))) (R := none) (okU_yes (by unfold mA; first | rw [if_pos (show k = 5 by assumption)] | rw [if_neg (show ¬ k = 5 by assumption)]) lo1 (by assumption) (by assumption) hs1 (by assumption)) (.inl ⟨trivial, rfl⟩) (.inr ⟨fun z => vneg (by unfold mA; first | rw [if_pos (show k = 5 by assumption)] | rw [if_neg (show ¬ k = 5 by assumption)]) hs2 (by assumption) z.1, rfl⟩)).symm), (by have hb2 := hbu.st (k := k) hX hY; rw [st_is (s := (none, none)) (L := some ((-9 + (j : Int)), (-9 + (j_1 : Int)))) (R := none) (okU_yes (by unfold mA; first | rw [if_pos (show k = 5 by assumption)] | rw [if_neg (show ¬ k = 5 by assumption)]) lo1 (by assumption) (by assumption) hs1 (by assumption)) (.inl ⟨trivial, rfl⟩) (.inr ⟨fun z => vneg (by unfold mA; first | rw [if_pos (show k = 5 by assumption)] | rw [if_neg (show ¬ k = 5 by assumption)]) hs2 (by assumption) z.1, rfl⟩)] at hb2; exact hb2), rfl, rfl⟩
              | exact ⟨_, _, _, _, (some ((-9 + (j : Int)), (-9 + (j_1 : Int))), some ((-9 + (j : Int)), (-9 + (j_1 : Int)))), (by rw [rowU, ← hs]; exact (st_is (s := (none, none)) (L := some ((-9 + (j : Int)), (-9 + (j_1 : Int)))) (R := some ((-9 + (j : Int)), (-9 + (j_1 : Int)))) (okU_yes (by unfold mA; first | rw [if_pos (show k = 5 by assumption)] | rw [if_neg (show ¬ k = 5 by assumption)]) lo1 (by assumption) (by assumption) hs1 (by assumption)) (.inl ⟨trivial, rfl⟩) (.inl ⟨⟨vpos (by unfold mA; first | rw [if_pos (show k = 5 by assumption)] | rw [if_neg (show ¬ k = 5 by assumption)]) hs2 (by assumption), trivial⟩, rfl⟩)).symm), (by have hb2 := hbu.st (k := k) hX hY; rw [st_is (s := (none, none)) (L := some ((-9 + (j : Int)), (-9 + (j_1 : Int)))) (R := some ((-9 + (j : Int)), (-9 + (j_1 : Int)))) (okU_yes (by unfold mA; first | rw [if_pos (show k = 5 by assumption)] | rw [if_neg (show ¬ k = 5 by assumption)]) lo1 (by assumption) (by assumption) hs1 (by assumption)) (.inl ⟨trivial, rfl⟩) (.inl ⟨⟨vpos (by unfold mA; first | rw [if_pos (show k = 5 by assumption)] | rw [if_neg (show ¬ k = 5 by assumption)]) hs2 (by assumption), trivial⟩, rfl⟩)] at hb2; exact hb2), rfl, rfl⟩
              | exact ⟨_, _, _, _, (none, none), (by rw [rowU, ← hs]; exact (st_no (s := (none, none)) (okU_no1 (by unfold mA; first | rw [if_pos (show k = 5 by assumption)] | rw [if_neg (show ¬ k = 5 by assumption)]) lo1 (by assumption))).symm), (by have hb2 := hbu.st (k := k) hX hY; rw [st_no (s := (none, none)) (okU_no1 (by unfold mA; first | rw [if_pos (show k = 5 by assumption)] | rw [if_neg (show ¬ k = 5 by assumption)]) lo1 (by assumption))] at hb2; exact hb2), rfl, rfl⟩
              | exact ⟨_, _, _, _, (none, none), (by rw [rowU, ← hs]; exact (st_no (s := (none, none)) (okU_no2 (by unfold mA; first | rw [if_pos (show k = 5 by assumption)] | rw [if_neg (show ¬ k = 5 by assumption)]) lo1 (by assumption))).symm), (by have hb2 := hbu.st (k := k) hX hY; rw [st_no (s := (none, none)) (okU_no2 (by unfold mA; first | rw [if_pos (show k = 5 by assumption)] | rw [if_neg (show ¬ k = 5 by assumption)]) lo1 (by assumption))] at hb2; exact hb2), rfl, rfl⟩
              | exact ⟨_, _, _, _, (none, none), (by rw [rowU, ← hs]; exact (st_no (s := (none, none)) (okU_no3 hs1 (by assumption))).symm), (by have hb2 := hbu.st (k := k) hX hY; rw [st_no (s := (none, none)) (okU_no3 hs1 (by assumption))] at hb2; exact hb2), rfl, rfl⟩
        ·
          refine (as_par (i := 5) (j := 6) ?h30 rfl (ca_cons (c_tup (ca_cons (nm 3 rfl (ca_cons (nm 4 rfl (ca_cons (c_int (ca_nil (And.intro (And.intro rfl (Nat.le_of_ble_eq_true rfl)) (ca_cons (c_if (t_eqI (nm 0 rfl (c_int (And.intro (fun b10 => (c_tup (ca_cons (c_add (nm 3 rfl (nm 4 rfl (ca_cons (c_neg (nm 4 rfl (ca_cons (c_int (ca_nil (And.intro (And.intro rfl (Nat.le_of_ble_eq_true rfl)) (ca_nil ⟨_, _, rfl, (as_asg (i := 7) ?h31 (c_call c__law_times (hr.mono (by decide)) (ca_cons (nm 0 rfl (ca_cons (nm 5 rfl (ca_cons (nm 6 rfl (ca_nil ⟨_, _, _, _, _, _, _, 12, 12, rfl, ?h32, fun x1 y1 z1 lo1 nm1 hx1 hy1 hz1 => And.intro rfl (as_ifn (t_w (w_and (t_eqI (c_abs m_abs (ca_cons (c_ixTn (nm 7 rfl (c_int (And.intro (by decide) (ca_nil (c_int (And.intro (fun b11 => (w_and (t_eqI (c_ixTn (nm 7 rfl (c_int (And.intro (by decide) (c_int (And.intro (fun b12 => (w_and1 (t_gt (c_call c__law_sign (hr.mono (by decide)) (ca_cons (nm 0 rfl (ca_cons (c_tup (ca_cons (c_sub (nm 3 rfl (c_int (ca_cons (nm 4 rfl (ca_cons (c_int (ca_nil (And.intro (And.intro rfl (Nat.le_of_ble_eq_true rfl)) (ca_nil ⟨_, _, _, _, rfl, ?h33, fun s1 hs1 => And.intro rfl (c_int (And.intro (fun b13 => (as_ifn (t_w (w_or (t_isN (nm 1 rfl (as_asg (i := 1) ?h34 (nm 5 rfl (as_go (as_ifn (t_w (w_and (t_gt (c_call c__law_sign (hr.mono (by decide)) (ca_cons (nm 0 rfl (ca_cons (nm 6 rfl (ca_nil ⟨_, _, _, _, rfl, ?h35, fun s2 hs2 => And.intro rfl (c_int (And.intro (fun b14 => (w_and1 (t_w (w_or (t_isN (nm 2 rfl (w_or1 (t_lt (c_call c__law_sign (hr.mono (by decide)) (ca_cons (nm 0 rfl (ca_cons (c_call c__law_minus (hr.mono (by decide)) (ca_cons (nm 5 rfl (ca_cons (nm 2 rfl (ca_nil ⟨_, _, _, _, _, _, 12, 12, rfl, ?h36, fun x2 y2 z2 lo2 nm2 hx2 hy2 hz2 => And.intro rfl (ca_nil ⟨_, _, _, _, rfl, ?h37, fun s3 hs3 => And.intro rfl (c_int (And.intro (fun b15 => (as_asg (i := 2) ?h38 (nm 5 rfl (as_go (as_go (as_end rfl ?h39)))))) (fun b15 => (as_go (as_end rfl ?h40)))))⟩)⟩)))))))))))))))))) (fun b14 => (as_go (as_end rfl ?h41)))))⟩))))))))))))))))))) (fun b13 => (as_end rfl ?h42))))⟩))))))))))))))))))) (fun b12 => (as_end rfl ?h43))))))))))) (fun b11 => (as_end rfl ?h44)))))))))))))))⟩)))))))))⟩)))))))))))))) (fun b10 => (c_tup (ca_cons (nm 3 rfl (ca_cons (c_neg (nm 4 rfl (ca_cons (c_int (ca_nil (And.intro (And.intro rfl (Nat.le_of_ble_eq_true rfl)) (ca_nil ⟨_, _, rfl, (as_asg (i := 7) ?h45 (c_call c__law_times (hr.mono (by decide)) (ca_cons (nm 0 rfl (ca_cons (nm 5 rfl (ca_cons (nm 6 rfl (ca_nil ⟨_, _, _, _, _, _, _, 12, 12, rfl, ?h46, fun x1 y1 z1 lo1 nm1 hx1 hy1 hz1 => And.intro rfl (as_ifn (t_w (w_and (t_eqI (c_abs m_abs (ca_cons (c_ixTn (nm 7 rfl (c_int (And.intro (by decide) (ca_nil (c_int (And.intro (fun b16 => (w_and (t_eqI (c_ixTn (nm 7 rfl (c_int (And.intro (by decide) (c_int (And.intro (fun b17 => (w_and1 (t_gt (c_call c__law_sign (hr.mono (by decide)) (ca_cons (nm 0 rfl (ca_cons (c_tup (ca_cons (c_sub (nm 3 rfl (c_int (ca_cons (nm 4 rfl (ca_cons (c_int (ca_nil (And.intro (And.intro rfl (Nat.le_of_ble_eq_true rfl)) (ca_nil ⟨_, _, _, _, rfl, ?h47, fun s1 hs1 => And.intro rfl (c_int (And.intro (fun b18 => (as_ifn (t_w (w_or (t_isN (nm 1 rfl (as_asg (i := 1) ?h48 (nm 5 rfl (as_go (as_ifn (t_w (w_and (t_gt (c_call c__law_sign (hr.mono (by decide)) (ca_cons (nm 0 rfl (ca_cons (nm 6 rfl (ca_nil ⟨_, _, _, _, rfl, ?h49, fun s2 hs2 => And.intro rfl (c_int (And.intro (fun b19 => (w_and1 (t_w (w_or (t_isN (nm 2 rfl (w_or1 (t_lt (c_call c__law_sign (hr.mono (by decide)) (ca_cons (nm 0 rfl (ca_cons (c_call c__law_minus (hr.mono (by decide)) (ca_cons (nm 5 rfl (ca_cons (nm 2 rfl (ca_nil ⟨_, _, _, _, _, _, 12, 12, rfl, ?h50, fun x2 y2 z2 lo2 nm2 hx2 hy2 hz2 => And.intro rfl (ca_nil ⟨_, _, _, _, rfl, ?h51, fun s3 hs3 => And.intro rfl (c_int (And.intro (fun b20 => (as_asg (i := 2) ?h52 (nm 5 rfl (as_go (as_go (as_end rfl ?h53)))))) (fun b20 => (as_go (as_end rfl ?h54)))))⟩)⟩)))))))))))))))))) (fun b19 => (as_go (as_end rfl ?h55)))))⟩))))))))))))))))))) (fun b18 => (as_end rfl ?h56))))⟩))))))))))))))))))) (fun b17 => (as_end rfl ?h57))))))))))) (fun b16 => (as_end rfl ?h58)))))))))))))))⟩)))))))))⟩)))))))))))))))))))))))))))))
          case h30 =>
            exact sc__law_units.nd
          case h31 =>
            exact sc__law_units.nd
          case h32 =>
            exact ⟨hk, by decide, by decide, bd_s (by omega) (by decide), bd_s (by omega) (by decide), bd_s (by decide) (by decide), bd_s (by omega) (by decide), bd_s (by omega) (by decide), bd_s (by decide) (by decide), by decide⟩
          case h33 =>
            first | exact ⟨hk, bd_s (by omega) (by decide), bd_s (by omega) (by decide)⟩ | exact ⟨hk, hx2.mono (by decide), hy2.mono (by decide)⟩ | exact ⟨hk, hx3.mono (by decide), hy3.mono (by decide)⟩
          case h34 =>
            exact sc__law_units.nd
          case h35 =>
            first | exact ⟨hk, bd_s (by omega) (by decide), bd_s (by omega) (by decide)⟩ | exact ⟨hk, hx2.mono (by decide), hy2.mono (by decide)⟩ | exact ⟨hk, hx3.mono (by decide), hy3.mono (by decide)⟩
          case h36 =>
            first | exact ⟨by decide, by decide, bd_s (by omega) (by decide), bd_s (by omega) (by decide), bd_s (by decide) (by decide), (hbu.1 _ rfl).1, (hbu.1 _ rfl).2, bd_s (by decide) (by decide), by decide⟩ | exact ⟨by decide, by decide, bd_s (by omega) (by decide), bd_s (by omega) (by decide), bd_s (by decide) (by decide), (hbu.2 _ rfl).1, (hbu.2 _ rfl).2, bd_s (by decide) (by decide), by decide⟩
          case h37 =>
            first | exact ⟨hk, bd_s (by omega) (by decide), bd_s (by omega) (by decide)⟩ | exact ⟨hk, hx2.mono (by decide), hy2.mono (by decide)⟩ | exact ⟨hk, hx3.mono (by decide), hy3.mono (by decide)⟩
          case h38 =>
            exact sc__law_units.nd
          case h39 =>
            first
              | exact ⟨_, _, _, _, (some ((-9 + (j : Int)), (-9 + (j_1 : Int))), some (r1, r2)), (by rw [rowU, ← hs]; exact (st_is (s := (none, some (r1, r2))) (L := some ((-9 + (j : Int)), (-9 + (j_1 : Int)))) (R := some (r1, r2)) (okU_yes (by unfold mA; first | rw [if_pos (show k = 5 by assumption)] | rw [if_neg (show ¬ k = 5 by assumption)]) lo1 (by assumption) (by assumption) hs1 (by assumption)) (.inl ⟨trivial, rfl⟩) (.inr ⟨fun z => vneg (by unfold mA; first | rw [if_pos (show k = 5 by assumption)] | rw [if_neg (show ¬ k = 5 by assumption)]) hs2 (by assumption) z.1, rfl⟩)).symm), (by have hb2 := hbu.st (k := k) hX hY; rw [st_is (s := (none, some (r1, r2))) (L := some ((-9 + (j : Int)), (-9 + (j_1 : Int)))) (R := some (r1, r2)) (okU_yes (by unfold mA; first | rw [if_pos (show k = 5 by assumption)] | rw [if_neg (show ¬ k = 5 by assumption)]) lo1 (by assumption) (by assumption) hs1 (by assumption)) (.inl ⟨trivial, rfl⟩) (.inr ⟨fun z => vneg (by unfold mA; first | rw [if_pos (show k = 5 by assumption)] | rw [if_neg (show ¬ k = 5 by assumption)]) hs2 (by assumption) z.1, rfl⟩)] at hb2; exact hb2), rfl, rfl⟩
              | exact ⟨_, _, _, _, (some ((-9 + (j : Int)), (-9 + (j_1 : Int))), some ((-9 + (j : Int)), (-9 + (j_1 : Int)))), (by rw [rowU, ← hs]; exact (st_is (s := (none, some (r1, r2))) (L := some ((-9 + (j : Int)), (-9 + (j_1 : Int)))) (R := some ((-9 + (j : Int)), (-9 + (j_1 : Int)))) (okU_yes (by unfold mA; first | rw [if_pos (show k = 5 by assumption)] | rw [if_neg (show ¬ k = 5 by assumption)]) lo1 (by assumption) (by assumption) hs1 (by assumption)) (.inl ⟨trivial, rfl⟩) (.inl ⟨⟨vpos (by unfold mA; first | rw [if_pos (show k = 5 by assumption)] | rw [if_neg (show ¬ k = 5 by assumption)]) hs2 (by assumption), lsU_t lo2 hs3 (by assumption)⟩, rfl⟩)).symm), (by have hb2 := hbu.st (k := k) hX hY; rw [st_is (s := (none, some (r1, r2))) (L := some ((-9 + (j : Int)), (-9 + (j_1 : Int)))) (R := some ((-9 + (j : Int)), (-9 + (j_1 : Int)))) (okU_yes (by unfold mA; first | rw [if_pos (show k = 5 by assumption)] | rw [if_neg (show ¬ k = 5 by assumption)]) lo1 (by assumption) (by assumption) hs1 (by assumption)) (.inl ⟨trivial, rfl⟩) (.inl ⟨⟨vpos (by unfold mA; first | rw [if_pos (show k = 5 by assumption)] | rw [if_neg (show ¬ k = 5 by assumption)]) hs2 (by assumption), lsU_t lo2 hs3 (by assumption)⟩, rfl⟩)] at hb2; exact hb2), rfl, rfl⟩
              | exact ⟨_, _, _, _, (some ((-9 + (j : Int)), (-9 + (j_1 : Int))), some (r1, r2)), (by rw [rowU, ← hs]; exact (st_is (s := (none, some (r1, r2))) (L := some ((-9 + (j : Int)), (-9 + (j_1 : Int)))) (R := some (r1, r2)) (okU_yes (by unfold mA; first | rw [if_pos (show k = 5 by assumption)] | rw [if_neg (show ¬ k = 5 by assumption)]) lo1 (by assumption) (by assumption) hs1 (by assumption)) (.inl ⟨trivial, rfl⟩) (.inr ⟨fun z => lsU_f lo2 hs3 (by assumption) z.2, rfl⟩)).symm), (by have hb2 := hbu.st (k := k) hX hY; rw [st_is (s := (none, some (r1, r2))) (L := some ((-9 + (j : Int)), (-9 + (j_1 : Int)))) (R := some (r1, r2)) (okU_yes (by unfold mA; first | rw [if_pos (show k = 5 by assumption)] | rw [if_neg (show ¬ k = 5 by assumption)]) lo1 (by assumption) (by assumption) hs1 (by assumption)) (.inl ⟨trivial, rfl⟩) (.inr ⟨fun z => lsU_f lo2 hs3 (by assumption) z.2, rfl⟩)] at hb2; exact hb2), rfl, rfl⟩
              | exact ⟨_, _, _, _, (none, some (r1, r2)), (by rw [rowU, ← hs]; exact (st_no (s := (none, some (r1, r2))) (okU_no1 (by unfold mA; first | rw [if_pos (show k = 5 by assumption)] | rw [if_neg (show ¬ k = 5 by assumption)]) lo1 (by assumption))).symm), (by have hb2 := hbu.st (k := k) hX hY; rw [st_no (s := (none, some (r1, r2))) (okU_no1 (by unfold mA; first | rw [if_pos (show k = 5 by assumption)] | rw [if_neg (show ¬ k = 5 by assumption)]) lo1 (by assumption))] at hb2; exact hb2), rfl, rfl⟩
              | exact ⟨_, _, _, _, (none, some (r1, r2)), (by rw [rowU, ← hs]; exact (st_no (s := (none, some (r1, r2))) (okU_no2 (by unfold mA; first | rw [if_pos (show k = 5 by assumption)] | rw [if_neg (show ¬ k = 5 by assumption)]) lo1 (by assumption))).symm), (by have hb2 := hbu.st (k := k) hX hY; rw [st_no (s := (none, some (r1, r2))) (okU_no2 (by unfold mA; first | rw [if_pos (show k = 5 by assumption)] | rw [if_neg (show ¬ k = 5 by assumption)]) lo1 (by assumption))] at hb2; exact hb2), rfl, rfl⟩
              | exact ⟨_, _, _, _, (none, some (r1, r2)), (by rw [rowU, ← hs]; exact (st_no (s := (none, some (r1, r2))) (okU_no3 hs1 (by assumption))).symm), (by have hb2 := hbu.st (k := k) hX hY; rw [st_no (s := (none, some (r1, r2))) (okU_no3 hs1 (by assumption))] at hb2; exact hb2), rfl, rfl⟩
          case h40 =>
            first
              | exact ⟨_, _, _, _, (some ((-9 + (j : Int)), (-9 + (j_1 : Int))), some (r1, r2)), (by rw [rowU, ← hs]; exact (st_is (s := (none, some (r1, r2))) (L := some ((-9 + (j : Int)), (-9 + (j_1 : Int)))) (R := some (r1, r2)) (okU_yes (by unfold mA; first | rw [if_pos (show k = 5 by assumption)] | rw [if_neg (show ¬ k = 5 by assumption)]) lo1 (by assumption) (by assumption) hs1 (by assumption)) (.inl ⟨trivial, rfl⟩) (.inr ⟨fun z => vneg (by unfold mA; first | rw [if_pos (show k = 5 by assumption)] | rw [if_neg (show ¬ k = 5 by assumption)]) hs2 (by assumption) z.1, rfl⟩)).symm), (by have hb2 := hbu.st (k := k) hX hY; rw [st_is (s := (none, some (r1, r2))) (L := some ((-9 + (j : Int)), (-9 + (j_1 : Int)))) (R := some (r1, r2)) (okU_yes (by unfold mA; first | rw [if_pos (show k = 5 by assumption)] | rw [if_neg (show ¬ k = 5 by assumption)]) lo1 (by assumption) (by assumption) hs1 (by assumption)) (.inl ⟨trivial, rfl⟩) (.inr ⟨fun z => vneg (by unfold mA; first | rw [if_pos (show k = 5 by assumption)] | rw [if_neg (show ¬ k = 5 by assumption)]) hs2 (by assumption) z.1, rfl⟩)] at hb2; exact hb2), rfl, rfl⟩
              | exact ⟨_, _, _, _, (some ((-9 + (j : Int)), (-9 + (j_1 : Int))), some ((-9 + (j : Int)), (-9 + (j_1 : Int)))), (by rw [rowU, ← hs]; exact (st_is (s := (none, some (r1, r2))) (L := some ((-9 + (j : Int)), (-9 + (j_1 : Int)))) (R := some ((-9 + (j : Int)), (-9 + (j_1 : Int)))) (okU_yes (by unfold mA; first | rw [if_pos (show k = 5 by assumption)] | rw [if_neg (show ¬ k = 5 by assumption)]) lo1 (by assumption) (by assumption) hs1 (by assumption)) (.inl ⟨trivial, rfl⟩) (.inl ⟨⟨vpos (by unfold mA; first | rw [if_pos (show k = 5 by assumption)] | rw [if_neg (show ¬ k = 5 by assumption)]) hs2 (by assumption), lsU_t lo2 hs3 (by assumption)⟩, rfl⟩)).symm), (by have hb2 := hbu.st (k := k) hX hY; rw [st_is (s := (none, some (r1, r2))) (L := some ((-9 + (j : Int)), (-9 + (j_1 : Int)))) (R := some ((-9 + (j : Int)), (-9 + (j_1 : Int)))) (okU_yes (by unfold mA; first | rw [if_pos (show k = 5 by assumption)] | rw [if_neg (show ¬ k = 5 by assumption)]) lo1 (by assumption) (by assumption) hs1 (by assumption)) (.inl ⟨trivial, rfl⟩) (.inl ⟨⟨vpos (by unfold mA; first | rw [if_pos (show k = 5 by assumption)] | rw [if_neg (show ¬ k = 5 by assumption)]) hs2 (by assumption), lsU_t lo2 hs3 (by assumption)⟩, rfl⟩)] at hb2; exact hb2), rfl, rfl⟩
              | exact ⟨_, _, _, _, (some ((-9 + (j : Int)), (-9 + (j_1 : Int))), some (r1, r2)), (by rw [rowU, ← hs]; exact (st_is (s := (none, some (r1, r2))) (L := some ((-9 + (j : Int)), (-9 + (j_1 : Int)))) (R := some (r1, r2)) (okU_yes (by unfold mA; first | rw [if_pos (show k = 5 by assumption)] | rw [if_neg (show ¬ k = 5 by assumption)]) lo1 (by assumption) (by assumption) hs1 (by assumption)) (.inl ⟨trivial, rfl⟩) (.inr ⟨fun z => lsU_f lo2 hs3 (by assumption) z.2, rfl⟩)).symm), (by have hb2 := hbu.st (k := k) hX hY; rw [st_is (s := (none, some (r1, r2))) (L := some ((-9 + (j : Int)), (-9 + (j_1 : Int)))) (R := some (r1, r2)) (okU_yes (by unfold mA; first | rw [if_pos (show k = 5 by assumption)] | rw [if_neg (show ¬ k = 5 by assumption)]) lo1 (by assumption) (by assumption) hs1 (by assumption)) (.inl ⟨trivial, rfl⟩) (.inr ⟨fun z => lsU_f lo2 hs3 (by assumption) z.2, rfl⟩)] at hb2; exact hb2), rfl, rfl⟩
              | exact ⟨_, _, _, _, (none, some (r1, r2)), (by rw [rowU, ← hs]; exact (st_no (s := (none, some (r1, r2))) (okU_no1 (by unfold mA; first | rw [if_pos (show k = 5 by assumption)] | rw [if_neg (show ¬ k = 5 by assumption)]) lo1 (by assumption))).symm), (by have hb2 := hbu.st (k := k) hX hY; rw [st_no (s := (none, some (r1, r2))) (okU_no1 (by unfold mA; first | rw [if_pos (show k = 5 by assumption)] | rw [if_neg (show ¬ k = 5 by assumption)]) lo1 (by assumption))] at hb2; exact hb2), rfl, rfl⟩
              | exact ⟨_, _, _, _, (none, some (r1, r2)), (by rw [rowU, ← hs]; exact (st_no (s := (none, some (r1, r2))) (okU_no2 (by unfold mA; first | rw [if_pos (show k = 5 by assumption)] | rw [if_neg (show ¬ k = 5 by assumption)]) lo1 (by assumption))).symm), (by have hb2 := hbu.st (k := k) hX hY; rw [st_no (s := (none, some (r1, r2))) (okU_no2 (by unfold mA; first | rw [if_pos (show k = 5 by assumption)] | rw [if_neg (show ¬ k = 5 by assumption)]) lo1 (by assumption))] at hb2; exact hb2), rfl, rfl⟩
              | exact ⟨_, _, _, _, (none, some (r1, r2)), (by rw [rowU, ← hs]; exact (st_no (s := (none, some (r1, r2))) (okU_no3 hs1 (by assumption))).symm), (by have hb2 := hbu.st (k := k) hX hY; rw [st_no (s := (none, some (r1, r2))) (okU_no3 hs1 (by assumption))] at hb2; exact hb2), rfl, rfl⟩
          case h41 =>
            first
              | exact ⟨_, _, _, _, (some ((-9 + (j : Int)), (-9 + (j_1 : Int))), some (r1, r2)), (by rw [rowU, ← hs]; exact (st_is (s := (none, some (r1, r2))) (L := some ((-9 + (j : Int)), (-9 + (j_1 : Int)))) (R := some (r1, r2)) (okU_yes (by unfold mA; first | rw [if_pos (show k = 5 by assumption)] | rw [if_neg (show ¬ k = 5 by assumption)]) lo1 (by assumption) (by assumption) hs1 (by assumption)) (.inl ⟨trivial, rfl⟩) (.inr ⟨fun z => vneg (by unfold mA; first | rw [if_pos (show k = 5 by assumption)] | rw [if_neg (show ¬ k = 5 by assumption)]) hs2 (by assumption) z.1, rfl⟩)).symm), (by have hb2 := hbu.st (k := k) hX hY; rw [st_is (s := (none, some (r1, r2))) (L := some ((-9 + (j : Int)), (-9 + (j_1 : Int)))) (R := some (r1, r2)) (okU_yes (by unfold mA; first | rw [if_pos (show k = 5 by assumption)] | rw [if_neg (show ¬ k = 5 by assumption)]) lo1 (by assumption) (by assumption) hs1 (by assumption)) (.inl ⟨trivial, rfl⟩) (.inr ⟨fun z => vneg (by unfold mA; first | rw [if_pos (show k = 5 by assumption)] | rw [if_neg (show ¬ k = 5 by assumption)]) hs2 (by assumption) z.1, rfl⟩)] at hb2; exact hb2), rfl, rfl⟩
              | exact ⟨_, _, _, _, (some ((-9 + (j : Int)), (-9 + (j_1 : Int))), some ((-9 + (j : Int)), (-9 + (j_1 : Int)))), (by rw [rowU, ← hs]; exact (st_is (s := (none, some (r1, r2))) (L := some ((-9 + (j : Int)), (-9 + (j_1 : Int)))) (R := some ((-9 + (j : Int)), (-9 + (j_1 : Int)))) (okU_yes (by unfold mA; first | rw [if_pos (show k = 5 by assumption)] | rw [if_neg (show ¬ k = 5 by assumption)]) lo1 (by assumption) (by assumption) hs1 (by assumption)) (.inl ⟨trivial, rfl⟩) (.inl ⟨⟨vpos (by unfold mA; first | rw [if_pos (show k = 5 by assumption)] | rw [if_neg (show ¬ k = 5 by assumption)]) hs2 (by assumption), lsU_t lo2 hs3 (by assumption)⟩, rfl⟩)).symm), (by have hb2 := hbu.st (k := k) hX hY; rw [st_is (s := (none, some (r1, r2))) (L := some ((-9 + (j : Int)), (-9 + (j_1 : Int)))) (R := some ((-9 + (j : Int)), (-9 + (j_1 : Int)))) (okU_yes (by unfold mA; first | rw [if_pos (show k = 5 by assumption)] | rw [if_neg (show ¬ k = 5 by assumption)]) lo1 (by assumption) (by assumption) hs1 (by assumption)) (.inl ⟨trivial, rfl⟩) (.inl ⟨⟨vpos (by unfold mA; first | rw [if_pos (show k = 5 by assumption)] | rw [if_neg (show ¬ k = 5 by assumption)]) hs2 (by assumption), lsU_t lo2 hs3 (by assumption)⟩, rfl⟩)] at hb2; exact hb2), rfl, rfl⟩
              | exact ⟨_, _, _, _, (some ((-9 + (j : Int)), (-9 + (j_1 : Int))), some (r1, r2)), (by rw [rowU, ← hs]; exact (st_is (s := (none, some (r1, r2))) (L := some ((-9 + (j : Int)), (-9 + (j_1 : Int)))) (R := some (r1, r2)) (okU_yes (by unfold mA; first | rw [if_pos (show k = 5 by assumption)] | rw [if_neg (show ¬ k = 5 by assumption)]) lo1 (by assumption) (by assumption) hs1 (by assumption)) (.inl ⟨trivial, rfl⟩) (.inr ⟨fun z => lsU_f lo2 hs3 (by assumption) z.2, rfl⟩)).symm), (by have hb2 := hbu.st (k := k) hX hY; rw [st_is (s := (none, some (r1, r2))) (L := some ((-9 + (j : Int)), (-9 + (j_1 : Int)))) (R := some (r1, r2)) (okU_yes (by unfold mA; first | rw [if_pos (show k = 5 by assumption)] | rw [if_neg (show ¬ k = 5 by assumption)]) lo1 (by assumption) (by assumption) hs1 (by assumption)) (.inl ⟨trivial, rfl⟩) (.inr ⟨fun z => lsU_f lo2 hs3 (by assumption) z.2, rfl⟩)] at hb2; exact hb2), rfl, rfl⟩
              | exact ⟨_, _, _, _, (none, some (r1, r2)), (by rw [rowU, ← hs]; exact (st_no (s := (none, some (r1, r2))) (okU_no1 (by unfold mA; first | rw [if_pos (show k = 5 by assumption)] | rw [if_neg (show ¬ k = 5 by assumption)]) lo1 (by assumption))).symm), (by have hb2 := hbu.st (k := k) hX hY; rw [st_no (s := (none, some (r1, r2))) (okU_no1 (by unfold mA; first | rw [if_pos (show k = 5 by assumption)] | rw [if_neg (show ¬ k = 5 by assumption)]) lo1 (by assumption))] at hb2; exact hb2), rfl, rfl⟩
              | exact ⟨_, _, _, _, (none, some (r1, r2)), (by rw [rowU, ← hs]; exact (st_no (s := (none, some (r1, r2))) (okU_no2 (by unfold mA; first | rw [if_pos (show k = 5 by assumption)] | rw [if_neg (show ¬ k = 5 by assumption)]) lo1 (by assumption))).symm), (by have hb2 := hbu.st (k := k) hX hY; rw [st_no (s := (none, some (r1, r2))) (okU_no2 (by unfold mA; first | rw [if_pos (show k = 5 by assumption)] | rw [if_neg (show ¬ k = 5 by assumption)]) lo1 (by assumption))] at hb2; exact hb2), rfl, rfl⟩
              | exact ⟨_, _, _, _, (none, some (r1, r2)), (by rw [rowU, ← hs]; exact (st_no (s := (none, some (r1, r2))) (okU_no3 hs1 (by assumption))).symm), (by have hb2 := hbu.st (k := k) hX hY; rw [st_no (s := (none, some (r1, r2))) (okU_no3 hs1 (by assumption))] at hb2; exact hb2), rfl, rfl⟩
          case h42 =>
            first
              | exact ⟨_, _, _, _, (some ((-9 + (j : Int)), (-9 + (j_1 : Int))), some (r1, r2)), (by rw [rowU, ← hs]; exact (st_is (s := (none, some (r1, r2))) (L := some ((-9 + (j : Int)), (-9 + (j_1 : Int)))) (R := some (r1, r2)) (okU_yes (by unfold mA; first | rw [if_pos (show k = 5 by assumption)] | rw [if_neg (show ¬ k = 5 by assumption)]) lo1 (by assumption) (by assumption) hs1 (by assumption)) (.inl ⟨trivial, rfl⟩) (.inr ⟨fun z => vneg (by unfold mA; first | rw [if_pos (show k = 5 by assumption)] | rw [if_neg (show ¬ k = 5 by assumption)]) hs2 (by assumption) z.1, rfl⟩)).symm), (by have hb2 := hbu.st (k := k) hX hY; rw [st_is (s := (none, some (r1, r2))) (L := some ((-9 + (j : Int)), (-9 + (j_1 : Int)))) (R := some (r1, r2)) (okU_yes (by unfold mA; first | rw [if_pos (show k = 5 by assumption)] | rw [if_neg (show ¬ k = 5 by assumption)]) lo1 (by assumption) (by assumption) hs1 (by assumption)) (.inl ⟨trivial, rfl⟩) (.inr ⟨fun z => vneg (by unfold mA; first | rw [if_pos (show k = 5 by assumption)] | rw [if_neg (show ¬ k = 5 by assumption)]) hs2 (by assumption) z.1, rfl⟩)] at hb2; exact hb2), rfl, rfl⟩
              | exact ⟨_, _, _, _, (some ((-9 + (j : Int)), (-9 + (j_1 : Int))), some ((-9 + (j : Int)), (-9 + (j_1 : Int)))), (by rw [rowU, ← hs]; exact (st_is (s := (none, some (r1, r2))) (L := some ((-9 + (j : Int)), (-9 + (j_1 : Int)))) (R := some ((-9 + (j : Int)), (-9 + (j_1 : Int)))) (okU_yes (by unfold mA; first | rw [if_pos (show k = 5 by assumption)] | rw [if_neg (show ¬ k = 5 by assumption)]) lo1 (by assumption) (by assumption) hs1 (by assumption)) (.inl ⟨trivial, rfl⟩) (.inl ⟨⟨vpos (by unfold mA; first | rw [if_pos (show k = 5 by assumption)] | rw [if_neg (show ¬ k = 5 by assumption)]) hs2 (by assumption), lsU_t lo2 hs3 (by assumption)⟩, rfl⟩)).symm), (by have hb2 := hbu.st (k := k) hX hY; rw [st_is (s := (none, some (r1, r2))) (L := some ((-9 + (j : Int)), (-9 + (j_1 : Int)))) (R := some ((-9 + (j : Int)), (-9 + (j_1 : Int)))) (okU_yes (by unfold mA; first | rw [if_pos (show k = 5 by assumption)] | rw [if_neg (show ¬ k = 5 by assumption)]) lo1 (by assumption) (by assumption) hs1 (by assumption)) (.inl ⟨trivial, rfl⟩) (.inl ⟨⟨vpos (by unfold mA; first | rw [if_pos (show k = 5 by assumption)] | rw [if_neg (show ¬ k = 5 by assumption)]) hs2 (by assumption), lsU_t lo2 hs3 (by assumption)⟩, rfl⟩)] at hb2; exact hb2), rfl, rfl⟩
              | exact ⟨_, _, _, _, (some ((-9 + (j : Int)), (-9 + (j_1 : Int))), some (r1, r2)), (by rw [rowU, ← hs]; exact (st_is (s := (none, some (r1, r2))) (L := some ((-9 + (j : Int)), (-9 + (j_1 : Int)))) (R := some (r1, r2)) (okU_yes (by unfold mA; first | rw [if_pos (show k = 5 by assumption)] | rw [if_neg (show ¬ k = 5 by assumption)]) lo1 (by assumption) (by assumption) hs1 (by assumption)) (.inl ⟨trivial, rfl⟩) (.inr ⟨fun z => lsU_f lo2 hs3 (by assumption) z.2, rfl⟩)).symm), (by have hb2 := hbu.st (k := k) hX hY; rw [st_is (s := (none, some (r1, r2))) (L := some ((-9 + (j : Int)), (-9 + (j_1 : Int)))) (R := some (r1, r2)) (okU_yes (by unfold mA; first | rw [if_pos (show k = 5 by assumption)] | rw [if_neg (show ¬ k = 5 by assumption)]) lo1 (by assumption) (by assumption) hs1 (by assumption)) (.inl ⟨trivial, rfl⟩) (.inr ⟨fun z => lsU_f lo2 hs3 (by assumption) z.2, rfl⟩)] at hb2; exact hb2), rfl, rfl⟩
              | exact ⟨_, _, _, _, (none, some (r1, r2)), (by rw [rowU, ← hs]; exact (st_no (s := (none, some (r1, r2))) (okU_no1 (by unfold mA; first | rw [if_pos (show k = 5 by assumption)] | rw [if_neg (show ¬ k = 5 by assumption)]) lo1 (by assumption))).symm), (by have hb2 := hbu.st (k := k) hX hY; rw [st_no (s := (none, some (r1, r2))) (okU_no1 (by unfold mA; first | rw [if_pos (show k = 5 by assumption)] | rw [if_neg (show ¬ k = 5 by assumption)]) lo1 (by assumption))] at hb2; exact hb2), rfl, rfl⟩
              | exact ⟨_, _, _, _, (none, some (r1, r2)), (by rw [rowU, ← hs]; exact (st_no (s := (none, some (r1, r2))) (okU_no2 (by unfold mA; first | rw [if_pos (show k = 5 by assumption)] | rw [if_neg (show ¬ k = 5 by assumption)]) lo1 (by assumption))).symm), (by have hb2 := hbu.st (k := k) hX hY; rw [st_no (s := (none, some (r1, r2))) (okU_no2 (by unfold mA; first | rw [if_pos (show k = 5 by assumption)] | rw [if_neg (show ¬ k = 5 by assumption)]) lo1 (by assumption))] at hb2; exact hb2), rfl, rfl⟩
              | exact ⟨_, _, _, _, (none, some (r1, r2)), (by rw [rowU, ← hs]; exact (st_no (s := (none, some (r1, r2))) (okU_no3 hs1 (by assumption))).symm), (by have hb2 := hbu.st (k := k) hX hY; rw [st_no (s := (none, some (r1, r2))) (okU_no3 hs1 (by assumption))] at hb2; exact hb2), rfl, rfl⟩
          case h43 =>
            first
              | exact ⟨_, _, _, _, (some ((-9 + (j : Int)), (-9 + (j_1 : Int))), some (r1, r2)), (by rw [rowU, ← hs]; exact (st_is (s := (none, some (r1, r2))) (L := some ((-9 + (j : Int)), (-9 + (j_1 : Int)))) (R := some (r1, r2)) (okU_yes (by unfold mA; first | rw [if_pos (show k = 5 by assumption)] | rw [if_neg (show ¬ k = 5 by assumption)]) lo1 (by assumption) (by assumption) hs1 (by assumption)) (.inl ⟨trivial, rfl⟩) (.inr ⟨fun z => vneg (by unfold mA; first | rw [if_pos (show k = 5 by assumption)] | rw [if_neg (show ¬ k = 5 by assumption)]) hs2 (by assumption) z.1, rfl⟩)).symm), (by have hb2 := hbu.st (k := k) hX hY; rw [st_is (s := (none, some (r1, r2))) (L := some ((-9 + (j : Int)), (-9 + (j_1 : Int)))) (R := some (r1, r2)) (okU_yes (by unfold mA; first | rw [if_pos (show k = 5 by assumption)] | rw [if_neg (show ¬ k = 5 by assumption)]) lo1 (by assumption) (by assumption) hs1 (by assumption)) (.inl ⟨trivial, rfl⟩) (.inr ⟨fun z => vneg (by unfold mA; first | rw [if_pos (show k = 5 by assumption)] | rw [if_neg (show ¬ k = 5 by assumption)]) hs2 (by assumption) z.1, rfl⟩)] at hb2; exact hb2), rfl, rfl⟩
              | exact ⟨_, _, _, _, (some ((-9 + (j : Int)), (-9 + (j_1 : Int))), some ((-9 + (j : Int)), (-9 + (j_1 : Int)))), (by rw [rowU, ← hs]; exact (st_is (s := (none, some (r1, r2))) (L := some ((-9 + (j : Int)), (-9 + (j_1 : Int)))) (R := some ((-9 + (j : Int)), (-9 + (j_1 : Int)))) (okU_yes (by unfold mA; first | rw [if_pos (show k = 5 by assumption)] | rw [if_neg (show ¬ k = 5 by assumption)]) lo1 (by assumption) (by assumption) hs1 (by assumption)) (.inl ⟨trivial, rfl⟩) (.inl ⟨⟨vpos (by unfold mA; first | rw [if_pos (show k = 5 by assumption)] | rw [if_neg (show ¬ k = 5 by assumption)]) hs2 (by assumption), lsU_t lo2 hs3 (by assumption)⟩, rfl⟩)).symm), (by have hb2 := hbu.st (k := k) hX hY; rw [st_is (s := (none, some (r1, r2))) (L := some ((-9 + (j : Int)), (-9 + (j_1 : Int)))) (R := some ((-9 + (j : Int)), (-9 + (j_1 : Int)))) (okU_yes (by unfold mA; first | rw [if_pos (show k = 5 by assumption)] | rw [if_neg (show ¬ k = 5 by assumption)]) lo1 (by assumption) (by assumption) hs1 (by assumption)) (.inl ⟨trivial, rfl⟩) (.inl ⟨⟨vpos (by unfold mA; first | rw [if_pos (show k = 5 by assumption)] | rw [if_neg (show ¬ k = 5 by assumption)]) hs2 (by assumption), lsU_t lo2 hs3 (by assumption)⟩, rfl⟩)] at hb2; exact hb2), rfl, rfl⟩
              | exact ⟨_, _, _, _, (some ((-9 + (j : Int)), (-9 + (j_1 : Int))), some (r1, r2)), (by rw [rowU, ← hs]; exact (st_is (s := (none, some (r1, r2))) (L := some ((-9 + (j : Int)), (-9 + (j_1 : Int)))) (R := some (r1, r2)) (okU_yes (by unfold mA; first | rw [if_pos (show k = 5 by assumption)] | rw [if_neg (show ¬ k = 5 by assumption)]) lo1 (by assumption) (by assumption) hs1 (by assumption)) (.inl ⟨trivial, rfl⟩) (.inr ⟨fun z => lsU_f lo2 hs3 (by assumption) z.2, rfl⟩)).symm), (by have hb2 := hbu.st (k := k) hX hY; rw [st_is (s := (none, some (r1, r2))) (L := some ((-9 + (j : Int)), (-9 + (j_1 : Int)))) (R := some (r1, r2)) (okU_yes (by unfold mA; first | rw [if_pos (show k = 5 by assumption)] | rw [if_neg (show ¬ k = 5 by assumption)]) lo1 (by assumption) (by assumption) hs1 (by assumption)) (.inl ⟨trivial, rfl⟩) (.inr ⟨fun z => lsU_f lo2 hs3 (by assumption) z.2, rfl⟩)] at hb2; exact hb2), rfl, rfl⟩
              | exact ⟨_, _, _, _, (none, some (r1, r2)), (by rw [rowU, ← hs]; exact (st_no (s := (none, some (r1, r2))) (okU_no1 (by unfold mA; first | rw [if_pos (show k = 5 by assumption)] | rw [if_neg (show ¬ k = 5 by assumption)]) lo1 (by assumption))).symm), (by have hb2 := hbu.st (k := k) hX hY; rw [st_no (s := (none, some (r1, r2))) (okU_no1 (by unfold mA; first | rw [if_pos (show k = 5 by assumption)] | rw [if_neg (show ¬ k = 5 by assumption)]) lo1 (by assumption))] at hb2; exact hb2), rfl, rfl⟩
              | exact ⟨_, _, _, _, (none, some (r1, r2)), (by rw [rowU, ← hs]; exact (st_no (s := (none, some (r1, r2))) (okU_no2 (by unfold mA; first | rw [if_pos (show k = 5 by assumption)] | rw [if_neg (show ¬ k = 5 by assumption)]) lo1 (by assumption))).symm), (by have hb2 := hbu.st (k := k) hX hY; rw [st_no (s := (none, some (r1, r2))) (okU_no2 (by unfold mA; first | rw [if_pos (show k = 5 by assumption)] | rw [if_neg (show ¬ k = 5 by assumption)]) lo1 (by assumption))] at hb2; exact hb2), rfl, rfl⟩
              | exact ⟨_, _, _, _, (none, some (r1, r2)), (by rw [rowU, ← hs]; exact (st_no (s := (none, some (r1, r2))) (okU_no3 hs1 (by assumption))).symm), (by have hb2 := hbu.st (k := k) hX hY; rw [st_no (s := (none, some (r1, r2))) (okU_no3 hs1 (by assumption))] at hb2; exact hb2), rfl, rfl⟩
          case h44 =>
            first
              | exact ⟨_, _, _, _, (some ((-9 + (j : Int)), (-9 + (j_1 : Int))), some (r1, r2)), (by rw [rowU, ← hs]; exact (st_is (s := (none, some (r1, r2))) (L := some ((-9 + (j : Int)), (-9 + (j_1 : Int)))) (R := some (r1, r2)) (okU_yes (by unfold mA; first | rw [if_pos (show k = 5 by assumption)] | rw [if_neg (show ¬ k = 5 by assumption)]) lo1 (by assumption) (by assumption) hs1 (by assumption)) (.inl ⟨trivial, rfl⟩) (.inr ⟨fun z => vneg (by unfold mA; first | rw [if_pos (show k = 5 by assumption)] | rw [if_neg (show ¬ k = 5 by assumption)]) hs2 (by assumption) z.1, rfl⟩)).symm), (by have hb2 := hbu.st (k := k) hX hY; rw [st_is (s := (none, some (r1, r2))) (L := some ((-9 + (j : Int)), (-9 + (j_1 : Int)))) (R := some (r1, r2)) (okU_yes (by unfold mA; first | rw [if_pos (show k = 5 by assumption)] | rw [if_neg (show ¬ k = 5 by assumption)]) lo1 (by assumption) (by assumption) hs1 (by assumption)) (.inl ⟨trivial, rfl⟩) (.inr ⟨fun z => vneg (by unfold mA; first | rw [if_pos (show k = 5 by assumption)] | rw [if_neg (show ¬ k = 5 by assumption)]) hs2 (by assumption) z.1, rfl⟩)] at hb2; exact hb2), rfl, rfl⟩
              | exact ⟨_, _, _, _, (some ((-9 + (j : Int)), (-9 + (j_1 : Int))), some ((-9 + (j : Int)), (-9 + (j_1 : Int)))), (by rw [rowU, ← hs]; exact (st_is (s := (none, some (r1, r2))) (L := some ((-9 + (j : Int)), (-9 + (j_1 : Int)))) (R := some ((-9 + (j : Int)), (-9 + (j_1 : Int)))) (okU_yes (by unfold mA; first | rw [if_pos (show k = 5 by assumption)] | rw [if_neg (show ¬ k = 5 by assumption)]) lo1 (by assumption) (by assumption) hs1 (by assumption)) (.inl ⟨trivial, rfl⟩) (.inl ⟨⟨vpos (by unfold mA; first | rw [if_pos (show k = 5 by assumption)] | rw [if_neg (show ¬ k = 5 by assumption)]) hs2 (by assumption), lsU_t lo2 hs3 (by assumption)⟩, rfl⟩)).symm), (by have hb2 := hbu.st (k := k) hX hY; rw [st_is (s := (none, some (r1, r2))) (L := some ((-9 + (j : Int)), (-9 + (j_1 : Int)))) (R := some ((-9 + (j : Int)), (-9 + (j_1 : Int)))) (okU_yes (by unfold mA; first | rw [if_pos (show k = 5 by assumption)] | rw [if_neg (show ¬ k = 5 by assumption)]) lo1 (by assumption) (by assumption) hs1 (by assumption)) (.inl ⟨trivial, rfl⟩) (.inl ⟨⟨vpos (by unfold mA; first | rw [if_pos (show k = 5 by assumption)] | rw [if_neg (show ¬ k = 5 by assumption)]) hs2 (by assumption), lsU_t lo2 hs3 (by assumption)⟩, rfl⟩)] at hb2; exact hb2), rfl, rfl⟩
              | exact ⟨_, _, _, _, (some ((-9 + (j : Int)), (-9 + (j_1 : Int))), some (r1, r2)), (by rw [rowU, ← hs]; exact (st_is (s := (none, some (r1, r2))) (L := some ((-9 + (j : Int)), (-9 + (j_1 : Int)))) (R := some (r1, r2)) (okU_yes (by unfold mA; first | rw [if_pos (show k = 5 by assumption)] | rw [if_neg (show ¬ k = 5 by assumption)]) lo1 (by assumption) (by assumption) hs1 (by assumption)) (.inl ⟨trivial, rfl⟩) (.inr ⟨fun z => lsU_f lo2 hs3 (by assumption) z.2, rfl⟩)).symm), (by have hb2 := hbu.st (k := k) hX hY; rw [st_is (s := (none, some (r1, r2))) (L := some ((-9 + (j : Int)), (-9 + (j_1 : Int)))) (R := some (r1, r2)) (okU_yes (by unfold mA; first | rw [if_pos (show k = 5 by assumption)] | rw [if_neg (show ¬ k = 5 by assumption)]) lo1 (by assumption) (by assumption) hs1 (by assumption)) (.inl ⟨trivial, rfl⟩) (.inr ⟨fun z => lsU_f lo2 hs3 (by assumption) z.2, rfl⟩)] at hb2; exact hb2), rfl, rfl⟩
              | exact ⟨_, _, _, _, (none, some (r1, r2)), (by rw [rowU, ← hs]; exact (st_no (s := (none, some (r1, r2))) (okU_no1 (by unfold mA; first | rw [if_pos (show k = 5 by assumption)] | rw [if_neg (show ¬ k = 5 by assumption)]) lo1 (by assumption))).symm), (by have hb2 := hbu.st (k := k) hX hY; rw [st_no (s := (none, some (r1, r2))) (okU_no1 (by unfold mA; first | rw [if_pos (show k = 5 by assumption)] | rw [if_neg (show ¬ k = 5 by assumption)]) lo1 (by assumption))] at hb2; exact hb2), rfl, rfl⟩
              | exact ⟨_, _, _, _, (none, some (r1, r2)), (by rw [rowU, ← hs]; exact (st_no (s := (none, some (r1, r2))) (okU_no2 (by unfold mA; first | rw [if_pos (show k = 5 by assumption)] | rw [if_neg (show ¬ k = 5 by assumption)]) lo1 (by assumption))).symm), (by have hb2 := hbu.st (k := k) hX hY; rw [st_no (s := (none, some (r1, r2))) (okU_no2 (by unfold mA; first | rw [if_pos (show k = 5 by assumption)] | rw [if_neg (show ¬ k = 5 by assumption)]) lo1 (by assumption))] at hb2; exact hb2), rfl, rfl⟩
              | exact ⟨_, _, _, _, (none, some (r1, r2)), (by rw [rowU, ← hs]; exact (st_no (s := (none, some (r1, r2))) (okU_no3 hs1 (by assumption))).symm), (by have hb2 := hbu.st (k := k) hX hY; rw [st_no (s := (none, some (r1, r2))) (okU_no3 hs1 (by assumption))] at hb2; exact hb2), rfl, rfl⟩
          case h45 =>
            exact sc__law_units.nd
          case h46 =>
            exact ⟨hk, by decide, by decide, bd_s (by omega) (by decide), bd_s (by omega) (by decide), bd_s (by decide) (by decide), bd_s (by omega) (by decide), bd_s (by omega) (by decide), bd_s (by decide) (by decide), by decide⟩
          case h47 =>
            first | exact ⟨hk, bd_s (by omega) (by decide), bd_s (by omega) (by decide)⟩ | exact ⟨hk, hx2.mono (by decide), hy2.mono (by decide)⟩ | exact ⟨hk, hx3.mono (by decide), hy3.mono (by decide)⟩
          case h48 =>
            exact sc__law_units.nd
          case h49 =>
            first | exact ⟨hk, bd_s (by omega) (by decide), bd_s (by omega) (by decide)⟩ | exact ⟨hk, hx2.mono (by decide), hy2.mono (by decide)⟩ | exact ⟨hk, hx3.mono (by decide), hy3.mono (by decide)⟩
          case h50 =>
            first | exact ⟨by decide, by decide, bd_s (by omega) (by decide), bd_s (by omega) (by decide), bd_s (by decide) (by decide), (hbu.1 _ rfl).1, (hbu.1 _ rfl).2, bd_s (by decide) (by decide), by decide⟩ | exact ⟨by decide, by decide, bd_s (by omega) (by decide), bd_s (by omega) (by decide), bd_s (by decide) (by decide), (hbu.2 _ rfl).1, (hbu.2 _ rfl).2, bd_s (by decide) (by decide), by decide⟩
          case h51 =>
            first | exact ⟨hk, bd_s (by omega) (by decide), bd_s (by omega) (by decide)⟩ | exact ⟨hk, hx2.mono (by decide), hy2.mono (by decide)⟩ | exact ⟨hk, hx3.mono (by decide), hy3.mono (by decide)⟩
          case h52 =>
            exact sc__law_units.nd
          case h53 =>
            first
              | exact ⟨_, _, _, _, (some ((-9 + (j : Int)), (-9 + (j_1 : Int))), some (r1, r2)), (by rw [rowU, ← hs]; exact (st_is (s := (none, some (r1, r2))) (L := some ((-9 + (j : Int)), (-9 + (j_1 : Int)))) (R := some (r1, r2)) (okU_yes (by unfold mA; first | rw [if_pos (show k = 5 by assumption)] | rw [if_neg (show ¬ k = 5 by assumption)]) lo1 (by assumption) (by assumption) hs1 (by assumption)) (.inl ⟨trivial, rfl⟩) (.inr ⟨fun z => vneg (by unfold mA; first | rw [if_pos (show k = 5 by assumption)] | rw [if_neg (show ¬ k = 5 by assumption)]) hs2 (by assumption) z.1, rfl⟩)).symm), (by have hb2 := hbu.st (k := k) hX hY; rw [st_is (s := (none, some (r1, r2))) (L := some ((-9 + (j : Int)), (-9 + (j_1 : Int)))) (R := some (r1, r2)) (okU_yes (by unfold mA; first | rw [if_pos (show k = 5 by assumption)] | rw [if_neg (show ¬ k = 5 by assumption)]) lo1 (by assumption) (by assumption) hs1 (by assumption)) (.inl ⟨trivial, rfl⟩) (.inr ⟨fun z => vneg (by unfold mA; first | rw [if_pos (show k = 5 by assumption)] | rw [if_neg (show ¬ k = 5 by assumption)]) hs2 (by assumption) z.1, rfl⟩)] at hb2; exact hb2), rfl, rfl⟩
              | exact ⟨_, _, _, _, (some ((-9 + (j : Int)), (-9 + (j_1 : Int))), some ((-9 + (j : Int)), (-9 + (j_1 : Int)))), (by rw [rowU, ← hs]; exact (st_is (s := (none, some (r1, r2))) (L := some ((-9 + (j : Int)), (-9 + (j_1 : Int)))) (R := some ((-9 + (j : Int)), (-9 + (j_1 : Int)))) (okU_yes (by unfold mA; first | rw [if_pos (show k = 5 by assumption)] | rw [if_neg (show ¬ k = 5 by assumption)]) lo1 (by assumption) (by assumption) hs1 (by assumption)) (.inl ⟨trivial, rfl⟩) (.inl ⟨⟨vpos (by unfold mA; first | rw [if_pos (show k = 5 by assumption)] | rw [if_neg (show ¬ k = 5 by assumption)]) hs2 (by assumption), lsU_t lo2 hs3 (by assumption)⟩, rfl⟩)).symm), (by have hb2 := hbu.st (k := k) hX hY; rw [st_is (s := (none, some (r1, r2))) (L := some ((-9 + (j : Int)), (-9 + (j_1 : Int)))) (R := some ((-9 + (j : Int)), (-9 + (j_1 : Int)))) (okU_yes (by unfold mA; first | rw [if_pos (show k = 5 by assumption)] | rw [if_neg (show ¬ k = 5 by assumption)]) lo1 (by assumption) (by assumption) hs1 (by assumption)) (.inl ⟨trivial, rfl⟩) (.inl ⟨⟨vpos (by unfold mA; first | rw [if_pos (show k = 5 by assumption)] | rw [if_neg (show ¬ k = 5 by assumption)]) hs2 (by assumption), lsU_t lo2 hs3 (by assumption)⟩, rfl⟩)] at hb2; exact hb2), rfl, rfl⟩
              | exact ⟨_, _, _, _, (some ((-9 + (j : Int)), (-9 + (j_1 : Int))), some (r1, r2)), (by rw [rowU, ← hs]; exact (st_is (s := (none, some (r1, r2))) (L := some ((-9 + (j : Int)), (-9 + (j_1 : Int)))) (R := some (r1, r2)) (okU_yes (by unfold mA; first | rw [if_pos (show k = 5 by assumption)] | rw [if_neg (show ¬ k = 5 by assumption)]) lo1 (by assumption) (by assumption) hs1 (by assumption)) (.inl ⟨trivial, rfl⟩) (.inr ⟨fun z => lsU_f lo2 hs3 (by assumption) z.2, rfl⟩)).symm), (by have hb2 := hbu.st (k := k) hX hY; rw [st_is (s := (none, some (r1, r2))) (L := some ((-9 + (j : Int)), (-9 + (j_1 : Int)))) (R := some (r1, r2)) (okU_yes (by unfold mA; first | rw [if_pos (show k = 5 by assumption)] | rw [if_neg (show ¬ k = 5 by assumption)]) lo1 (by assumption) (by assumption) hs1 (by assumption)) (.inl ⟨trivial, rfl⟩) (.inr ⟨fun z => lsU_f lo2 hs3 (by assumption) z.2, rfl⟩)] at hb2; exact hb2), rfl, rfl⟩
              | exact ⟨_, _, _, _, (none, some (r1, r2)), (by rw [rowU, ← hs]; exact (st_no (s := (none, some (r1, r2))) (okU_no1 (by unfold mA; first | rw [if_pos (show k = 5 by assumption)] | rw [if_neg (show ¬ k = 5 by assumption)]) lo1 (by assumption))).symm), (by have hb2 := hbu.st (k := k) hX hY; rw [st_no (s := (none, some (r1, r2))) (okU_no1 (by unfold mA; first | rw [if_pos (show k = 5 by assumption)] | rw [if_neg (show ¬ k = 5 by assumption)]) lo1 (by assumption))] at hb2; exact hb2), rfl, rfl⟩
              | exact ⟨_, _, _, _, (none, some (r1, r2)), (by rw [rowU, ← hs]; exact (st_no (s := (none, some (r1, r2))) (okU_no2 (by unfold mA; first | rw [if_pos (show k = 5 by assumption)] | rw [if_neg (show ¬ k = 5 by assumption)]) lo1 (by assumption))).symm), (by have hb2 := hbu.st (k := k) hX hY; rw [st_no (s := (none, some (r1, r2))) (okU_no2 (by unfold mA; first | rw [if_pos (show k = 5 by assumption)] | rw [if_neg (show ¬ k = 5 by assumption)]) lo1 (by assumption))] at hb2; exact hb2), rfl, rfl⟩
              | exact ⟨_, _, _, _, (none, some (r1, r2)), (by rw [rowU, ← hs]; exact (st_no (s := (none, some (r1, r2))) (okU_no3 hs1 (by assumption))).symm), (by have hb2 := hbu.st (k := k) hX hY; rw [st_no (s := (none, some (r1, r2))) (okU_no3 hs1 (by assumption))] at hb2; exact hb2), rfl, rfl⟩
          case h54 =>
            first
              | exact ⟨_, _, _, _, (some ((-9 + (j : Int)), (-9 + (j_1 : Int))), some (r1, r2)), (by rw [rowU, ← hs]; exact (st_is (s := (none, some (r1, r2))) (L := some ((-9 + (j : Int)), (-9 + (j_1 : Int)))) (R := some (r1, r2)) (okU_yes (by unfold mA; first | rw [if_pos (show k = 5 by assumption)] | rw [if_neg (show ¬ k = 5 by assumption)]) lo1 (by assumption) (by assumption) hs1 (by assumption)) (.inl ⟨trivial, rfl⟩) (.inr ⟨fun z => vneg (by unfold mA; first | rw [if_pos (show k = 5 by assumption)] | rw [if_neg (show ¬ k = 5 by assumption)]) hs2 (by assumption) z.1, rfl⟩)).symm), (by have hb2 := hbu.st (k := k) hX hY; rw [st_is (s := (none, some (r1, r2))) (L := some ((-9 + (j : Int)), (-9 + (j_1 : Int)))) (R := some (r1, r2)) (okU_yes (by unfold mA; first | rw [if_pos (show k = 5 by assumption)] | rw [if_neg (show ¬ k = 5 by assumption)]) lo1 (by assumption) (by assumption) hs1 (by assumption)) (.inl ⟨trivial, rfl⟩) (.inr ⟨fun z => vneg (by unfold mA; first | rw [if_pos (show k = 5 by assumption)] | rw [if_neg (show ¬ k = 5 by assumption)]) hs2 (by assumption) z.1, rfl⟩)] at hb2; exact hb2), rfl, rfl⟩
              | exact ⟨_, _, _, _, (some ((-9 + (j : Int)), (-9 + (j_1 : Int))), some ((-9 + (j : Int)), (-9 + (j_1 : Int)))), (by rw [rowU, ← hs]; exact (st_is (s := (none, some (r1, r2))) (L := some ((-9 + (j : Int)), (-9 + (j_1 : Int)))) (R := some ((-9 + (j : Int)), (-9 + (j_1 : Int)))) (okU_yes (by unfold mA; first | rw [if_pos (show k = 5 by assumption)] | rw [if_neg (show ¬ k = 5 by assumption)]) lo1 (by assumption) (by assumption) hs1 (by assumption)) (.inl ⟨trivial, rfl⟩) (.inl ⟨⟨vpos (by unfold mA; first | rw [if_pos (show k = 5 by assumption)] | rw [if_neg (show ¬ k = 5 by assumption)]) hs2 (by assumption), lsU_t lo2 hs3 (by assumption)⟩, rfl⟩)).symm), (by have hb2 := hbu.st (k := k) hX hY; rw [st_is (s := (none, some (r1, r2))) (L := some ((-9 + (j : Int)), (-9 + (j_1 : Int)))) (R := some ((-9 + (j : Int)), (-9 + (j_1 : Int)))) (okU_yes (by unfold mA; first | rw [if_pos (show k = 5 by assumption)] | rw [if_neg (show ¬ k = 5 by assumption)]) lo1 (by assumption) (by assumption) hs1 (by assumption)) (.inl ⟨trivial, rfl⟩) (.inl ⟨⟨vpos (by unfold mA; first | rw [if_pos (show k = 5 by assumption)] | rw [if_neg (show ¬ k = 5 by assumption)]) hs2 (by assumption), lsU_t lo2 hs3 (by assumption)⟩, rfl⟩)] at hb2; exact hb2), rfl, rfl⟩
              | exact ⟨_, _, _, _, (some ((-9 + (j : Int)), (-9 + (j_1 : Int))), some (r1, r2)), (by rw [rowU, ← hs]; exact (st_is (s := (none, some (r1, r2))) (L := some ((-9 + (j : Int)), (-9 + (j_1 : Int)))) (R := some (r1, r2)) (okU_yes (by unfold mA; first | rw [if_pos (show k = 5 by assumption)] | rw [if_neg (show ¬ k = 5 by assumption)]) lo1 (by assumption) (by assumption) hs1 (by assumption)) (.inl ⟨trivial, rfl⟩) (.inr ⟨fun z => lsU_f lo2 hs3 (by assumption) z.2, rfl⟩)).symm), (by have hb2 := hbu.st (k := k) hX hY; rw [st_is (s := (none, some (r1, r2))) (L := some ((-9 + (j : Int)), (-9 + (j_1 : Int)))) (R := some (r1, r2)) (okU_yes (by unfold mA; first | rw [if_pos (show k = 5 by assumption)] | rw [if_neg (show ¬ k = 5 by assumption)]) lo1 (by assumption) (by assumption) hs1 (by assumption)) (.inl ⟨trivial, rfl⟩) (.inr ⟨fun z => lsU_f lo2 hs3 (by assumption) z.2, rfl⟩)] at hb2; exact hb2), rfl, rfl⟩
              | exact ⟨_, _, _, _, (none, some (r1, r2)), (by rw [rowU, ← hs]; exact (st_no (s := (none, some (r1, r2))) (okU_no1 (by unfold mA; first | rw [if_pos (show k = 5 by assumption)] | rw [if_neg (show ¬ k = 5 by assumption)]) lo1 (by assumption))).symm), (by have hb2 := hbu.st (k := k) hX hY; rw [st_no (s := (none, some (r1, r2))) (okU_no1 (by unfold mA; first | rw [if_pos (show k = 5 by assumption)] | rw [if_neg (show ¬ k = 5 by assumption)]) lo1 (by assumption))] at hb2; exact hb2), rfl, rfl⟩
              | exact ⟨_, _, _, _, (none, some (r1, r2)), (by rw [rowU, ← hs]; exact (st_no (s := (none, some (r1, r2))) (okU_no2 (by unfold mA; first | rw [if_pos (show k = 5 by assumption)] | rw [if_neg (show ¬ k = 5 by assumption)]) lo1 (by assumption))).symm), (by have hb2 := hbu.st (k := k) hX hY; rw [st_no (s := (none, some (r1, r2))) (okU_no2 (by unfold mA; first | rw [if_pos (show k = 5 by assumption)] | rw [if_neg (show ¬ k = 5 by assumption)]) lo1 (by assumption))] at hb2; exact hb2), rfl, rfl⟩
              | exact ⟨_, _, _, _, (none, some (r1, r2)), (by rw [rowU, ← hs]; exact (st_no (s := (none, some (r1, r2))) (okU_no3 hs1 (by assumption))).symm), (by have hb2 := hbu.st (k := k) hX hY; rw [st_no (s := (none, some (r1, r2))) (okU_no3 hs1 (by assumption))] at hb2; exact hb2), rfl, rfl⟩
          case h55 =>
            first
              | exact ⟨_, _, _, _, (some ((-9 + (j : Int)), (-9 + (j_1 : Int))), some (r1, r2)), (by rw [rowU, ← hs]; exact (st_is (s := (none, some (r1, r2))) (L := some ((-9 + (j : Int)), (-9 + (j_1 : Int)))) (R := some (r1, r2)) (okU_yes (by unfold mA; first | rw [if_pos (show k = 5 by assumption)] | rw [if_neg (show ¬ k = 5 by assumption)]) lo1 (by assumption) (by assumption) hs1 (by assumption)) (.inl ⟨trivial, rfl⟩) (.inr ⟨fun z => vneg (by unfold mA; first | rw [if_pos (show k = 5 by assumption)] | rw [if_neg (show ¬ k = 5 by assumption)]) hs2 (by assumption) z.1, rfl⟩)).symm), (by have hb2 := hbu.st (k := k) hX hY; rw [st_is (s := (none, some (r1, r2))) (L := some ((-9 + (j : Int)), (-9 + (j_1 : Int)))) (R := some (r1, r2)) (okU_yes (by unfold mA; first | rw [if_pos (show k = 5 by assumption)] | rw [if_neg (show ¬ k = 5 by assumption)]) lo1 (by assumption) (by assumption) hs1 (by assumption)) (.inl ⟨trivial, rfl⟩) (.inr ⟨fun z => vneg (by unfold mA; first | rw [if_pos (show k = 5 by assumption)] | rw [if_neg (show ¬ k = 5 by assumption)]) hs2 (by assumption) z.1, rfl⟩)] at hb2; exact hb2), rfl, rfl⟩
              | exact ⟨_, _, _, _, (some ((-9 + (j : Int)), (-9 + (j_1 : Int))), some ((-9 + (j : Int)), (-9 + (j_1 : Int)))), (by rw [rowU, ← hs]; exact (st_is (s := (none, some (r1, r2))) (L := some ((-9 + (j : Int)), (-9 + (j_1 : Int)))) (R := some ((-9 + (j : Int)), (-9 + (j_1 : Int)))) (okU_yes (by unfold mA; first | rw [if_pos (show k = 5 by assumption)] | rw [if_neg (show ¬ k = 5 by assumption)]) lo1 (by assumption) (by assumption) hs1 (by assumption)) (.inl ⟨trivial, rfl⟩) (.inl ⟨⟨vpos (by unfold mA; first | rw [if_pos (show k = 5 by assumption)] | rw [if_neg (show ¬ k = 5 by assumption)]) hs2 (by assumption), lsU_t lo2 hs3 (by assumption)⟩, rfl⟩)).symm), (by have hb2 := hbu.st (k := k) hX hY; rw [st_is (s := (none, some (r1, r2))) (L := some ((-9 + (j : Int)), (-9 + (j_1 : Int)))) (R := some ((-9 + (j : Int)), (-9 + (j_1 : Int)))) (okU_yes (by unfold mA; first | rw [if_pos (show k = 5 by assumption)] | rw [if_neg (show ¬ k = 5 by assumption)]) lo1 (by assumption) (by assumption) hs1 (by assumption)) (.inl ⟨trivial, rfl⟩) (.inl ⟨⟨vpos (by unfold mA; first | rw [if_pos (show k = 5 by assumption)] | rw [if_neg (show ¬ k = 5 by assumption)]) hs2 (by assumption), lsU_t lo2 hs3 (by assumption)⟩, rfl⟩)] at hb2; exact hb2), rfl, rfl⟩
              | exact ⟨_, _, _, _, (some ((-9 + (j : Int)), (-9 + (j_1 : Int))), some (r1, r2)), (by rw [rowU, ← hs]; exact (st_is (s := (none, some (r1, r2))) (L := some ((-9 + (j : Int)), (-9 + (j_1 : Int)))) (R := some (r1, r2)) (okU_yes (by unfold mA; first | rw [if_pos (show k = 5 by assumption)] | rw [if_neg (show ¬ k = 5 by assumption)]) lo1 (by assumption) (by assumption) hs1 (by assumption)) (.inl ⟨trivial, rfl⟩) (.inr ⟨fun z => lsU_f lo2 hs3 (by assumption) z.2, rfl⟩)).symm), (by have hb2 := hbu.st (k := k) hX hY; rw [st_is (s := (none, some (r1, r2))) (L := some ((-9 + (j : Int)), (-9 + (j_1 : Int)))) (R := some (r1, r2)) (okU_yes (by unfold mA; first | rw [if_pos (show k = 5 by assumption)] | rw [if_neg (show ¬ k = 5 by assumption)]) lo1 (by assumption) (by assumption) hs1 (by assumption)) (.inl ⟨trivial, rfl⟩) (.inr ⟨fun z => lsU_f lo2 hs3 (by assumption) z.2, rfl⟩)] at hb2; exact hb2), rfl, rfl⟩
              | exact ⟨_, _, _, _, (none, some (r1, r2)), (by rw [rowU, ← hs]; exact (st_no (s := (none, some (r1, r2))) (okU_no1 (by unfold mA; first | rw [if_pos (show k = 5 by assumption)] | rw [if_neg (show ¬ k = 5 by assumption)]) lo1 (by assumption))).symm), (by have hb2 := hbu.st (k := k) hX hY; rw [st_no (s := (none, some (r1, r2))) (okU_no1 (by unfold mA; first | rw [if_pos (show k = 5 by assumption)] | rw [if_neg (show ¬ k = 5 by assumption)]) lo1 (by assumption))] at hb2; exact hb2), rfl, rfl⟩
              | exact ⟨_, _, _, _, (none, some (r1, r2)), (by rw [rowU, ← hs]; exact (st_no (s := (none, some (r1, r2))) (okU_no2 (by unfold mA; first | rw [if_pos (show k = 5 by assumption)] | rw [if_neg (show ¬ k = 5 by assumption)]) lo1 (by assumption))).symm), (by have hb2 := hbu.st (k := k) hX hY; rw [st_no (s := (none, some (r1, r2))) (okU_no2 (by unfold mA; first | rw [if_pos (show k = 5 by assumption)] | rw [if_neg (show ¬ k = 5 by assumption)]) lo1 (by assumption))] at hb2; exact hb2), rfl, rfl⟩
              | exact ⟨_, _, _, _, (none, some (r1, r2)), (by rw [rowU, ← hs]; exact (st_no (s := (none, some (r1, r2))) (okU_no3 hs1 (by assumption))).symm), (by have hb2 := hbu.st (k := k) hX hY; rw [st_no (s := (none, some (r1, r2))) (okU_no3 hs1 (by assumption))] at hb2; exact hb2), rfl, rfl⟩
          case h56 =>
            first
              | exact ⟨_, _, _, _, (some ((-9 + (j : Int)), (-9 + (j_1 : Int))), some (r1, r2)), (by rw [rowU, ← hs]; exact (st_is (s := (none, some (r1, r2))) (L := some ((-9 + (j : Int)), (-9 + (j_1 : Int)))) (R := some (r1, r2)) (okU_yes (by unfold mA; first | rw [if_pos (show k = 5 by assumption)] | rw [if_neg (show ¬ k = 5 by assumption)]) lo1 (by assumption) (by assumption) hs1 (by assumption)) (.inl ⟨trivial, rfl⟩) (.inr ⟨fun z => vneg (by unfold mA; first | rw [if_pos (show k = 5 by assumption)] | rw [if_neg (show ¬ k = 5 by assumption)]) hs2 (by assumption) z.1, rfl⟩)).symm), (by have hb2 := hbu.st (k := k) hX hY; rw [st_is (s := (none, some (r1, r2))) (L := some ((-9 + (j : Int)), (-9 + (j_1 : Int)))) (R := some (r1, r2)) (okU_yes (by unfold mA; first | rw [if_pos (show k = 5 by assumption)] | rw [if_neg (show ¬ k = 5 by assumption)]) lo1 (by assumption) (by assumption) hs1 (by assumption)) (.inl ⟨trivial, rfl⟩) (.inr ⟨fun z => vneg (by unfold mA; first | rw [if_pos (show k = 5 by assumption)] | rw [if_neg (show ¬ k = 5 by assumption)]) hs2 (by assumption) z.1, rfl⟩)] at hb2; exact hb2), rfl, rfl⟩
              | exact ⟨_, _, _, _, (some ((-9 + (j : Int)), (-9 + (j_1 : Int))), some ((-9 + (j : Int)), (-9 + (j_1 : Int)))), (by rw [rowU, ← hs]; exact (st_is (s := (none, some (r1, r2))) (L := some ((-9 + (j : Int)), (-9 + (j_1 : Int)))) (R := some ((-9 + (j : Int)), (-9 + (j_1 : Int)))) (okU_yes (by unfold mA; first | rw [if_pos (show k = 5 by assumption)] | rw [if_neg (show ¬ k = 5 by assumption)]) lo1 (by assumption) (by assumption) hs1 (by assumption)) (.inl ⟨trivial, rfl⟩) (.inl ⟨⟨vpos (by unfold mA; first | rw [if_pos (show k = 5 by assumption)] | rw [if_neg (show ¬ k = 5 by assumption)]) hs2 (by assumption), lsU_t lo2 hs3 (by assumption)⟩, rfl⟩)).symm), (by have hb2 := hbu.st (k := k) hX hY; rw [st_is (s := (none, some (r1, r2))) (L := some ((-9 + (j : Int)), (-9 + (j_1 : Int)))) (R := some ((-9 + (j : Int)), (-9 + (j_1 : Int)))) (okU_yes (by unfold mA; first | rw [if_pos (show k = 5 by assumption)] | rw [if_neg (show ¬ k = 5 by assumption)]) lo1 (by assumption) (by assumption) hs1 (by assumption)) (.inl ⟨trivial, rfl⟩) (.inl ⟨⟨vpos (by unfold mA; first | rw [if_pos (show k = 5 by assumption)] | rw [if_neg (show ¬ k = 5 by assumption)]) hs2 (by assumption), lsU_t lo2 hs3 (by assumption)⟩, rfl⟩)] at hb2; exact hb2), rfl, rfl⟩
              | exact ⟨_, _, _, _, (some ((-9 + (j : Int)), (-9 + (j_1 : Int))), some (r1, r2)), (by rw [rowU, ← hs]; exact (st_is (s := (none, some (r1, r2))) (L := some ((-9 + (j : Int)), (-9 + (j_1 : Int)))) (R := some (r1, r2)) (okU_yes (by unfold mA; first | rw [if_pos (show k = 5 by assumption)] | rw [if_neg (show ¬ k = 5 by assumption)]) lo1 (by assumption) (by assumption) hs1 (by assumption)) (.inl ⟨trivial, rfl⟩) (.inr ⟨fun z => lsU_f lo2 hs3 (by assumption) z.2, rfl⟩)).symm), (by have hb2 := hbu.st (k := k) hX hY; rw [st_is (s := (none, some (r1, r2))) (L := some ((-9 + (j : Int)), (-9 + (j_1 : Int)))) (R := some (r1, r2)) (okU_yes (by unfold mA; first | rw [if_pos (show k = 5 by assumption)] | rw [if_neg (show ¬ k = 5 by assumption)]) lo1 (by assumption) (by assumption) hs1 (by assumption)) (.inl ⟨trivial, rfl⟩) (.inr ⟨fun z => lsU_f lo2 hs3 (by assumption) z.2, rfl⟩)] at hb2; exact hb2), rfl, rfl⟩
              | exact ⟨_, _, _, _, (none, some (r1, r2)), (by rw [rowU, ← hs]; exact (st_no (s := (none, some (r1, r2))) (okU_no1 (by unfold mA; first | rw [if_pos (show k = 5 by assumption)] | rw [if_neg (show ¬ k = 5 by assumption)]) lo1 (by assumption))).symm), (by have hb2 := hbu.st (k := k) hX hY; rw [st_no (s := (none, some (r1, r2))) (okU_no1 (by unfold mA; first | rw [if_pos (show k = 5 by assumption)] | rw [if_neg (show ¬ k = 5 by assumption)]) lo1 (by assumption))] at hb2; exact hb2), rfl, rfl⟩
              | exact ⟨_, _, _, _, (none, some (r1, r2)), (by rw [rowU, ← hs]; exact (st_no (s := (none, some (r1, r2))) (okU_no2 (by unfold mA; first | rw [if_pos (show k = 5 by assumption)] | rw [if_neg (show ¬ k = 5 by assumption)]) lo1 (by assumption))).symm), (by have hb2 := hbu.st (k := k) hX hY; rw [st_no (s := (none, some (r1, r2))) (okU_no2 (by unfold mA; first | rw [if_pos (show k = 5 by assumption)] | rw [if_neg (show ¬ k = 5 by assumption)]) lo1 (by assumption))] at hb2; exact hb2), rfl, rfl⟩
              | exact ⟨_, _, _, _, (none, some (r1, r2)), (by rw [rowU, ← hs]; exact (st_no (s := (none, some (r1, r2))) (okU_no3 hs1 (by assumption))).symm), (by have hb2 := hbu.st (k := k) hX hY; rw [st_no (s := (none, some (r1, r2))) (okU_no3 hs1 (by assumption))] at hb2; exact hb2), rfl, rfl⟩
          case h57 =>
            first
              | exact ⟨_, _, _, _, (some ((-9 + (j : Int)), (-9 + (j_1 : Int))), some (r1, r2)), (by rw [rowU, ← hs]; exact (st_is (s := (none, some (r1, r2))) (L := some ((-9 + (j : Int)), (-9 + (j_1 : Int)))) (R := some (r1, r2)) (okU_yes (by unfold mA; first | rw [if_pos (show k = 5 by assumption)] | rw [if_neg (show ¬ k = 5 by assumption)]) lo1 (by assumption) (by assumption) hs1 (by assumption)) (.inl ⟨trivial, rfl⟩) (.inr ⟨fun z => vneg (by unfold mA; first | rw [if_pos (show k = 5 by assumption)] | rw [if_neg (show ¬ k = 5 by assumption)]) hs2 (by assumption) z.1, rfl⟩)).symm), (by have hb2 := hbu.st (k := k) hX hY; rw [st_is (s := (none, some (r1, r2))) (L := some ((-9 + (j : Int)), (-9 + (j_1 : Int)))) (R := some (r1, r2)) (okU_yes (by unfold mA; first | rw [if_pos (show k = 5 by assumption)] | rw [if_neg (show ¬ k = 5 by assumption)]) lo1 (by assumption) (by assumption) hs1 (by assumption)) (.inl ⟨trivial, rfl⟩) (.inr ⟨fun z => vneg (by unfold mA; first | rw [if_pos (show k = 5 by assumption)] | rw [if_neg (show ¬ k = 5 by assumption)]) hs2 (by assumption) z.1, rfl⟩)] at hb2; exact hb2), rfl, rfl⟩
              | exact ⟨_, _, _, _, (some ((-9 + (j : Int)), (-9 + (j_1 : Int))), some ((-9 + (j : Int)), (-9 + (j_1 : Int)))), (by rw [rowU, ← hs]; exact (st_is (s := (none, some (r1, r2))) (L := some ((-9 + (j : Int)), (-9 + (j_1 : Int)))) (R := some ((-9 + (j : Int)), (-9 + (j_1 : Int)))) (okU_yes (by unfold mA; first | rw [if_pos (show k = 5 by assumption)] | rw [if_neg (show ¬ k = 5 by assumption)]) lo1 (by assumption) (by assumption) hs1 (by assumption)) (.inl ⟨trivial, rfl⟩) (.inl ⟨⟨vpos (by unfold mA; first | rw [if_pos (show k = 5 by assumption)] | rw [if_neg (show ¬ k = 5 by assumption)]) hs2 (by assumption), lsU_t lo2 hs3 (by assumption)⟩, rfl⟩)).symm), (by have hb2 := hbu.st (k := k) hX hY; rw [st_is (s := (none, some (r1, r2))) (L := some ((-9 + (j : Int)), (-9 + (j_1 : Int)))) (R := some ((-9 + (j : Int)), (-9 + (j_1 : Int)))) (okU_yes (by unfold mA; first | rw [if_pos (show k = 5 by assumption)] | rw [if_neg (show ¬ k = 5 by assumption)]) lo1 (by assumption) (by assumption) hs1 (by assumption)) (.inl ⟨trivial, rfl⟩) (.inl ⟨⟨vpos (by unfold mA; first | rw [if_pos (show k = 5 by assumption)] | rw [if_neg (show ¬ k = 5 by assumption)]) hs2 (by assumption), lsU_t lo2 hs3 (by assumption)⟩, rfl⟩)] at hb2; exact hb2), rfl, rfl⟩
              | exact ⟨_, _, _, _, (some ((-9 + (j : Int)), (-9 + (j_1 : Int))), some (r1, r2)), (by rw [rowU, ← hs]; exact (st_is (s := (none, some (r1, r2))) (L := some ((-9 + (j : Int)), (-9 + (j_1 : Int)))) (R := some (r1, r2)) (okU_yes (by unfold mA; first | rw [if_pos (show k = 5 by assumption)] | rw [if_neg (show ¬ k = 5 by assumption)]) lo1 (by assumption) (by assumption) hs1 (by assumption)) (.inl ⟨trivial, rfl⟩) (.inr ⟨fun z => lsU_f lo2 hs3 (by assumption) z.2, rfl⟩)).symm), (by have hb2 := hbu.st (k := k) hX hY; rw [st_is (s := (none, some (r1, r2))) (L := some ((-9 + (j : Int)), (-9 + (j_1 : Int)))) (R := some (r1, r2)) (okU_yes (by unfold mA; first | rw [if_pos (show k = 5 by assumption)] | rw [if_neg (show ¬ k = 5 by assumption)]) lo1 (by assumption) (by assumption) hs1 (by assumption)) (.inl ⟨trivial, rfl⟩) (.inr ⟨fun z => lsU_f lo2 hs3 (by assumption) z.2, rfl⟩)] at hb2; exact hb2), rfl, rfl⟩
              | exact ⟨_, _, _, _, (none, some (r1, r2)), (by rw [rowU, ← hs]; exact (st_no (s := (none, some (r1, r2))) (okU_no1 (by unfold mA; first | rw [if_pos (show k = 5 by assumption)] | rw [if_neg (show ¬ k = 5 by assumption)]) lo1 (by assumption))).symm), (by have hb2 := hbu.st (k := k) hX hY; rw [st_no (s := (none, some (r1, r2))) (okU_no1 (by unfold mA; first | rw [if_pos (show k = 5 by assumption)] | rw [if_neg (show ¬ k = 5 by assumption)]) lo1 (by assumption))] at hb2; exact hb2), rfl, rfl⟩
              | exact ⟨_, _, _, _, (none, some (r1, r2)), (by rw [rowU, ← hs]; exact (st_no (s := (none, some (r1, r2))) (okU_no2 (by unfold mA; first | rw [if_pos (show k = 5 by assumption)] | rw [if_neg (show ¬ k = 5 by assumption)]) lo1 (by assumption))).symm), (by have hb2 := hbu.st (k := k) hX hY; rw [st_no (s := (none, some (r1, r2))) (okU_no2 (by unfold mA; first | rw [if_pos (show k = 5 by assumption)] | rw [if_neg (show ¬ k = 5 by assumption)]) lo1 (by assumption))] at hb2; exact hb2), rfl, rfl⟩
              | exact ⟨_, _, _, _, (none, some (r1, r2)), (by rw [rowU, ← hs]; exact (st_no (s := (none, some (r1, r2))) (okU_no3 hs1 (by assumption))).symm), (by have hb2 := hbu.st (k := k) hX hY; rw [st_no (s := (none, some (r1, r2))) (okU_no3 hs1 (by assumption))] at hb2; exact hb2), rfl, rfl⟩
          case h58 =>
            first
              | exact ⟨_, _, _, _, (some ((-9 + (j : Int)), (-9 + (j_1 : Int))), some (r1, r2)), (by rw [rowU, ← hs]; exact (st_is (s := (none, some (r1, r2))) (L := some ((-9 + (j : Int)), (-9 + (j_1 : Int)))) (R := some (r1, r2)) (okU_yes (by unfold mA; first | rw [if_pos (show k = 5 by assumption)] | rw [if_neg (show ¬ k = 5 by assumption)]) lo1 (by assumption) (by assumption) hs1 (by assumption)) (.inl ⟨trivial, rfl⟩) (.inr ⟨fun z => vneg (by unfold mA; first | rw [if_pos (show k = 5 by assumption)] | rw [if_neg (show ¬ k = 5 by assumption)]) hs2 (by assumption) z.1, rfl⟩)).symm), (by have hb2 := hbu.st (k := k) hX hY; rw [st_is (s := (none, some (r1, r2))) (L := some ((-9 + (j : Int)), (-9 + (j_1 : Int)))) (R := some (r1, r2)) (okU_yes (by unfold mA; first | rw [if_pos (show k = 5 by assumption)] | rw [if_neg (show ¬ k = 5 by assumption)]) lo1 (by assumption) (by assumption) hs1 (by assumption)) (.inl ⟨trivial, rfl⟩) (.inr ⟨fun z => vneg (by unfold mA; first | rw [if_pos (show k = 5 by assumption)] | rw [if_neg (show ¬ k = 5 by assumption)]) hs2 (by assumption) z.1, rfl⟩)] at hb2; exact hb2), rfl, rfl⟩
              | exact ⟨_, _, _, _, (some ((-9 + (j : Int)), (-9 + (j_1 : Int))), some ((-9 + (j : Int)), (-9 + (j_1 : Int)))), (by rw [rowU, ← hs]; exact (st_is (s := (none, some (r1, r2))) (L := some ((-9 + (j : Int)), (-9 + (j_1 : Int)))) (R := some ((-9 + (j : Int)), (-9 + (j_1 : Int)))) (okU_yes (by unfold mA; first | rw [if_pos (show k = 5 by assumption)] | rw [if_neg (show ¬ k = 5 by assumption)]) lo1 (by assumption) (by assumption) hs1 (by assumption)) (.inl ⟨trivial, rfl⟩) (.inl ⟨⟨vpos (by unfold mA; first | rw [if_pos (show k = 5 by assumption)] | rw [if_neg (show ¬ k = 5 by assumption)]) hs2 (by assumption), lsU_t lo2 hs3 (by assumption)⟩, rfl⟩)).symm), (by have hb2 := hbu.st (k := k) hX hY; rw [st_is (s := (none, some (r1, r2))) (L := some ((-9 + (j : Int)), (-9 + (j_1 : Int)))) (R := some ((-9 + (j : Int)), (-9 + (j_1 : Int)))) (okU_yes (by unfold mA; first | rw [if_pos (show k = 5 by assumption)] | rw [if_neg (show ¬ k = 5 by assumption)]) lo1 (by assumption) (by assumption) hs1 (by assumption)) (.inl ⟨trivial, rfl⟩) (.inl ⟨⟨vpos (by unfold mA; first | rw [if_pos (show k = 5 by assumption)] | rw [if_neg (show ¬ k = 5 by assumption)]) hs2 (by assumption), lsU_t lo2 hs3 (by assumption)⟩, rfl⟩)] at hb2; exact hb2), rfl, rfl⟩
              | exact ⟨_, _, _, _, (some ((-9 + (j : Int)), (-9 + (j_1 : Int))), some (r1, r2)), (by rw [rowU, ← hs]; exact (st_is (s := (none, some (r1, r2))) (L := some ((-9 + (j : Int)), (-9 + (j_1 : Int)))) (R := some (r1, r2)) (okU_yes (by unfold mA; first | rw [if_pos (show k = 5 by assumption)] | rw [if_neg (show ¬ k = 5 by assumption)]) lo1 (by assumption) (by assumption) hs1 (by assumption)) (.inl ⟨trivial, rfl⟩) (.inr ⟨fun z => lsU_f lo2 hs3 (by assumption) z.2, rfl⟩)).symm), (by have hb2 := hbu.st (k := k) hX hY; rw [st_is (s := (none, some (r1, r2))) (L := some ((-9 + (j : Int)), (-9 + (j_1 : Int)))) (R := some (r1, r2)) (okU_yes (by unfold mA; first | rw [if_pos (show k = 5 by assumption)] | rw [if_neg (show ¬ k = 5 by assumption)]) lo1 (by assumption) (by assumption) hs1 (by assumption)) (.inl ⟨trivial, rfl⟩) (.inr ⟨fun z => lsU_f lo2 hs3 (by assumption) z.2, rfl⟩)] at hb2; exact hb2), rfl, rfl⟩
              | exact ⟨_, _, _, _, (none, some (r1, r2)), (by rw [rowU, ← hs]; exact (st_no (s := (none, some (r1, r2))) (okU_no1 (by unfold mA; first | rw [if_pos (show k = 5 by assumption)] | rw [if_neg (show ¬ k = 5 by assumption)]) lo1 (by assumption))).symm), (by have hb2 := hbu.st (k := k) hX hY; rw [st_no (s := (none, some (r1, r2))) (okU_no1 (by unfold mA; first | rw [if_pos (show k = 5 by assumption)] | rw [if_neg (show ¬ k = 5 by assumption)]) lo1 (by assumption))] at hb2; exact hb2), rfl, rfl⟩
              | exact ⟨_, _, _, _, (none, some (r1, r2)), (by rw [rowU, ← hs]; exact (st_no (s := (none, some (r1, r2))) (okU_no2 (by unfold mA; first | rw [if_pos (show k = 5 by assumption)] | rw [if_neg (show ¬ k = 5 by assumption)]) lo1 (by assumption))).symm), (by have hb2 := hbu.st (k := k) hX hY; rw [st_no (s := (none, some (r1, r2))) (okU_no2 (by unfold mA; first | rw [if_pos (show k = 5 by assumption)] | rw [if_neg (show ¬ k = 5 by assumption)]) lo1 (by assumption))] at hb2; exact hb2), rfl, rfl⟩
              | exact ⟨_, _, _, _, (none, some (r1, r2)), (by rw [rowU, ← hs]; exact (st_no (s := (none, some (r1, r2))) (okU_no3 hs1 (by assumption))).symm), (by have hb2 := hbu.st (k := k) hX hY; rw [st_no (s := (none, some (r1, r2))) (okU_no3 hs1 (by assumption))] at hb2; exact hb2), rfl, rfl⟩
        ·
          refine (as_par (i := 5) (j := 6) ?h59 rfl (ca_cons (c_tup (ca_cons (nm 3 rfl (ca_cons (nm 4 rfl (ca_cons (c_int (ca_nil (And.intro (And.intro rfl (Nat.le_of_ble_eq_true rfl)) (ca_cons (c_if (t_eqI (nm 0 rfl (c_int (And.intro (fun b21 => (c_tup (ca_cons (c_add (nm 3 rfl (nm 4 rfl (ca_cons (c_neg (nm 4 rfl (ca_cons (c_int (ca_nil (And.intro (And.intro rfl (Nat.le_of_ble_eq_true rfl)) (ca_nil ⟨_, _, rfl, (as_asg (i := 7) ?h60 (c_call c__law_times (hr.mono (by decide)) (ca_cons (nm 0 rfl (ca_cons (nm 5 rfl (ca_cons (nm 6 rfl (ca_nil ⟨_, _, _, _, _, _, _, 12, 12, rfl, ?h61, fun x1 y1 z1 lo1 nm1 hx1 hy1 hz1 => And.intro rfl (as_ifn (t_w (w_and (t_eqI (c_abs m_abs (ca_cons (c_ixTn (nm 7 rfl (c_int (And.intro (by decide) (ca_nil (c_int (And.intro (fun b22 => (w_and (t_eqI (c_ixTn (nm 7 rfl (c_int (And.intro (by decide) (c_int (And.intro (fun b23 => (w_and1 (t_gt (c_call c__law_sign (hr.mono (by decide)) (ca_cons (nm 0 rfl (ca_cons (c_tup (ca_cons (c_sub (nm 3 rfl (c_int (ca_cons (nm 4 rfl (ca_cons (c_int (ca_nil (And.intro (And.intro rfl (Nat.le_of_ble_eq_true rfl)) (ca_nil ⟨_, _, _, _, rfl, ?h62, fun s1 hs1 => And.intro rfl (c_int (And.intro (fun b24 => (as_ifn (t_w (w_or (t_isN (nm 1 rfl (w_or1 (t_lt (c_call c__law_sign (hr.mono (by decide)) (ca_cons (nm 0 rfl (ca_cons (c_call c__law_minus (hr.mono (by decide)) (ca_cons (nm 5 rfl (ca_cons (nm 1 rfl (ca_nil ⟨_, _, _, _, _, _, 12, 12, rfl, ?h63, fun x2 y2 z2 lo2 nm2 hx2 hy2 hz2 => And.intro rfl (ca_nil ⟨_, _, _, _, rfl, ?h64, fun s2 hs2 => And.intro rfl (c_int (And.intro (fun b25 => (as_asg (i := 1) ?h65 (nm 5 rfl (as_go (as_ifn (t_w (w_and (t_gt (c_call c__law_sign (hr.mono (by decide)) (ca_cons (nm 0 rfl (ca_cons (nm 6 rfl (ca_nil ⟨_, _, _, _, rfl, ?h66, fun s3 hs3 => And.intro rfl (c_int (And.intro (fun b26 => (w_and1 (t_w (w_or (t_isN (nm 2 rfl (as_asg (i := 2) ?h67 (nm 5 rfl (as_go (as_go (as_end rfl ?h68))))))))))) (fun b26 => (as_go (as_end rfl ?h69)))))⟩)))))))))))))) (fun b25 => (as_ifn (t_w (w_and (t_gt (c_call c__law_sign (hr.mono (by decide)) (ca_cons (nm 0 rfl (ca_cons (nm 6 rfl (ca_nil ⟨_, _, _, _, rfl, ?h70, fun s3 hs3 => And.intro rfl (c_int (And.intro (fun b27 => (w_and1 (t_w (w_or (t_isN (nm 2 rfl (as_asg (i := 2) ?h71 (nm 5 rfl (as_go (as_go (as_end rfl ?h72))))))))))) (fun b27 => (as_go (as_end rfl ?h73)))))⟩)))))))))))))⟩)⟩)))))))))))))))))) (fun b24 => (as_end rfl ?h74))))⟩))))))))))))))))))) (fun b23 => (as_end rfl ?h75))))))))))) (fun b22 => (as_end rfl ?h76)))))))))))))))⟩)))))))))⟩)))))))))))))) (fun b21 => (c_tup (ca_cons (nm 3 rfl (ca_cons (c_neg (nm 4 rfl (ca_cons (c_int (ca_nil (And.intro (And.intro rfl (Nat.le_of_ble_eq_true rfl)) (ca_nil ⟨_, _, rfl, (as_asg (i := 7) ?h77 (c_call c__law_times (hr.mono (by decide)) (ca_cons (nm 0 rfl (ca_cons (nm 5 rfl (ca_cons (nm 6 rfl (ca_nil ⟨_, _, _, _, _, _, _, 12, 12, rfl, ?h78, fun x1 y1 z1 lo1 nm1 hx1 hy1 hz1 => And.intro rfl (as_ifn (t_w (w_and (t_eqI (c_abs m_abs (ca_cons (c_ixTn (nm 7 rfl (c_int (And.intro (by decide) (ca_nil (c_int (And.intro (fun b28 => (w_and (t_eqI (c_ixTn (nm 7 rfl (c_int (And.intro (by decide) (c_int (And.intro (fun b29 => (w_and1 (t_gt (c_call c__law_sign (hr.mono (by decide)) (ca_cons (nm 0 rfl (ca_cons (c_tup (ca_cons (c_sub (nm 3 rfl (c_int (ca_cons (nm 4 rfl (ca_cons (c_int (ca_nil (And.intro (And.intro rfl (Nat.le_of_ble_eq_true rfl)) (ca_nil ⟨_, _, _, _, rfl, ?h79, fun s1 hs1 => And.intro rfl (c_int (And.intro (fun b30 => (as_ifn (t_w (w_or (t_isN (nm 1 rfl (w_or1 (t_lt (c_call c__law_sign (hr.mono (by decide)) (ca_cons (nm 0 rfl (ca_cons (c_call c__law_minus (hr.mono (by decide)) (ca_cons (nm 5 rfl (ca_cons (nm 1 rfl (ca_nil ⟨_, _, _, _, _, _, 12, 12, rfl, ?h80, fun x2 y2 z2 lo2 nm2 hx2 hy2 hz2 => And.intro rfl (ca_nil ⟨_, _, _, _, rfl, ?h81, fun s2 hs2 => And.intro rfl (c_int (And.intro (fun b31 => (as_asg (i := 1) ?h82 (nm 5 rfl (as_go (as_ifn (t_w (w_and (t_gt (c_call c__law_sign (hr.mono (by decide)) (ca_cons (nm 0 rfl (ca_cons (nm 6 rfl (ca_nil ⟨_, _, _, _, rfl, ?h83, fun s3 hs3 => And.intro rfl (c_int (And.intro (fun b32 => (w_and1 (t_w (w_or (t_isN (nm 2 rfl (as_asg (i := 2) ?h84 (nm 5 rfl (as_go (as_go (as_end rfl ?h85))))))))))) (fun b32 => (as_go (as_end rfl ?h86)))))⟩)))))))))))))) (fun b31 => (as_ifn (t_w (w_and (t_gt (c_call c__law_sign (hr.mono (by decide)) (ca_cons (nm 0 rfl (ca_cons (nm 6 rfl (ca_nil ⟨_, _, _, _, rfl, ?h87, fun s3 hs3 => And.intro rfl (c_int (And.intro (fun b33 => (w_and1 (t_w (w_or (t_isN (nm 2 rfl (as_asg (i := 2) ?h88 (nm 5 rfl (as_go (as_go (as_end rfl ?h89))))))))))) (fun b33 => (as_go (as_end rfl ?h90)))))⟩)))))))))))))⟩)⟩)))))))))))))))))) (fun b30 => (as_end rfl ?h91))))⟩))))))))))))))))))) (fun b29 => (as_end rfl ?h92))))))))))) (fun b28 => (as_end rfl ?h93)))))))))))))))⟩)))))))))⟩)))))))))))))))))))))))))))))
          case h59 =>
            exact sc__law_units.nd
          case h60 =>
            exact sc__law_units.nd
          case h61 =>
            exact ⟨hk, by decide, by decide, bd_s (by omega) (by decide), bd_s (by omega) (by decide), bd_s (by decide) (by decide), bd_s (by omega) (by decide), bd_s (by omega) (by decide), bd_s (by decide) (by decide), by decide⟩
          case h62 =>
            first | exact ⟨hk, bd_s (by omega) (by decide), bd_s (by omega) (by decide)⟩ | exact ⟨hk, hx2.mono (by decide), hy2.mono (by decide)⟩ | exact ⟨hk, hx3.mono (by decide), hy3.mono (by decide)⟩
          case h63 =>
            first | exact ⟨by decide, by decide, bd_s (by omega) (by decide), bd_s (by omega) (by decide), bd_s (by decide) (by decide), (hbu.1 _ rfl).1, (hbu.1 _ rfl).2, bd_s (by decide) (by decide), by decide⟩ | exact ⟨by decide, by decide, bd_s (by omega) (by decide), bd_s (by omega) (by decide), bd_s (by decide) (by decide), (hbu.2 _ rfl).1, (hbu.2 _ rfl).2, bd_s (by decide) (by decide), by decide⟩
          case h64 =>
            first | exact ⟨hk, bd_s (by omega) (by decide), bd_s (by omega) (by decide)⟩ | exact ⟨hk, hx2.mono (by decide), hy2.mono (by decide)⟩ | exact ⟨hk, hx3.mono (by decide), hy3.mono (by decide)⟩
          case h65 =>
            exact sc__law_units.nd
          case h66 =>
            first | exact ⟨hk, bd_s (by omega) (by decide), bd_s (by omega) (by decide)⟩ | exact ⟨hk, hx2.mono (by decide), hy2.mono (by decide)⟩ | exact ⟨hk, hx3.mono (by decide), hy3.mono (by decide)⟩
          case h67 =>
            exact sc__law_units.nd
          case h68 =>
            first
              | exact ⟨_, _, _, _, (some ((-9 + (j : Int)), (-9 + (j_1 : Int))), none), (by rw [rowU, ← hs]; exact (st_is (s := (some (p1, p2), none)) (L := some ((-9 + (j : Int)), (-9 + (j_1 : Int)))) (R := none) (okU_yes (by unfold mA; first | rw [if_pos (show k = 5 by assumption)] | rw [if_neg (show ¬ k = 5 by assumption)]) lo1 (by assumption) (by assumption) hs1 (by assumption)) (.inl ⟨lsU_t lo2 hs2 (by assumption), rfl⟩) (.inr ⟨fun z => vneg (by unfold mA; first | rw [if_pos (show k = 5 by assumption)] | rw [if_neg (show ¬ k = 5 by assumption)]) hs3 (by assumption) z.1, rfl⟩)).symm), (by have hb2 := hbu.st (k := k) hX hY; rw [st_is (s := (some (p1, p2), none)) (L := some ((-9 + (j : Int)), (-9 + (j_1 : Int)))) (R := none) (okU_yes (by unfold mA; first | rw [if_pos (show k = 5 by assumption)] | rw [if_neg (show ¬ k = 5 by assumption)]) lo1 (by assumption) (by assumption) hs1 (by assumption)) (.inl ⟨lsU_t lo2 hs2 (by assumption), rfl⟩) (.inr ⟨fun z => vneg (by unfold mA; first | rw [if_pos (show k = 5 by assumption)] | rw [if_neg (show ¬ k = 5 by assumption)]) hs3 (by assumption) z.1, rfl⟩)] at hb2; exact hb2), rfl, rfl⟩
              | exact ⟨_, _, _, _, (some ((-9 + (j : Int)), (-9 + (j_1 : Int))), some ((-9 + (j : Int)), (-9 + (j_1 : Int)))), (by rw [rowU, ← hs]; exact (st_is (s := (some (p1, p2), none)) (L := some ((-9 + (j : Int)), (-9 + (j_1 : Int)))) (R := some ((-9 + (j : Int)), (-9 + (j_1 : Int)))) (okU_yes (by unfold mA; first | rw [if_pos (show k = 5 by assumption)] | rw [if_neg (show ¬ k = 5 by assumption)]) lo1 (by assumption) (by assumption) hs1 (by assumption)) (.inl ⟨lsU_t lo2 hs2 (by assumption), rfl⟩) (.inl ⟨⟨vpos (by unfold mA; first | rw [if_pos (show k = 5 by assumption)] | rw [if_neg (show ¬ k = 5 by assumption)]) hs3 (by assumption), trivial⟩, rfl⟩)).symm), (by have hb2 := hbu.st (k := k) hX hY; rw [st_is (s := (some (p1, p2), none)) (L := some ((-9 + (j : Int)), (-9 + (j_1 : Int)))) (R := some ((-9 + (j : Int)), (-9 + (j_1 : Int)))) (okU_yes (by unfold mA; first | rw [if_pos (show k = 5 by assumption)] | rw [if_neg (show ¬ k = 5 by assumption)]) lo1 (by assumption) (by assumption) hs1 (by assumption)) (.inl ⟨lsU_t lo2 hs2 (by assumption), rfl⟩) (.inl ⟨⟨vpos (by unfold mA; first | rw [if_pos (show k = 5 by assumption)] | rw [if_neg (show ¬ k = 5 by assumption)]) hs3 (by assumption), trivial⟩, rfl⟩)] at hb2; exact hb2), rfl, rfl⟩
              | exact ⟨_, _, _, _, (some (p1, p2), none), (by rw [rowU, ← hs]; exact (st_is (s := (some (p1, p2), none)) (L := some (p1, p2)) (R := none) (okU_yes (by unfold mA; first | rw [if_pos (show k = 5 by assumption)] | rw [if_neg (show ¬ k = 5 by assumption)]) lo1 (by assumption) (by assumption) hs1 (by assumption)) (.inr ⟨lsU_f lo2 hs2 (by assumption), rfl⟩) (.inr ⟨fun z => vneg (by unfold mA; first | rw [if_pos (show k = 5 by assumption)] | rw [if_neg (show ¬ k = 5 by assumption)]) hs3 (by assumption) z.1, rfl⟩)).symm), (by have hb2 := hbu.st (k := k) hX hY; rw [st_is (s := (some (p1, p2), none)) (L := some (p1, p2)) (R := none) (okU_yes (by unfold mA; first | rw [if_pos (show k = 5 by assumption)] | rw [if_neg (show ¬ k = 5 by assumption)]) lo1 (by assumption) (by assumption) hs1 (by assumption)) (.inr ⟨lsU_f lo2 hs2 (by assumption), rfl⟩) (.inr ⟨fun z => vneg (by unfold mA; first | rw [if_pos (show k = 5 by assumption)] | rw [if_neg (show ¬ k = 5 by assumption)]) hs3 (by assumption) z.1, rfl⟩)] at hb2; exact hb2), rfl, rfl⟩
              | exact ⟨_, _, _, _, (some (p1, p2), some ((-9 + (j : Int)), (-9 + (j_1 : Int)))), (by rw [rowU, ← hs]; exact (st_is (s := (some (p1, p2), none)) (L := some (p1, p2)) (R := some ((-9 + (j : Int)), (-9 + (j_1 : Int)))) (okU_yes (by unfold mA; first | rw [if_pos (show k = 5 by assumption)] | rw [if_neg (show ¬ k = 5 by assumption)]) lo1 (by assumption) (by assumption) hs1 (by assumption)) (.inr ⟨lsU_f lo2 hs2 (by assumption), rfl⟩) (.inl ⟨⟨vpos (by unfold mA; first | rw [if_pos (show k = 5 by assumption)] | rw [if_neg (show ¬ k = 5 by assumption)]) hs3 (by assumption), trivial⟩, rfl⟩)).symm), (by have hb2 := hbu.st (k := k) hX hY; rw [st_is (s := (some (p1, p2), none)) (L := some (p1, p2)) (R := some ((-9 + (j : Int)), (-9 + (j_1 : Int)))) (okU_yes (by unfold mA; first | rw [if_pos (show k = 5 by assumption)] | rw [if_neg (show ¬ k = 5 by assumption)]) lo1 (by assumption) (by assumption) hs1 (by assumption)) (.inr ⟨lsU_f lo2 hs2 (by assumption), rfl⟩) (.inl ⟨⟨vpos (by unfold mA; first | rw [if_pos (show k = 5 by assumption)] | rw [if_neg (show ¬ k = 5 by assumption)]) hs3 (by assumption), trivial⟩, rfl⟩)] at hb2; exact hb2), rfl, rfl⟩
              | exact ⟨_, _, _, _, (some (p1, p2), none), (by rw [rowU, ← hs]; exact (st_no (s := (some (p1, p2), none)) (okU_no1 (by unfold mA; first | rw [if_pos (show k = 5 by assumption)] | rw [if_neg (show ¬ k = 5 by assumption)]) lo1 (by assumption))).symm), (by have hb2 := hbu.st (k := k) hX hY; rw [st_no (s := (some (p1, p2), none)) (okU_no1 (by unfold mA; first | rw [if_pos (show k = 5 by assumption)] | rw [if_neg (show ¬ k = 5 by assumption)]) lo1 (by assumption))] at hb2; exact hb2), rfl, rfl⟩
              | exact ⟨_, _, _, _, (some (p1, p2), none), (by rw [rowU, ← hs]; exact (st_no (s := (some (p1, p2), none)) (okU_no2 (by unfold mA; first | rw [if_pos (show k = 5 by assumption)] | rw [if_neg (show ¬ k = 5 by assumption)]) lo1 (by assumption))).symm), (by have hb2 := hbu.st (k := k) hX hY; rw [st_no (s := (some (p1, p2), none)) (okU_no2 (by unfold mA; first | rw [if_pos (show k = 5 by assumption)] | rw [if_neg (show ¬ k = 5 by assumption)]) lo1 (by assumption))] at hb2; exact hb2), rfl, rfl⟩
              | exact ⟨_, _, _, _, (some (p1, p2), none), (by rw [rowU, ← hs]; exact (st_no (s := (some (p1, p2), none)) (okU_no3 hs1 (by assumption))).symm), (by have hb2 := hbu.st (k := k) hX hY; rw [st_no (s := (some (p1, p2), none)) (okU_no3 hs1 (by assumption))] at hb2; exact hb2), rfl, rfl⟩
          case h69 =>
            first
              | exact ⟨_, _, _, _, (some ((-9 + (j : Int)), (-9 + (j_1 : Int))), none), (by rw [rowU, ← hs]; exact (st_is (s := (some (p1, p2), none)) (L := some ((-9 + (j : Int)), (-9 + (j_1 : Int)))) (R := none) (okU_yes (by unfold mA; first | rw [if_pos (show k = 5 by assumption)] | rw [if_neg (show ¬ k = 5 by assumption)]) lo1 (by assumption) (by assumption) hs1 (by assumption)) (.inl ⟨lsU_t lo2 hs2 (by assumption), rfl⟩) (.inr ⟨fun z => vneg (by unfold mA; first | rw [if_pos (show k = 5 by assumption)] | rw [if_neg (show ¬ k = 5 by assumption)]) hs3 (by assumption) z.1, rfl⟩)).symm), (by have hb2 := hbu.st (k := k) hX hY; rw [st_is (s := (some (p1, p2), none)) (L := some ((-9 + (j : Int)), (-9 + (j_1 : Int)))) (R := none) (okU_yes (by unfold mA; first | rw [if_pos (show k = 5 by assumption)] | rw [if_neg (show ¬ k = 5 by assumption)]) lo1 (by assumption) (by assumption) hs1 (by assumption)) (.inl ⟨lsU_t lo2 hs2 (by assumption), rfl⟩) (.inr ⟨fun z => vneg (by unfold mA; first | rw [if_pos (show k = 5 by assumption)] | rw [if_neg (show ¬ k = 5 by assumption)]) hs3 (by assumption) z.1, rfl⟩)] at hb2; exact hb2), rfl, rfl⟩
              | exact ⟨_, _, _, _, (some ((-9 + (j : Int)), (-9 + (j_1 : Int))), some ((-9 + (j : Int)), (-9 + (j_1 : Int)))), (by rw [rowU, ← hs]; exact (st_is (s := (some (p1, p2), none)) (L := some ((-9 + (j : Int)), (-9 + (j_1 : Int)))) (R := some ((-9 + (j : Int)), (-9 + (j_1 : Int)))) (okU_yes (by unfold mA; first | rw [if_pos (show k = 5 by assumption)] | rw [if_neg (show ¬ k = 5 by assumption)]) lo1 (by assumption) (by assumption) hs1 (by assumption)) (.inl ⟨lsU_t lo2 hs2 (by assumption), rfl⟩) (.inl ⟨⟨vpos (by unfold mA; first | rw [if_pos (show k = 5 by assumption)] | rw [if_neg (show ¬ k = 5 by assumption)]) hs3 (by assumption), trivial⟩, rfl⟩)).symm), (by have hb2 := hbu.st (k := k) hX hY; rw [st_is (s := (some (p1, p2), none)) (L := some ((-9 + (j : Int)), (-9 + (j_1 : Int)))) (R := some ((-9 + (j : Int)), (-9 + (j_1 : Int)))) (okU_yes (by unfold mA; first | rw [if_pos (show k = 5 by assumption)] | rw [if_neg (show ¬ k = 5 by assumption)]) lo1 (by assumption) (by assumption) hs1 (by assumption)) (.inl ⟨lsU_t lo2 hs2 (by assumption), rfl⟩) (.inl ⟨⟨vpos (by unfold mA; first | rw [if_pos (show k = 5 by assumption)] | rw [if_neg (show ¬ k = 5 by assumption)]) hs3 (by assumption), trivial⟩, rfl⟩)] at hb2; exact hb2), rfl, rfl⟩
              | exact ⟨_, _, _, _, (some (p1, p2), none), (by rw [rowU, ← hs]; exact (st_is (s := (some (p1, p2), none)) (L := some (p1, p2)) (R := none) (okU_yes (by unfold mA; first | rw [if_pos (show k = 5 by assumption)] | rw [if_neg (show ¬ k = 5 by assumption)]) lo1 (by assumption) (by assumption) hs1 (by assumption)) (.inr ⟨lsU_f lo2 hs2 (by assumption), rfl⟩) (.inr ⟨fun z => vneg (by unfold mA; first | rw [if_pos (show k = 5 by assumption)] | rw [if_neg (show ¬ k = 5 by assumption)]) hs3 (by assumption) z.1, rfl⟩)).symm), (by have hb2 := hbu.st (k := k) hX hY; rw [st_is (s := (some (p1, p2), none)) (L := some (p1, p2)) (R := none) (okU_yes (by unfold mA; first | rw [if_pos (show k = 5 by assumption)] | rw [if_neg (show ¬ k = 5 by assumption)]) lo1 (by assumption) (by assumption) hs1 (by assumption)) (.inr ⟨lsU_f lo2 hs2 (by assumption), rfl⟩) (.inr ⟨fun z => vneg (by unfold mA; first | rw [if_pos (show k = 5 by assumption)] | rw [if_neg (show ¬ k = 5 by assumption)]) hs3 (by assumption) z.1, rfl⟩)] at hb2; exact hb2), rfl, rfl⟩
              | exact ⟨_, _, _, _, (some (p1, p2), some ((-9 + (j : Int)), (-9 + (j_1 : Int)))), (by rw [rowU, ← hs]; exact (st_is (s := (some (p1, p2), none)) (L := some (p1, p2)) (R := some ((-9 + (j : Int)), (-9 + (j_1 : Int)))) (okU_yes (by unfold mA; first | rw [if_pos (show k = 5 by assumption)] | rw [if_neg (show ¬ k = 5 by assumption)]) lo1 (by assumption) (by assumption) hs1 (by assumption)) (.inr ⟨lsU_f lo2 hs2 (by assumption), rfl⟩) (.inl ⟨⟨vpos (by unfold mA; first | rw [if_pos (show k = 5 by assumption)] | rw [if_neg (show ¬ k = 5 by assumption)]) hs3 (by assumption), trivial⟩, rfl⟩)).symm), (by have hb2 := hbu.st (k := k) hX hY; rw [st_is (s := (some (p1, p2), none)) (L := some (p1, p2)) (R := some ((-9 + (j : Int)), (-9 + (j_1 : Int)))) (okU_yes (by unfold mA; first | rw [if_pos (show k = 5 by assumption)] | rw [if_neg (show ¬ k = 5 by assumption)]) lo1 (by assumption) (by assumption) hs1 (by assumption)) (.inr ⟨lsU_f lo2 hs2 (by assumption), rfl⟩) (.inl ⟨⟨vpos (by unfold mA; first | rw [if_pos (show k = 5 by assumption)] | rw [if_neg (show ¬ k = 5 by assumption)]) hs3 (by assumption), trivial⟩, rfl⟩)] at hb2; exact hb2), rfl, rfl⟩
              | exact ⟨_, _, _, _, (some (p1, p2), none), (by rw [rowU, ← hs]; exact (st_no (s := (some (p1, p2), none)) (okU_no1 (by unfold mA; first | rw [if_pos (show k = 5 by assumption)] | rw [if_neg (show ¬ k = 5 by assumption)]) lo1 (by assumption))).symm), (by have hb2 := hbu.st (k := k) hX hY; rw [st_no (s := (some (p1, p2), none)) (okU_no1 (by unfold mA; first | rw [if_pos (show k = 5 by assumption)] | rw [if_neg (show ¬ k = 5 by assumption)]) lo1 (by assumption))] at hb2; exact hb2), rfl, rfl⟩
              | exact ⟨_, _, _, _, (some (p1, p2), none), (by rw [rowU, ← hs]; exact (st_no (s := (some (p1, p2), none)) (okU_no2 (by unfold mA; first | rw [if_pos (show k = 5 by assumption)] | rw [if_neg (show ¬ k = 5 by assumption)]) lo1 (by assumption))).symm), (by have hb2 := hbu.st (k := k) hX hY; rw [st_no (s := (some (p1, p2), none)) (okU_no2 (by unfold mA; first | rw [if_pos (show k = 5 by assumption)] | rw [if_neg (show ¬ k = 5 by assumption)]) lo1 (by assumption))] at hb2; exact hb2), rfl, rfl⟩
              | exact ⟨_, _, _, _, (some (p1, p2), none), (by rw [rowU, ← hs]; exact (st_no (s := (some (p1, p2), none)) (okU_no3 hs1 (by assumption))).symm), (by have hb2 := hbu.st (k := k) hX hY; rw [st_no (s := (some (p1, p2), none)) (okU_no3 hs1 (by assumption))] at hb2; exact hb2), rfl, rfl⟩
          case h70 =>
            first | exact ⟨hk, bd_s (by omega) (by decide), bd_s (by omega) (by decide)⟩ | exact ⟨hk, hx2.mono (by decide), hy2.mono (by decide)⟩ | exact ⟨hk, hx3.mono (by decide), hy3.mono (by decide)⟩
          case h71 =>
            exact sc__law_units.nd
          case h72 =>
            first
              | exact ⟨_, _, _, _, (some ((-9 + (j : Int)), (-9 + (j_1 : Int))), none), (by rw [rowU, ← hs]; exact (st_is (s := (some (p1, p2), none)) (L := some ((-9 + (j : Int)), (-9 + (j_1 : Int)))) (R := none) (okU_yes (by unfold mA; first | rw [if_pos (show k = 5 by assumption)] | rw [if_neg (show ¬ k = 5 by assumption)]) lo1 (by assumption) (by assumption) hs1 (by assumption)) (.inl ⟨lsU_t lo2 hs2 (by assumption), rfl⟩) (.inr ⟨fun z => vneg (by unfold mA; first | rw [if_pos (show k = 5 by assumption)] | rw [if_neg (show ¬ k = 5 by assumption)]) hs3 (by assumption) z.1, rfl⟩)).symm), (by have hb2 := hbu.st (k := k) hX hY; rw [st_is (s := (some (p1, p2), none)) (L := some ((-9 + (j : Int)), (-9 + (j_1 : Int)))) (R := none) (okU_yes (by unfold mA; first | rw [if_pos (show k = 5 by assumption)] | rw [if_neg (show ¬ k = 5 by assumption)]) lo1 (by assumption) (by assumption) hs1 (by assumption)) (.inl ⟨lsU_t lo2 hs2 (by assumption), rfl⟩) (.inr ⟨fun z => vneg (by unfold mA; first | rw [if_pos (show k = 5 by assumption)] | rw [if_neg (show ¬ k = 5 by assumption)]) hs3 (by assumption) z.1, rfl⟩)] at hb2; exact hb2), rfl, rfl⟩
              | exact ⟨_, _, _, _, (some ((-9 + (j : Int)), (-9 + (j_1 : Int))), some ((-9 + (j : Int)), (-9 + (j_1 : Int)))), (by rw [rowU, ← hs]; exact (st_is (s := (some (p1, p2), none)) (L := some ((-9 + (j : Int)), (-9 + (j_1 : Int)))) (R := some ((-9 + (j : Int)), (-9 + (j_1 : Int)))) (okU_yes (by unfold mA; first | rw [if_pos (show k = 5 by assumption)] | rw [if_neg (show ¬ k = 5 by assumption)]) lo1 (by assumption) (by assumption) hs1 (by assumption)) (.inl ⟨lsU_t lo2 hs2 (by assumption), rfl⟩) (.inl ⟨⟨vpos (by unfold mA; first | rw [if_pos (show k = 5 by assumption)] | rw [if_neg (show ¬ k = 5 by assumption)]) hs3 (by assumption), trivial⟩, rfl⟩)).symm), (by have hb2 := hbu.st (k := k) hX hY; rw [st_is (s := (some (p1, p2), none)) (L := some ((-9 + (j : Int)), (-9 + (j_1 : Int)))) (R := some ((-9 + (j : Int)), (-9 + (j_1 : Int)))) (okU_yes (by unfold mA; first | rw [if_pos (show k = 5 by assumption)] | rw [if_neg (show ¬ k = 5 by assumption)]) lo1 (by assumption) (by assumption) hs1 (by assumption)) (.inl ⟨lsU_t lo2 hs2 (by assumption), rfl⟩) (.inl ⟨⟨vpos (by unfold mA; first | rw [if_pos (show k = 5 by assumption)] | rw [if_neg (show ¬ k = 5 by assumption)]) hs3 (by assumption), trivial⟩, rfl⟩)] at hb2; exact hb2), rfl, rfl⟩
              | exact ⟨_, _, _, _, (some (p1, p2), none), (by rw [rowU, ← hs]; exact (st_is (s := (some (p1, p2), none)) (L := some (p1, p2)) (R := none) (okU_yes (by unfold mA; first | rw [if_pos (show k = 5 by assumption)] | rw [if_neg (show ¬ k = 5 by assumption)]) lo1 (by assumption) (by assumption) hs1 (by assumption)) (.inr ⟨lsU_f lo2 hs2 (by assumption), rfl⟩) (.inr ⟨fun z => vneg (by unfold mA; first | rw [if_pos (show k = 5 by assumption)] | rw [if_neg (show ¬ k = 5 by assumption)]) hs3 (by assumption) z.1, rfl⟩)).symm), (by have hb2 := hbu.st (k := k) hX hY; rw [st_is (s := (some (p1, p2), none)) (L := some (p1, p2)) (R := none) (okU_yes (by unfold mA; first | rw [if_pos (show k = 5 by assumption)] | rw [if_neg (show ¬ k = 5 by assumption)]) lo1 (by assumption) (by assumption) hs1 (by assumption)) (.inr ⟨lsU_f lo2 hs2 (by assumption), rfl⟩) (.inr ⟨fun z => vneg (by unfold mA; first | rw [if_pos (show k = 5 by assumption)] | rw [if_neg (show ¬ k = 5 by assumption)]) hs3 (by assumption) z.1, rfl⟩)] at hb2; exact hb2), rfl, rfl⟩
              | exact ⟨_, _, _, _, (some (p1, p2), some ((-9 + (j : Int)), (-9 + (j_1 : Int)))), (by rw [rowU, ← hs]; exact (st_is (s := (some (p1, p2), none)) (L := some (p1, p2)) (R := some ((-9 + (j : Int)), (-9 + (j_1 : Int)))) (okU_yes (by unfold mA; first | rw [if_pos (show k = 5 by assumption)] | rw [if_neg (show ¬ k = 5 by assumption)]) lo1 (by assumption) (by assumption) hs1 (by assumption)) (.inr ⟨lsU_f lo2 hs2 (by assumption), rfl⟩) (.inl ⟨⟨vpos (by unfold mA; first | rw [if_pos (show k = 5 by assumption)] | rw [if_neg (show ¬ k = 5 by assumption)]) hs3 (by assumption), trivial⟩, rfl⟩)).symm), (by have hb2 := hbu.st (k := k) hX hY; rw [st_is (s := (some (p1, p2), none)) (L := some (p1, p2)) (R := some ((-9 + (j : Int)), (-9 + (j_1 : Int)))) (okU_yes (by unfold mA; first | rw [if_pos (show k = 5 by assumption)] | rw [if_neg (show ¬ k = 5 by assumption)]) lo1 (by assumption) (by assumption) hs1 (by assumption)) (.inr ⟨lsU_f lo2 hs2 (by assumption), rfl⟩) (.inl ⟨⟨vpos (by unfold mA; first | rw [if_pos (show k = 5 by assumption)] | rw [if_neg (show ¬ k = 5 by assumption)]) hs3 (by assumption), trivial⟩, rfl⟩)] at hb2; exact hb2), rfl, rfl⟩
              | exact ⟨_, _, _, _, (some (p1, p2), none), (by rw [rowU, ← hs]; exact (st_no (s := (some (p1, p2), none)) (okU_no1 (by unfold mA; first | rw [if_pos (show k = 5 by assumption)] | rw [if_neg (show ¬ k = 5 by assumption)]) lo1 (by assumption))).symm), (by have hb2 := hbu.st (k := k) hX hY; rw [st_no (s := (some (p1, p2), none)) (okU_no1 (by unfold mA; first | rw [if_pos (show k = 5 by assumption)] | rw [if_neg (show ¬ k = 5 by assumption)]) lo1 (by assumption))] at hb2; exact hb2), rfl, rfl⟩
              | exact ⟨_, _, _, _, (some (p1, p2), none), (by rw [rowU, ← hs]; exact (st_no (s := (some (p1, p2), none)) (okU_no2 (by unfold mA; first | rw [if_pos (show k = 5 by assumption)] | rw [if_neg (show ¬ k = 5 by assumption)]) lo1 (by assumption))).symm), (by have hb2 := hbu.st (k := k) hX hY; rw [st_no (s := (some (p1, p2), none)) (okU_no2 (by unfold mA; first | rw [if_pos (show k = 5 by assumption)] | rw [if_neg (show ¬ k = 5 by assumption)]) lo1 (by assumption))] at hb2; exact hb2), rfl, rfl⟩
              | exact ⟨_, _, _, _, (some (p1, p2), none), (by rw [rowU, ← hs]; exact (st_no (s := (some (p1, p2), none)) (okU_no3 hs1 (by assumption))).symm), (by have hb2 := hbu.st (k := k) hX hY; rw [st_no (s := (some (p1, p2), none)) (okU_no3 hs1 (by assumption))] at hb2; exact hb2), rfl, rfl⟩
          case h73 =>
            first
              | exact ⟨_, _, _, _, (some ((-9 + (j : Int)), (-9 + (j_1 : Int))), none), (by rw [rowU, ← hs]; exact (st_is (s := (some (p1, p2), none)) (L := some ((-9 + (j : Int)), (-9 + (j_1 : Int)))) (R := none) (okU_yes (by unfold mA; first | rw [if_pos (show k = 5 by assumption)] | rw [if_neg (show ¬ k = 5 by assumption)]) lo1 (by assumption) (by assumption) hs1 (by assumption)) (.inl ⟨lsU_t lo2 hs2 (by assumption), rfl⟩) (.inr ⟨fun z => vneg (by unfold mA; first | rw [if_pos (show k = 5 by assumption)] | rw [if_neg (show ¬ k = 5 by assumption)]) hs3 (by assumption) z.1, rfl⟩)).symm), (by have hb2 := hbu.st (k := k) hX hY; rw [st_is (s := (some (p1, p2), none)) (L := some ((-9 + (j : Int)), (-9 + (j_1 : Int)))) (R := none) (okU_yes (by unfold mA; first | rw [if_pos (show k = 5 by assumption)] | rw [if_neg (show ¬ k = 5 by assumption)]) lo1 (by assumption) (by assumption) hs1 (by assumption)) (.inl ⟨lsU_t lo2 hs2 (by assumption), rfl⟩) (.inr ⟨fun z => vneg (by unfold mA; first | rw [if_pos (show k = 5 by assumption)] | rw [if_neg (show ¬ k = 5 by assumption)]) hs3 (by assumption) z.1, rfl⟩)] at hb2; exact hb2), rfl, rfl⟩
              | exact ⟨_, _, _, _, (some ((-9 + (j : Int)), (-9 + (j_1 : Int))), some ((-9 + (j : Int)), (-9 + (j_1 : Int)))), (by rw [rowU, ← hs]; exact (st_is (s := (some (p1, p2), none)) (L := some ((-9 + (j : Int)), (-9 + (j_1 : Int)))) (R := some ((-9 + (j : Int)), (-9 + (j_1 : Int)))) (okU_yes (by unfold mA; first | rw [if_pos (show k = 5 by assumption)] | rw [if_neg (show ¬ k = 5 by assumption)]) lo1 (by assumption) (by assumption) hs1 (by assumption)) (.inl ⟨lsU_t lo2 hs2 (by assumption), rfl⟩) (.inl ⟨⟨vpos (by unfold mA; first | rw [if_pos (show k = 5 by assumption)] | rw [if_neg (show ¬ k = 5 by assumption)]) hs3 (by assumption), trivial⟩, rfl⟩)).symm), (by have hb2 := hbu.st (k := k) hX hY; rw [st_is (s := (some (p1, p2), none)) (L := some ((-9 + (j : Int)), (-9 + (j_1 : Int)))) (R := some ((-9 + (j : Int)), (-9 + (j_1 : Int)))) (okU_yes (by unfold mA; first | rw [if_pos (show k = 5 by assumption)] | rw [if_neg (show ¬ k = 5 by assumption)]) lo1 (by assumption) (by assumption) hs1 (by assumption)) (.inl ⟨lsU_t lo2 hs2 (by assumption), rfl⟩) (.inl ⟨⟨vpos (by unfold mA; first | rw [if_pos (show k = 5 by assumption)] | rw [if_neg (show ¬ k = 5 by assumption)]) hs3 (by assumption), trivial⟩, rfl⟩)] at hb2; exact hb2), rfl, rfl⟩
              | exact ⟨_, _, _, _, (some (p1, p2), none), (by rw [rowU, ← hs]; exact (st_is (s := (some (p1, p2), none)) (L := some (p1, p2)) (R := none) (okU_yes (by unfold mA; first | rw [if_pos (show k = 5 by assumption)] | rw [if_neg (show ¬ k = 5 by assumption)]) lo1 (by assumption) (by assumption) hs1 (by assumption)) (.inr ⟨lsU_f lo2 hs2 (by assumption), rfl⟩) (.inr ⟨fun z => vneg (by unfold mA; first | rw [if_pos (show k = 5 by assumption)] | rw [if_neg (show ¬ k = 5 by assumption)]) hs3 (by assumption) z.1, rfl⟩)).symm), (by have hb2 := hbu.st (k := k) hX hY; rw [st_is (s := (some (p1, p2), none)) (L := some (p1, p2)) (R := none) (okU_yes (by unfold mA; first | rw [if_pos (show k = 5 by assumption)] | rw [if_neg (show ¬ k = 5 by assumption)]) lo1 (by assumption) (by assumption) hs1 (by assumption)) (.inr ⟨lsU_f lo2 hs2 (by assumption), rfl⟩) (.inr ⟨fun z => vneg (by unfold mA; first | rw [if_pos (show k = 5 by assumption)] | rw [if_neg (show ¬ k = 5 by assumption)]) hs3 (by assumption) z.1, rfl⟩)] at hb2; exact hb2), rfl, rfl⟩
              | exact ⟨_, _, _, _, (some (p1, p2), some ((-9 + (j : Int)), (-9 + (j_1 : Int)))), (by rw [rowU, ← hs]; exact (st_is (s := (some (p1, p2), none)) (L := some (p1, p2)) (R := some ((-9 + (j : Int)), (-9 + (j_1 : Int)))) (okU_yes (by unfold mA; first | rw [if_pos (show k = 5 by assumption)] | rw [if_neg (show ¬ k = 5 by assumption)]) lo1 (by assumption) (by assumption) hs1 (by assumption)) (.inr ⟨lsU_f lo2 hs2 (by assumption), rfl⟩) (.inl ⟨⟨vpos (by unfold mA; first | rw [if_pos (show k = 5 by assumption)] | rw [if_neg (show ¬ k = 5 by assumption)]) hs3 (by assumption), trivial⟩, rfl⟩)).symm), (by have hb2 := hbu.st (k := k) hX hY; rw [st_is (s := (some (p1, p2), none)) (L := some (p1, p2)) (R := some ((-9 + (j : Int)), (-9 + (j_1 : Int)))) (okU_yes (by unfold mA; first | rw [if_pos (show k = 5 by assumption)] | rw [if_neg (show ¬ k = 5 by assumption)]) lo1 (by assumption) (by assumption) hs1 (by assumption)) (.inr ⟨lsU_f lo2 hs2 (by assumption), rfl⟩) (.inl ⟨⟨vpos (by unfold mA; first | rw [if_pos (show k = 5 by assumption)] | rw [if_neg (show ¬ k = 5 by assumption)]) hs3 (by assumption), trivial⟩, rfl⟩)] at hb2; exact hb2), rfl, rfl⟩
              | exact ⟨_, _, _, _, (some (p1, p2), none), (by rw [rowU, ← hs]; exact (st_no (s := (some (p1, p2), none)) (okU_no1 (by unfold mA; first | rw [if_pos (show k = 5 by assumption)] | rw [if_neg (show ¬ k = 5 by assumption)]) lo1 (by assumption))).symm), (by have hb2 := hbu.st (k := k) hX hY; rw [st_no (s := (some (p1, p2), none)) (okU_no1 (by unfold mA; first | rw [if_pos (show k = 5 by assumption)] | rw [if_neg (show ¬ k = 5 by assumption)]) lo1 (by assumption))] at hb2; exact hb2), rfl, rfl⟩
              | exact ⟨_, _, _, _, (some (p1, p2), none), (by rw [rowU, ← hs]; exact (st_no (s := (some (p1, p2), none)) (okU_no2 (by unfold mA; first | rw [if_pos (show k = 5 by assumption)] | rw [if_neg (show ¬ k = 5 by assumption)]) lo1 (by assumption))).symm), (by have hb2 := hbu.st (k := k) hX hY; rw [st_no (s := (some (p1, p2), none)) (okU_no2 (by unfold mA; first | rw [if_pos (show k = 5 by assumption)] | rw [if_neg (show ¬ k = 5 by assumption)]) lo1 (by assumption))] at hb2; exact hb2), rfl, rfl⟩
              | exact ⟨_, _, _, _, (some (p1, p2), none), (by rw [rowU, ← hs]; exact (st_no (s := (some (p1, p2), none)) (okU_no3 hs1 (by assumption))).symm), (by have hb2 := hbu.st (k := k) hX hY; rw [st_no (s := (some (p1, p2), none)) (okU_no3 hs1 (by assumption))] at hb2; exact hb2), rfl, rfl⟩
          case h74 =>
            first
              | exact ⟨_, _, _, _, (some ((-9 + (j : Int)), (-9 + (j_1 : Int))), none), (by rw [rowU, ← hs]; exact (st_is (s := (some (p1, p2), none)) (L := some ((-9 + (j : Int)), (-9 + (j_1 : Int)))) (R := none) (okU_yes (by unfold mA; first | rw [if_pos (show k = 5 by assumption)] | rw [if_neg (show ¬ k = 5 by assumption)]) lo1 (by assumption) (by assumption) hs1 (by assumption)) (.inl ⟨lsU_t lo2 hs2 (by assumption), rfl⟩) (.inr ⟨fun z => vneg (by unfold mA; first | rw [if_pos (show k = 5 by assumption)] | rw [if_neg (show ¬ k = 5 by assumption)]) hs3 (by assumption) z.1, rfl⟩)).symm), (by have hb2 := hbu.st (k := k) hX hY; rw [st_is (s := (some (p1, p2), none)) (L := some ((-9 + (j : Int)), (-9 + (j_1 : Int)))) (R := none) (okU_yes (by unfold mA; first | rw [if_pos (show k = 5 by assumption)] | rw [if_neg (show ¬ k = 5 by assumption)]) lo1 (by assumption) (by assumption) hs1 (by assumption)) (.inl ⟨lsU_t lo2 hs2 (by assumption), rfl⟩) (.inr ⟨fun z => vneg (by unfold mA; first | rw [if_pos (show k = 5 by assumption)] | rw [if_neg (show ¬ k = 5 by assumption)]) hs3 (by assumption) z.1, rfl⟩)] at hb2; exact hb2), rfl, rfl⟩
              | exact ⟨_, _, _, _, (some ((-9 + (j : Int)), (-9 + (j_1 : Int))), some ((-9 + (j : Int)), (-9 + (j_1 : Int)))), (by rw [rowU, ← hs]; exact (st_is (s := (some (p1, p2), none)) (L := some ((-9 + (j : Int)), (-9 + (j_1 : Int)))) (R := some ((-9 + (j : Int)), (-9 + (j_1 : Int)))) (okU_yes (by unfold mA; first | rw [if_pos (show k = 5 by assumption)] | rw [if_neg (show ¬ k = 5 by assumption)]) lo1 (by assumption) (by assumption) hs1 (by assumption)) (.inl ⟨lsU_t lo2 hs2 (by assumption), rfl⟩) (.inl ⟨⟨vpos (by unfold mA; first | rw [if_pos (show k = 5 by assumption)] | rw [if_neg (show ¬ k = 5 by assumption)]) hs3 (by assumption), trivial⟩, rfl⟩)).symm), (by have hb2 := hbu.st (k := k) hX hY; rw [st_is (s := (some (p1, p2), none)) (L := some ((-9 + (j : Int)), (-9 + (j_1 : Int)))) (R := some ((-9 + (j : Int)), (-9 + (j_1 : Int)))) (okU_yes (by unfold mA; first | rw [if_pos (show k = 5 by assumption)] | rw [if_neg (show ¬ k = 5 by assumption)]) lo1 (by assumption) (by assumption) hs1 (by assumption)) (.inl ⟨lsU_t lo2 hs2 (by assumption), rfl⟩) (.inl ⟨⟨vpos (by unfold mA; first | rw [if_pos (show k = 5 by assumption)] | rw [if_neg (show ¬ k = 5 by assumption)]) hs3 (by assumption), trivial⟩, rfl⟩)] at hb2; exact hb2), rfl, rfl⟩
              | exact ⟨_, _, _, _, (some (p1, p2), none), (by rw [rowU, ← hs]; exact (st_is (s := (some (p1, p2), none)) (L := some (p1, p2)) (R := none) (okU_yes (by unfold mA; first | rw [if_pos (show k = 5 by assumption)] | rw [if_neg (show ¬ k = 5 by assumption)]) lo1 (by assumption) (by assumption) hs1 (by assumption)) (.inr ⟨lsU_f lo2 hs2 (by assumption), rfl⟩) (.inr ⟨fun z => vneg (by unfold mA; first | rw [if_pos (show k = 5 by assumption)] | rw [if_neg (show ¬ k = 5 by assumption)]) hs3 (by assumption) z.1, rfl⟩)).symm), (by have hb2 := hbu.st (k := k) hX hY; rw [st_is (s := (some (p1, p2), none)) (L := some (p1, p2)) (R := none) (okU_yes (by unfold mA; first | rw [if_pos (show k = 5 by assumption)] | rw [if_neg (show ¬ k = 5 by assumption)]) lo1 (by assumption) (by assumption) hs1 (by assumption)) (.inr ⟨lsU_f lo2 hs2 (by assumption), rfl⟩) (.inr ⟨fun z => vneg (by unfold mA; first | rw [if_pos (show k = 5 by assumption)] | rw [if_neg (show ¬ k = 5 by assumption)]) hs3 (by assumption) z.1, rfl⟩)] at hb2; exact hb2), rfl, rfl⟩
              | exact ⟨_, _, _, _, (some (p1, p2), some ((-9 + (j : Int)), (-9 + (j_1 : Int)))), (by rw [rowU, ← hs]; exact (st_is (s := (some (p1, p2), none)) (L := some (p1, p2)) (R := some ((-9 + (j : Int)), (-9 + (j_1 : Int)))) (okU_yes (by unfold mA; first | rw [if_pos (show k = 5 by assumption)] | rw [if_neg (show ¬ k = 5 by assumption)]) lo1 (by assumption) (by assumption) hs1 (by assumption)) (.inr ⟨lsU_f lo2 hs2 (by assumption), rfl⟩) (.inl ⟨⟨vpos (by unfold mA; first | rw [if_pos (show k = 5 by assumption)] | rw [if_neg (show ¬ k = 5 by assumption)]) hs3 (by assumption), trivial⟩, rfl⟩)).symm), (by have hb2 := hbu.st (k := k) hX hY; rw [st_is (s := (some (p1, p2), none)) (L := some (p1, p2)) (R := some ((-9 + (j : Int)), (-9 + (j_1 : Int)))) (okU_yes (by unfold mA; first | rw [if_pos (show k = 5 by assumption)] | rw [if_neg (show ¬ k = 5 by assumption)]) lo1 (by assumption) (by assumption) hs1 (by assumption)) (.inr ⟨lsU_f lo2 hs2 (by assumption), rfl⟩) (.inl ⟨⟨vpos (by unfold mA; first | rw [if_pos (show k = 5 by assumption)] | rw [if_neg (show ¬ k = 5 by assumption)]) hs3 (by assumption), trivial⟩, rfl⟩)] at hb2; exact hb2), rfl, rfl⟩
              | exact ⟨_, _, _, _, (some (p1, p2), none), (by rw [rowU, ← hs]; exact (st_no (s := (some (p1, p2), none)) (okU_no1 (by unfold mA; first | rw [if_pos (show k = 5 by assumption)] | rw [if_neg (show ¬ k = 5 by assumption)]) lo1 (by assumption))).symm), (by have hb2 := hbu.st (k := k) hX hY; rw [st_no (s := (some (p1, p2), none)) (okU_no1 (by unfold mA; first | rw [if_pos (show k = 5 by assumption)] | rw [if_neg (show ¬ k = 5 by assumption)]) lo1 (by assumption))] at hb2; exact hb2), rfl, rfl⟩
              | exact ⟨_, _, _, _, (some (p1, p2), none), (by rw [rowU, ← hs]; exact (st_no (s := (some (p1, p2), none)) (okU_no2 (by unfold mA; first | rw [if_pos (show k = 5 by assumption)] | rw [if_neg (show ¬ k = 5 by assumption)]) lo1 (by assumption))).symm), (by have hb2 := hbu.st (k := k) hX hY; rw [st_no (s := (some (p1, p2), none)) (okU_no2 (by unfold mA; first | rw [if_pos (show k = 5 by assumption)] | rw [if_neg (show ¬ k = 5 by assumption)]) lo1 (by assumption))] at hb2; exact hb2), rfl, rfl⟩
              | exact ⟨_, _, _, _, (some (p1, p2), none), (by rw [rowU, ← hs]; exact (st_no (s := (some (p1, p2), none)) (okU_no3 hs1 (by assumption))).symm), (by have hb2 := hbu.st (k := k) hX hY; rw [st_no (s := (some (p1, p2), none)) (okU_no3 hs1 (by assumption))] at hb2; exact hb2), rfl, rfl⟩
          case h75 =>
            first
              | exact ⟨_, _, _, _, (some ((-9 + (j : Int)), (-9 + (j_1 : Int))), none), (by rw [rowU, ← hs]; exact (st_is (s := (some (p1, p2), none)) (L := some ((-9 + (j : Int)), (-9 + (j_1 : Int)))) (R := none) (okU_yes (by unfold mA; first | rw [if_pos (show k = 5 by assumption)] | rw [if_neg (show ¬ k = 5 by assumption)]) lo1 (by assumption) (by assumption) hs1 (by assumption)) (.inl ⟨lsU_t lo2 hs2 (by assumption), rfl⟩) (.inr ⟨fun z => vneg (by unfold mA; first | rw [if_pos (show k = 5 by assumption)] | rw [if_neg (show ¬ k = 5 by assumption)]) hs3 (by assumption) z.1, rfl⟩)).symm), (by have hb2 := hbu.st (k := k) hX hY; rw [st_is (s := (some (p1, p2), none)) (L := some ((-9 + (j : Int)), (-9 + (j_1 : Int)))) (R := none) (okU_yes (by unfold mA; first | rw [if_pos (show k = 5 by assumption)] | rw [if_neg (show ¬ k = 5 by assumption)]) lo1 (by assumption) (by assumption) hs1 (by assumption)) (.inl ⟨lsU_t lo2 hs2 (by assumption), rfl⟩) (.inr ⟨fun z => vneg (by unfold mA; first | rw [if_pos (show k = 5 by assumption)] | rw [if_neg (show ¬ k = 5 by assumption)]) hs3 (by assumption) z.1, rfl⟩)] at hb2; exact hb2), rfl, rfl⟩
              | exact ⟨_, _, _, _, (some ((-9 + (j : Int)), (-9 + (j_1 : Int))), some ((-9 + (j : Int)), (-9 + (j_1 : Int)))), (by rw [rowU, ← hs]; exact (st_is (s := (some (p1, p2), none)) (L := some ((-9 + (j : Int)), (-9 + (j_1 : Int)))) (R := some ((-9 + (j : Int)), (-9 + (j_1 : Int)))) (okU_yes (by unfold mA; first | rw [if_pos (show k = 5 by assumption)] | rw [if_neg (show ¬ k = 5 by assumption)]) lo1 (by assumption) (by assumption) hs1 (by assumption)) (.inl ⟨lsU_t lo2 hs2 (by assumption), rfl⟩) (.inl ⟨⟨vpos (by unfold mA; first | rw [if_pos (show k = 5 by assumption)] | rw [if_neg (show ¬ k = 5 by assumption)]) hs3 (by assumption), trivial⟩, rfl⟩)).symm), (by have hb2 := hbu.st (k := k) hX hY; rw [st_is (s := (some (p1, p2), none)) (L := some ((-9 + (j : Int)), (-9 + (j_1 : Int)))) (R := some ((-9 + (j : Int)), (-9 + (j_1 : Int)))) (okU_yes (by unfold mA; first | rw [if_pos (show k = 5 by assumption)] | rw [if_neg (show ¬ k = 5 by assumption)]) lo1 (by assumption) (by assumption) hs1 (by assumption)) (.inl ⟨lsU_t lo2 hs2 (by assumption), rfl⟩) (.inl ⟨⟨vpos (by unfold mA; first | rw [if_pos (show k = 5 by assumption)] | rw [if_neg (show ¬ k = 5 by assumption)]) hs3 (by assumption), trivial⟩, rfl⟩)] at hb2; exact hb2), rfl, rfl⟩
              | exact ⟨_, _, _, _, (some (p1, p2), none), (by rw [rowU, ← hs]; exact (st_is (s := (some (p1, p2), none)) (L := some (p1, p2)) (R := none) (okU_yes (by unfold mA; first | rw [if_pos (show k = 5 by assumption)] | rw [if_neg (show ¬ k = 5 by assumption)]) lo1 (by assumption) (by assumption) hs1 (by assumption)) (.inr ⟨lsU_f lo2 hs2 (by assumption), rfl⟩) (.inr ⟨fun z => vneg (by unfold mA; first | rw [if_pos (show k = 5 by assumption)] | rw [if_neg (show ¬ k = 5 by assumption)]) hs3 (by assumption) z.1, rfl⟩)).symm), (by have hb2 := hbu.st (k := k) hX hY; rw [st_is (s := (some (p1, p2), none)) (L := some (p1, p2)) (R := none) (okU_yes (by unfold mA; first | rw [if_pos (show k = 5 by assumption)] | rw [if_neg (show ¬ k = 5 by assumption)]) lo1 (by assumption) (by assumption) hs1 (by assumption)) (.inr ⟨lsU_f lo2 hs2 (by assumption), rfl⟩) (.inr ⟨fun z => vneg (by unfold mA; first | rw [if_pos (show k = 5 by assumption)] | rw [if_neg (show ¬ k = 5 by assumption)]) hs3 (by assumption) z.1, rfl⟩)] at hb2; exact hb2), rfl, rfl⟩
              | exact ⟨_, _, _, _, (some (p1, p2), some ((-9 + (j : Int)), (-9 + (j_1 : Int)))), (by rw [rowU, ← hs]; exact (st_is (s := (some (p1, p2), none)) (L := some (p1, p2)) (R := some ((-9 + (j : Int)), (-9 + (j_1 : Int)))) (okU_yes (by unfold mA; first | rw [if_pos (show k = 5 by assumption)] | rw [if_neg (show ¬ k = 5 by assumption)]) lo1 (by assumption) (by assumption) hs1 (by assumption)) (.inr ⟨lsU_f lo2 hs2 (by assumption), rfl⟩) (.inl ⟨⟨vpos (by unfold mA; first | rw [if_pos (show k = 5 by assumption)] | rw [if_neg (show ¬ k = 5 by assumption)]) hs3 (by assumption), trivial⟩, rfl⟩)).symm), (by have hb2 := hbu.st (k := k) hX hY; rw [st_is (s := (some (p1, p2), none)) (L := some (p1, p2)) (R := some ((-9 + (j : Int)), (-9 + (j_1 : Int)))) (okU_yes (by unfold mA; first | rw [if_pos (show k = 5 by assumption)] | rw [if_neg (show ¬ k = 5 by assumption)]) lo1 (by assumption) (by assumption) hs1 (by assumption)) (.inr ⟨lsU_f lo2 hs2 (by assumption), rfl⟩) (.inl ⟨⟨vpos (by unfold mA; first | rw [if_pos (show k = 5 by assumption)] | rw [if_neg (show ¬ k = 5 by assumption)]) hs3 (by assumption), trivial⟩, rfl⟩)] at hb2; exact hb2), rfl, rfl⟩
              | exact ⟨_, _, _, _, (some (p1, p2), none), (by rw [rowU, ← hs]; exact (st_no (s := (some (p1, p2), none)) (okU_no1 (by unfold mA; first | rw [if_pos (show k = 5 by assumption)] | rw [if_neg (show ¬ k = 5 by assumption)]) lo1 (by assumption))).symm), (by have hb2 := hbu.st (k := k) hX hY; rw [st_no (s := (some (p1, p2), none)) (okU_no1 (by unfold mA; first | rw [if_pos (show k = 5 by assumption)] | rw [if_neg (show ¬ k = 5 by assumption)]) lo1 (by assumption))] at hb2; exact hb2), rfl, rfl⟩
              | exact ⟨_, _, _, _, (some (p1, p2), none), (by rw [rowU, ← hs]; exact (st_no (s := (some (p1, p2), none)) (okU_no2 (by unfold mA; first | rw [if_pos (show k = 5 by assumption)] | rw [if_neg (show ¬ k = 5 by assumption)]) lo1 (by assumption))).symm), (by have hb2 := hbu.st (k := k) hX hY; rw [st_no (s := (some (p1, p2), none)) (okU_no2 (by unfold mA; first | rw [if_pos (show k = 5 by assumption)] | rw [if_neg (show ¬ k = 5 by assumption)]) lo1 (by assumption))] at hb2; exact hb2), rfl, rfl⟩
              | exact ⟨_, _, _, _, (some (p1, p2), none), (by rw [rowU, ← hs]; exact (st_no (s := (some (p1, p2), none)) (okU_no3 hs1 (by assumption))).symm), (by have hb2 := hbu.st (k := k) hX hY; rw [st_no (s := (some (p1, p2), none)) (okU_no3 hs1 (by assumption))] at hb2; exact hb2), rfl, rfl⟩
          case h76 =>
            first
              | exact ⟨_, _, _, _, (some ((-9 + (j : Int)), (-9 + (j_1 : Int))), none), (by rw [rowU, ← hs]; exact (st_is (s := (some (p1, p2), none)) (L := some ((-9 + (j : Int)), (-9 + (j_1 : Int)))) (R := none) (okU_yes (by unfold mA; first | rw [if_pos (show k = 5 by assumption)] | rw [if_neg (show ¬ k = 5 by assumption)]) lo1 (by assumption) (by assumption) hs1 (by assumption)) (.inl ⟨lsU_t lo2 hs2 (by assumption), rfl⟩) (.inr ⟨fun z => vneg (by unfold mA; first | rw [if_pos (show k = 5 by assumption)] | rw [if_neg (show ¬ k = 5 by assumption)]) hs3 (by assumption) z.1, rfl⟩)).symm), (by have hb2 := hbu.st (k := k) hX hY; rw [st_is (s := (some (p1, p2), none)) (L := some ((-9 + (j : Int)), (-9 + (j_1 : Int)))) (R := none) (okU_yes (by unfold mA; first | rw [if_pos (show k = 5 by assumption)] | rw [if_neg (show ¬ k = 5 by assumption)]) lo1 (by assumption) (by assumption) hs1 (by assumption)) (.inl ⟨lsU_t lo2 hs2 (by assumption), rfl⟩) (.inr ⟨fun z => vneg (by unfold mA; first | rw [if_pos (show k = 5 by assumption)] | rw [if_neg (show ¬ k = 5 by assumption)]) hs3 (by assumption) z.1, rfl⟩)] at hb2; exact hb2), rfl, rfl⟩
              | exact ⟨_, _, _, _, (some ((-9 + (j : Int)), (-9 + (j_1 : Int))), some ((-9 + (j : Int)), (-9 + (j_1 : Int)))), (by rw [rowU, ← hs]; exact (st_is (s := (some (p1, p2), none)) (L := some ((-9 + (j : Int)), (-9 + (j_1 : Int)))) (R := some ((-9 + (j : Int)), (-9 + (j_1 : Int)))) (okU_yes (by unfold mA; first | rw [if_pos (show k = 5 by assumption)] | rw [if_neg (show ¬ k = 5 by assumption)]) lo1 (by assumption) (by assumption) hs1 (by assumption)) (.inl ⟨lsU_t lo2 hs2 (by assumption), rfl⟩) (.inl ⟨⟨vpos (by unfold mA; first | rw [if_pos (show k = 5 by assumption)] | rw [if_neg (show ¬ k = 5 by assumption)]) hs3 (by assumption), trivial⟩, rfl⟩)).symm), (by have hb2 := hbu.st (k := k) hX hY; rw [st_is (s := (some (p1, p2), none)) (L := some ((-9 + (j : Int)), (-9 + (j_1 : Int)))) (R := some ((-9 + (j : Int)), (-9 + (j_1 : Int)))) (okU_yes (by unfold mA; first | rw [if_pos (show k = 5 by assumption)] | rw [if_neg (show ¬ k = 5 by assumption)]) lo1 (by assumption) (by assumption) hs1 (by assumption)) (.inl ⟨lsU_t lo2 hs2 (by assumption), rfl⟩) (.inl ⟨⟨vpos (by unfold mA; first | rw [if_pos (show k = 5 by assumption)] | rw [if_neg (show ¬ k = 5 by assumption)]) hs3 (by assumption), trivial⟩, rfl⟩)] at hb2; exact hb2), rfl, rfl⟩
              | exact ⟨_, _, _, _, (some (p1, p2), none), (by rw [rowU, ← hs]; exact (st_is (s := (some (p1, p2), none)) (L := some (p1, p2)) (R := none) (okU_yes (by unfold mA; first | rw [if_pos (show k = 5 by assumption)] | rw [if_neg (show ¬ k = 5 by assumption)]) lo1 (by assumption) (by assumption) hs1 (by assumption)) (.inr ⟨lsU_f lo2 hs2 (by assumption), rfl⟩) (.inr ⟨fun z => vneg (by unfold mA; first | rw [if_pos (show k = 5 by assumption)] | rw [if_neg (show ¬ k = 5 by assumption)]) hs3 (by assumption) z.1, rfl⟩)).symm), (by have hb2 := hbu.st (k := k) hX hY; rw [st_is (s := (some (p1, p2), none)) (L := some (p1, p2)) (R := none) (okU_yes (by unfold mA; first | rw [if_pos (show k = 5 by assumption)] | rw [if_neg (show ¬ k = 5 by assumption)]) lo1 (by assumption) (by assumption) hs1 (by assumption)) (.inr ⟨lsU_f lo2 hs2 (by assumption), rfl⟩) (.inr ⟨fun z => vneg (by unfold mA; first | rw [if_pos (show k = 5 by assumption)] | rw [if_neg (show ¬ k = 5 by assumption)]) hs3 (by assumption) z.1, rfl⟩)] at hb2; exact hb2), rfl, rfl⟩
              | exact ⟨_, _, _, _, (some (p1, p2), some ((-9 + (j : Int)), (-9 + (j_1 : Int)))), (by rw [rowU, ← hs]; exact (st_is (s := (some (p1, p2), none)) (L := some (p1, p2)) (R := some ((-9 + (j : Int)), (-9 + (j_1 : Int)))) (okU_yes (by unfold mA; first | rw [if_pos (show k = 5 by assumption)] | rw [if_neg (show ¬ k = 5 by assumption)]) lo1 (by assumption) (by assumption) hs1 (by assumption)) (.inr ⟨lsU_f lo2 hs2 (by assumption), rfl⟩) (.inl ⟨⟨vpos (by unfold mA; first | rw [if_pos (show k = 5 by assumption)] | rw [if_neg (show ¬ k = 5 by assumption)]) hs3 (by assumption), trivial⟩, rfl⟩)).symm), (by have hb2 := hbu.st (k := k) hX hY; rw [st_is (s := (some (p1, p2), none)) (L := some (p1, p2)) (R := some ((-9 + (j : Int)), (-9 + (j_1 : Int)))) (okU_yes (by unfold mA; first | rw [if_pos (show k = 5 by assumption)] | rw [if_neg (show ¬ k = 5 by assumption)]) lo1 (by assumption) (by assumption) hs1 (by assumption)) (.inr ⟨lsU_f lo2 hs2 (by assumption), rfl⟩) (.inl ⟨⟨vpos (by unfold mA; first | rw [if_pos (show k = 5 by assumption)] | rw [if_neg (show ¬ k = 5 by assumption)]) hs3 (by assumption), trivial⟩, rfl⟩)] at hb2; exact hb2), rfl, rfl⟩
              | exact ⟨_, _, _, _, (some (p1, p2), none), (by rw [rowU, ← hs]; exact (st_no (s := (some (p1, p2), none)) (okU_no1 (by unfold mA; first | rw [if_pos (show k = 5 by assumption)] | rw [if_neg (show ¬ k = 5 by assumption)]) lo1 (by assumption))).symm), (by have hb2 := hbu.st (k := k) hX hY; rw [st_no (s := (some (p1, p2), none)) (okU_no1 (by unfold mA; first | rw [if_pos (show k = 5 by assumption)] | rw [if_neg (show ¬ k = 5 by assumption)]) lo1 (by assumption))] at hb2; exact hb2), rfl, rfl⟩
              | exact ⟨_, _, _, _, (some (p1, p2), none), (by rw [rowU, ← hs]; exact (st_no (s := (some (p1, p2), none)) (okU_no2 (by unfold mA; first | rw [if_pos (show k = 5 by assumption)] | rw [if_neg (show ¬ k = 5 by assumption)]) lo1 (by assumption))).symm), (by have hb2 := hbu.st (k := k) hX hY; rw [st_no (s := (some (p1, p2), none)) (okU_no2 (by unfold mA; first | rw [if_pos (show k = 5 by assumption)] | rw [if_neg (show ¬ k = 5 by assumption)]) lo1 (by assumption))] at hb2; exact hb2), rfl, rfl⟩
              | exact ⟨_, _, _, _, (some (p1, p2), none), (by rw [rowU, ← hs]; exact (st_no (s := (some (p1, p2), none)) (okU_no3 hs1 (by assumption))).symm), (by have hb2 := hbu.st (k := k) hX hY; rw [st_no (s := (some (p1, p2), none)) (okU_no3 hs1 (by assumption))] at hb2; exact hb2), rfl, rfl⟩
          case h77 =>
            exact sc__law_units.nd
          case h78 =>
            exact ⟨hk, by decide, by decide, bd_s (by omega) (by decide), bd_s (by omega) (by decide), bd_s (by decide) (by decide), bd_s (by omega) (by decide), bd_s (by omega) (by decide), bd_s (by decide) (by decide), by decide⟩
          case h79 =>
            first | exact ⟨hk, bd_s (by omega) (by decide), bd_s (by omega) (by decide)⟩ | exact ⟨hk, hx2.mono (by decide), hy2.mono (by decide)⟩ | exact ⟨hk, hx3.mono (by decide), hy3.mono (by decide)⟩
          case h80 =>
            first | exact ⟨by decide, by decide, bd_s (by omega) (by decide), bd_s (by omega) (by decide), bd_s (by decide) (by decide), (hbu.1 _ rfl).1, (hbu.1 _ rfl).2, bd_s (by decide) (by decide), by decide⟩ | exact ⟨by decide, by decide, bd_s (by omega) (by decide), bd_s (by omega) (by decide), bd_s (by decide) (by decide), (hbu.2 _ rfl).1, (hbu.2 _ rfl).2, bd_s (by decide) (by decide), by decide⟩
          case h81 =>
            first | exact ⟨hk, bd_s (by omega) (by decide), bd_s (by omega) (by decide)⟩ | exact ⟨hk, hx2.mono (by decide), hy2.mono (by decide)⟩ | exact ⟨hk, hx3.mono (by decide), hy3.mono (by decide)⟩
          case h82 =>
            exact sc__law_units.nd
          case h83 =>
            first | exact ⟨hk, bd_s (by omega) (by decide), bd_s (by omega) (by decide)⟩ | exact ⟨hk, hx2.mono (by decide), hy2.mono (by decide)⟩ | exact ⟨hk, hx3.mono (by decide), hy3.mono (by decide)⟩
          case h84 =>
            exact sc__law_units.nd
          case h85 =>
            first
              | exact ⟨_, _, _, _, (some ((-9 + (j : Int)), (-9 + (j_1 : Int))), none), (by rw [rowU, ← hs]; exact (st_is (s := (some (p1, p2), none)) (L := some ((-9 + (j : Int)), (-9 + (j_1 : Int)))) (R := none) (okU_yes (by unfold mA; first | rw [if_pos (show k = 5 by assumption)] | rw [if_neg (show ¬ k = 5 by assumption)]) lo1 (by assumption) (by assumption) hs1 (by assumption)) (.inl ⟨lsU_t lo2 hs2 (by assumption), rfl⟩) (.inr ⟨fun z => vneg (by unfold mA; first | rw [if_pos (show k = 5 by assumption)] | rw [if_neg (show ¬ k = 5 by assumption)]) hs3 (by assumption) z.1, rfl⟩)).symm), (by have hb2 := hbu.st (k := k) hX hY; rw [st_is (s := (some (p1, p2), none)) (L := some ((-9 + (j : Int)), (-9 + (j_1 : Int)))) (R := none) (okU_yes (by unfold mA; first | rw [if_pos (show k = 5 by assumption)] | rw [if_neg (show ¬ k = 5 by assumption)]) lo1 (by assumption) (by assumption) hs1 (by assumption)) (.inl ⟨lsU_t lo2 hs2 (by assumption), rfl⟩) (.inr ⟨fun z => vneg (by unfold mA; first | rw [if_pos (show k = 5 by assumption)] | rw [if_neg (show ¬ k = 5 by assumption)]) hs3 (by assumption) z.1, rfl⟩)] at hb2; exact hb2), rfl, rfl⟩
              | exact ⟨_, _, _, _, (some ((-9 + (j : Int)), (-9 + (j_1 : Int))), some ((-9 + (j : Int)), (-9 + (j_1 : Int)))), (by rw [rowU, ← hs]; exact (st_is (s := (some (p1, p2), none)) (L := some ((-9 + (j : Int)), (-9 + (j_1 : Int)))) (R := some ((-9 + (j : Int)), (-9 + (j_1 : Int)))) (okU_yes (by unfold mA; first | rw [if_pos (show k = 5 by assumption)] | rw [if_neg (show ¬ k = 5 by assumption)]) lo1 (by assumption) (by assumption) hs1 (by assumption)) (.inl ⟨lsU_t lo2 hs2 (by assumption), rfl⟩) (.inl ⟨⟨vpos (by unfold mA; first | rw [if_pos (show k = 5 by assumption)] | rw [if_neg (show ¬ k = 5 by assumption)]) hs3 (by assumption), trivial⟩, rfl⟩)).symm), (by have hb2 := hbu.st (k := k) hX hY; rw [st_is (s := (some (p1, p2), none)) (L := some ((-9 + (j : Int)), (-9 + (j_1 : Int)))) (R := some ((-9 + (j : Int)), (-9 + (j_1 : Int)))) (okU_yes (by unfold mA; first | rw [if_pos (show k = 5 by assumption)] | rw [if_neg (show ¬ k = 5 by assumption)]) lo1 (by assumption) (by assumption) hs1 (by assumption)) (.inl ⟨lsU_t lo2 hs2 (by assumption), rfl⟩) (.inl ⟨⟨vpos (by unfold mA; first | rw [if_pos (show k = 5 by assumption)] | rw [if_neg (show ¬ k = 5 by assumption)]) hs3 (by assumption), trivial⟩, rfl⟩)] at hb2; exact hb2), rfl, rfl⟩
              | exact ⟨_, _, _, _, (some (p1, p2), none), (by rw [rowU, ← hs]; exact (st_is (s := (some (p1, p2), none)) (L := some (p1, p2)) (R := none) (okU_yes (by unfold mA; first | rw [if_pos (show k = 5 by assumption)] | rw [if_neg (show ¬ k = 5 by assumption)]) lo1 (by assumption) (by assumption) hs1 (by assumption)) (.inr ⟨lsU_f lo2 hs2 (by assumption), rfl⟩) (.inr ⟨fun z => vneg (by unfold mA; first | rw [if_pos (show k = 5 by assumption)] | rw [if_neg (show ¬ k = 5 by assumption)]) hs3 (by assumption) z.1, rfl⟩)).symm), (by have hb2 := hbu.st (k := k) hX hY; rw [st_is (s := (some (p1, p2), none)) (L := some (p1, p2)) (R := none) (okU_yes (by unfold mA; first | rw [if_pos (show k = 5 by assumption)] | rw [if_neg (show ¬ k = 5 by assumption)]) lo1 (by assumption) (by assumption) hs1 (by assumption)) (.inr ⟨lsU_f lo2 hs2 (by assumption), rfl⟩) (.inr ⟨fun z => vneg (by unfold mA; first | rw [if_pos (show k = 5 by assumption)] | rw [if_neg (show ¬ k = 5 by assumption)]) hs3 (by assumption) z.1, rfl⟩)] at hb2; exact hb2), rfl, rfl⟩
              | exact ⟨_, _, _, _, (some (p1, p2), some ((-9 + (j : Int)), (-9 + (j_1 : Int)))), (by rw [rowU, ← hs]; exact (st_is (s := (some (p1, p2), none)) (L := some (p1, p2)) (R := some ((-9 + (j : Int)), (-9 + (j_1 : Int)))) (okU_yes (by unfold mA; first | rw [if_pos (show k = 5 by assumption)] | rw [if_neg (show ¬ k = 5 by assumption)]) lo1 (by assumption) (by assumption) hs1 (by assumption)) (.inr ⟨lsU_f lo2 hs2 (by assumption), rfl⟩) (.inl ⟨⟨vpos (by unfold mA; first | rw [if_pos (show k = 5 by assumption)] | rw [if_neg (show ¬ k = 5 by assumption)]) hs3 (by assumption), trivial⟩, rfl⟩)).symm), (by have hb2 := hbu.st (k := k) hX hY; rw [st_is (s := (some (p1, p2), none)) (L := some (p1, p2)) (R := some ((-9 + (j : Int)), (-9 + (j_1 : Int)))) (okU_yes (by unfold mA; first | rw [if_pos (show k = 5 by assumption)] | rw [if_neg (show ¬ k = 5 by assumption)]) lo1 (by assumption) (by assumption) hs1 (by assumption)) (.inr ⟨lsU_f lo2 hs2 (by assumption), rfl⟩) (.inl ⟨⟨vpos (by unfold mA; first | rw [if_pos (show k = 5 by assumption)] | rw [if_neg (show ¬ k = 5 by assumption)]) hs3 (by assumption), trivial⟩, rfl⟩)] at hb2; exact hb2), rfl, rfl⟩
              | exact ⟨_, _, _, _, (some (p1, p2), none), (by rw [rowU, ← hs]; exact (st_no (s := (some (p1, p2), none)) (okU_no1 (by unfold mA; first | rw [if_pos (show k = 5 by assumption)] | rw [if_neg (show ¬ k = 5 by assumption)]) lo1 (by assumption))).symm), (by have hb2 := hbu.st (k := k) hX hY; rw [st_no (s := (some (p1, p2), none)) (okU_no1 (by unfold mA; first | rw [if_pos (show k = 5 by assumption)] | rw [if_neg (show ¬ k = 5 by assumption)]) lo1 (by assumption))] at hb2; exact hb2), rfl, rfl⟩
              | exact ⟨_, _, _, _, (some (p1, p2), none), (by rw [rowU, ← hs]; exact (st_no (s := (some (p1, p2), none)) (okU_no2 (by unfold mA; first | rw [if_pos (show k = 5 by assumption)] | rw [if_neg (show ¬ k = 5 by assumption)]) lo1 (by assumption))).symm), (by have hb2 := hbu.st (k := k) hX hY; rw [st_no (s := (some (p1, p2), none)) (okU_no2 (by unfold mA; first | rw [if_pos (show k = 5 by assumption)] | rw [if_neg (show ¬ k = 5 by assumption)]) lo1 (by assumption))] at hb2; exact hb2), rfl, rfl⟩
              | exact ⟨_, _, _, _, (some (p1, p2), none), (by rw [rowU, ← hs]; exact (st_no (s := (some (p1, p2), none)) (okU_no3 hs1 (by assumption))).symm), (by have hb2 := hbu.st (k := k) hX hY; rw [st_no (s := (some (p1, p2), none)) (okU_no3 hs1 (by assumption))] at hb2; exact hb2), rfl, rfl⟩
          case h86 =>
            first
              | exact ⟨_, _, _, _, (some ((-9 + (j : Int)), (-9 + (j_1 : Int))), none), (by rw [rowU, ← hs]; exact (st_is (s := (some (p1, p2), none)) (L := some ((-9 + (j : Int)), (-9 + (j_1 : Int)))) (R := none) (okU_yes (by unfold mA; first | rw [if_pos (show k = 5 by assumption)] | rw [if_neg (show ¬ k = 5 by assumption)]) lo1 (by assumption) (by assumption) hs1 (by assumption)) (.inl ⟨lsU_t lo2 hs2 (by assumption), rfl⟩) (.inr ⟨fun z => vneg (by unfold mA; first | rw [if_pos (show k = 5 by assumption)] | rw [if_neg (show ¬ k = 5 by assumption)]) hs3 (by assumption) z.1, rfl⟩)).symm), (by have hb2 := hbu.st (k := k) hX hY; rw [st_is (s := (some (p1, p2), none)) (L := some ((-9 + (j : Int)), (-9 + (j_1 : Int)))) (R := none) (okU_yes (by unfold mA; first | rw [if_pos (show k = 5 by assumption)] | rw [if_neg (show ¬ k = 5 by assumption)]) lo1 (by assumption) (by assumption) hs1 (by assumption)) (.inl ⟨lsU_t lo2 hs2 (by assumption), rfl⟩) (.inr ⟨fun z => vneg (by unfold mA; first | rw [if_pos (show k = 5 by assumption)] | rw [if_neg (show ¬ k = 5 by assumption)]) hs3 (by assumption) z.1, rfl⟩)] at hb2; exact hb2), rfl, rfl⟩
              | exact ⟨_, _, _, _, (some ((-9 + (j : Int)), (-9 + (j_1 : Int))), some ((-9 + (j : Int)), (-9 + (j_1 : Int)))), (by rw [rowU, ← hs]; exact (st_is (s := (some (p1, p2), none)) (L := some ((-9 + (j : Int)), (-9 + (j_1 : Int)))) (R := some ((-9 + (j : Int)), (-9 + (j_1 : Int)))) (okU_yes (by unfold mA; first | rw [if_pos (show k = 5 by assumption)] | rw [if_neg (show ¬ k = 5 by assumption)]) lo1 (by assumption) (by assumption) hs1 (by assumption)) (.inl ⟨lsU_t lo2 hs2 (by assumption), rfl⟩) (.inl ⟨⟨vpos (by unfold mA; first | rw [if_pos (show k = 5 by assumption)] | rw [if_neg (show ¬ k = 5 by assumption)]) hs3 (by assumption), trivial⟩, rfl⟩)).symm), (by have hb2 := hbu.st (k := k) hX hY; rw [st_is (s := (some (p1, p2), none)) (L := some ((-9 + (j : Int)), (-9 + (j_1 : Int)))) (R := some ((-9 + (j : Int)), (-9 + (j_1 : Int)))) (okU_yes (by unfold mA; first | rw [if_pos (show k = 5 by assumption)] | rw [if_neg (show ¬ k = 5 by assumption)]) lo1 (by assumption) (by assumption) hs1 (by assumption)) (.inl ⟨lsU_t lo2 hs2 (by assumption), rfl⟩) (.inl ⟨⟨vpos (by unfold mA; first | rw [if_pos (show k = 5 by assumption)] | rw [if_neg (show ¬ k = 5 by assumption)]) hs3 (by assumption), trivial⟩, rfl⟩)] at hb2; exact hb2), rfl, rfl⟩
              | exact ⟨_, _, _, _, (some (p1, p2), none), (by rw [rowU, ← hs]; exact (st_is (s := (some (p1, p2), none)) (L := some (p1, p2)) (R := none) (okU_yes (by unfold mA; first | rw [if_pos (show k = 5 by assumption)] | rw [if_neg (show ¬ k = 5 by assumption)]) lo1 (by assumption) (by assumption) hs1 (by assumption)) (.inr ⟨lsU_f lo2 hs2 (by assumption), rfl⟩) (.inr ⟨fun z => vneg (by unfold mA; first | rw [if_pos (show k = 5 by assumption)] | rw [if_neg (show ¬ k = 5 by assumption)]) hs3 (by assumption) z.1, rfl⟩)).symm), (by have hb2 := hbu.st (k := k) hX hY; rw [st_is (s := (some (p1, p2), none)) (L := some (p1, p2)) (R := none) (okU_yes (by unfold mA; first | rw [if_pos (show k = 5 by assumption)] | rw [if_neg (show ¬ k = 5 by assumption)]) lo1 (by assumption) (by assumption) hs1 (by assumption)) (.inr ⟨lsU_f lo2 hs2 (by assumption), rfl⟩) (.inr ⟨fun z => vneg (by unfold mA; first | rw [if_pos (show k = 5 by assumption)] | rw [if_neg (show ¬ k = 5 by assumption)]) hs3 (by assumption) z.1, rfl⟩)] at hb2; exact hb2), rfl, rfl⟩
              | exact ⟨_, _, _, _, (some (p1, p2), some ((-9 + (j : Int)), (-9 + (j_1 : Int)))), (by rw [rowU, ← hs]; exact (st_is (s := (some (p1, p2), none)) (L := some (p1, p2)) (R := some ((-9 + (j : Int)), (-9 + (j_1 : Int)))) (okU_yes (by unfold mA; first | rw [if_pos (show k = 5 by assumption)] | rw [if_neg (show ¬ k = 5 by assumption)]) lo1 (by assumption) (by assumption) hs1 (by assumption)) (.inr ⟨lsU_f lo2 hs2 (by assumption), rfl⟩) (.inl ⟨⟨vpos (by unfold mA; first | rw [if_pos (show k = 5 by assumption)] | rw [if_neg (show ¬ k = 5 by assumption)]) hs3 (by assumption), trivial⟩, rfl⟩)).symm), (by have hb2 := hbu.st (k := k) hX hY; rw [st_is (s := (some (p1, p2), none)) (L := some (p1, p2)) (R := some ((-9 + (j : Int)), (-9 + (j_1 : Int)))) (okU_yes (by unfold mA; first | rw [if_pos (show k = 5 by assumption)] | rw [if_neg (show ¬ k = 5 by assumption)]) lo1 (by assumption) (by assumption) hs1 (by assumption)) (.inr ⟨lsU_f lo2 hs2 (by assumption), rfl⟩) (.inl ⟨⟨vpos (by unfold mA; first | rw [if_pos (show k = 5 by assumption)] | rw [if_neg (show ¬ k = 5 by assumption)]) hs3 (by assumption), trivial⟩, rfl⟩)] at hb2; exact hb2), rfl, rfl⟩
              | exact ⟨_, _, _, _, (some (p1, p2), none), (by rw [rowU, ← hs]; exact (st_no (s := (some (p1, p2), none)) (okU_no1 (by unfold mA; first | rw [if_pos (show k = 5 by assumption)] | rw [if_neg (show ¬ k = 5 by assumption)]) lo1 (by assumption))).symm), (by have hb2 := hbu.st (k := k) hX hY; rw [st_no (s := (some (p1, p2), none)) (okU_no1 (by unfold mA; first | rw [if_pos (show k = 5 by assumption)] | rw [if_neg (show ¬ k = 5 by assumption)]) lo1 (by assumption))] at hb2; exact hb2), rfl, rfl⟩
              | exact ⟨_, _, _, _, (some (p1, p2), none), (by rw [rowU, ← hs]; exact (st_no (s := (some (p1, p2), none)) (okU_no2 (by unfold mA; first | rw [if_pos (show k = 5 by assumption)] | rw [if_neg (show ¬ k = 5 by assumption)]) lo1 (by assumption))).symm), (by have hb2 := hbu.st (k := k) hX hY; rw [st_no (s := (some (p1, p2), none)) (okU_no2 (by unfold mA; first | rw [if_pos (show k = 5 by assumption)] | rw [if_neg (show ¬ k = 5 by assumption)]) lo1 (by assumption))] at hb2; exact hb2), rfl, rfl⟩
              | exact ⟨_, _, _, _, (some (p1, p2), none), (by rw [rowU, ← hs]; exact (st_no (s := (some (p1, p2), none)) (okU_no3 hs1 (by assumption))).symm), (by have hb2 := hbu.st (k := k) hX hY; rw [st_no (s := (some (p1, p2), none)) (okU_no3 hs1 (by assumption))] at hb2; exact hb2), rfl, rfl⟩
          case h87 =>
            first | exact ⟨hk, bd_s (by omega) (by decide), bd_s (by omega) (by decide)⟩ | exact ⟨hk, hx2.mono (by decide), hy2.mono (by decide)⟩ | exact ⟨hk, hx3.mono (by decide), hy3.mono (by decide)⟩
          case h88 =>
            exact sc__law_units.nd
          case h89 =>
            first
              | exact ⟨_, _, _, _, (some ((-9 + (j : Int)), (-9 + (j_1 : Int))), none), (by rw [rowU, ← hs]; exact (st_is (s := (some (p1, p2), none)) (L := some ((-9 + (j : Int)), (-9 + (j_1 : Int)))) (R := none) (okU_yes (by unfold mA; first | rw [if_pos (show k = 5 by assumption)] | rw [if_neg (show ¬ k = 5 by assumption)]) lo1 (by assumption) (by assumption) hs1 (by assumption)) (.inl ⟨lsU_t lo2 hs2 (by assumption), rfl⟩) (.inr ⟨fun z => vneg (by unfold mA; first | rw [if_pos (show k = 5 by assumption)] | rw [if_neg (show ¬ k = 5 by assumption)]) hs3 (by assumption) z.1, rfl⟩)).symm), (by have hb2 := hbu.st (k := k) hX hY; rw [st_is (s := (some (p1, p2), none)) (L := some ((-9 + (j : Int)), (-9 + (j_1 : Int)))) (R := none) (okU_yes (by unfold mA; first | rw [if_pos (show k = 5 by assumption)] | rw [if_neg (show ¬ k = 5 by assumption)]) lo1 (by assumption) (by assumption) hs1 (by assumption)) (.inl ⟨lsU_t lo2 hs2 (by assumption), rfl⟩) (.inr ⟨fun z => vneg (by unfold mA; first | rw [if_pos (show k = 5 by assumption)] | rw [if_neg (show ¬ k = 5 by assumption)]) hs3 (by assumption) z.1, rfl⟩)] at hb2; exact hb2), rfl, rfl⟩
              | exact ⟨_, _, _, _, (some ((-9 + (j : Int)), (-9 + (j_1 : Int))), some ((-9 + (j : Int)), (-9 + (j_1 : Int)))), (by rw [rowU, ← hs]; exact (st_is (s := (some (p1, p2), none)) (L := some ((-9 + (j : Int)), (-9 + (j_1 : Int)))) (R := some ((-9 + (j : Int)), (-9 + (j_1 : Int)))) (okU_yes (by unfold mA; first | rw [if_pos (show k = 5 by assumption)] | rw [if_neg (show ¬ k = 5 by assumption)]) lo1 (by assumption) (by assumption) hs1 (by assumption)) (.inl ⟨lsU_t lo2 hs2 (by assumption), rfl⟩) (.inl ⟨⟨vpos (by unfold mA; first | rw [if_pos (show k = 5 by assumption)] | rw [if_neg (show ¬ k = 5 by assumption)]) hs3 (by assumption), trivial⟩, rfl⟩)).symm), (by have hb2 := hbu.st (k := k) hX hY; rw [st_is (s := (some (p1, p2), none)) (L := some ((-9 + (j : Int)), (-9 + (j_1 : Int)))) (R := some ((-9 + (j : Int)), (-9 + (j_1 : Int)))) (okU_yes (by unfold mA; first | rw [if_pos (show k = 5 by assumption)] | rw [if_neg (show ¬ k = 5 by assumption)]) lo1 (by assumption) (by assumption) hs1 (by assumption)) (.inl ⟨lsU_t lo2 hs2 (by assumption), rfl⟩) (.inl ⟨⟨vpos (by unfold mA; first | rw [if_pos (show k = 5 by assumption)] | rw [if_neg (show ¬ k = 5 by assumption)]) hs3 (by assumption), trivial⟩, rfl⟩)] at hb2; exact hb2), rfl, rfl⟩
              | exact ⟨_, _, _, _, (some (p1, p2), none), (by rw [rowU, ← hs]; exact (st_is (s := (some (p1, p2), none)) (L := some (p1, p2)) (R := none) (okU_yes (by unfold mA; first | rw [if_pos (show k = 5 by assumption)] | rw [if_neg (show ¬ k = 5 by assumption)]) lo1 (by assumption) (by assumption) hs1 (by assumption)) (.inr ⟨lsU_f lo2 hs2 (by assumption), rfl⟩) (.inr ⟨fun z => vneg (by unfold mA; first | rw [if_pos (show k = 5 by assumption)] | rw [if_neg (show ¬ k = 5 by assumption)]) hs3 (by assumption) z.1, rfl⟩)).symm), (by have hb2 := hbu.st (k := k) hX hY; rw [st_is (s := (some (p1, p2), none)) (L := some (p1, p2)) (R := none) (okU_yes (by unfold mA; first | rw [if_pos (show k = 5 by assumption)] | rw [if_neg (show ¬ k = 5 by assumption)]) lo1 (by assumption) (by assumption) hs1 (by assumption)) (.inr ⟨lsU_f lo2 hs2 (by assumption), rfl⟩) (.inr ⟨fun z => vneg (by unfold mA; first | rw [if_pos (show k = 5 by assumption)] | rw [if_neg (show ¬ k = 5 by assumption)]) hs3 (by assumption) z.1, rfl⟩)] at hb2; exact hb2), rfl, rfl⟩
              | exact ⟨_, _, _, _, (some (p1, p2), some ((-9 + (j : Int)), (-9 + (j_1 : Int)))), (by rw [rowU, ← hs]; exact (st_is (s := (some (p1, p2), none)) (L := some (p1, p2)) (R := some ((-9 + (j : Int)), (-9 + (j_1 : Int)))) (okU_yes (by unfold mA; first | rw [if_pos (show k = 5 by assumption)] | rw [if_neg (show ¬ k = 5 by assumption)]) lo1 (by assumption) (by assumption) hs1 (by assumption)) (.inr ⟨lsU_f lo2 hs2 (by assumption), rfl⟩) (.inl ⟨⟨vpos (by unfold mA; first | rw [if_pos (show k = 5 by assumption)] | rw [if_neg (show ¬ k = 5 by assumption)]) hs3 (by assumption), trivial⟩, rfl⟩)).symm), (by have hb2 := hbu.st (k := k) hX hY; rw [st_is (s := (some (p1, p2), none)) (L := some (p1, p2)) (R := some ((-9 + (j : Int)), (-9 + (j_1 : Int)))) (okU_yes (by unfold mA; first | rw [if_pos (show k = 5 by assumption)] | rw [if_neg (show ¬ k = 5 by assumption)]) lo1 (by assumption) (by assumption) hs1 (by assumption)) (.inr ⟨lsU_f lo2 hs2 (by assumption), rfl⟩) (.inl ⟨⟨vpos (by unfold mA; first | rw [if_pos (show k = 5 by assumption)] | rw [if_neg (show ¬ k = 5 by assumption)]) hs3 (by assumption), trivial⟩, rfl⟩)] at hb2; exact hb2), rfl, rfl⟩
              | exact ⟨_, _, _, _, (some (p1, p2), none), (by rw [rowU, ← hs]; exact (st_no (s := (some (p1, p2), none)) (okU_no1 (by unfold mA; first | rw [if_pos (show k = 5 by assumption)] | rw [if_neg (show ¬ k = 5 by assumption)]) lo1 (by assumption))).symm), (by have hb2 := hbu.st (k := k) hX hY; rw [st_no (s := (some (p1, p2), none)) (okU_no1 (by unfold mA; first | rw [if_pos (show k = 5 by assumption)] | rw [if_neg (show ¬ k = 5 by assumption)]) lo1 (by assumption))] at hb2; exact hb2), rfl, rfl⟩
              | exact ⟨_, _, _, _, (some (p1, p2), none), (by rw [rowU, ← hs]; exact (st_no (s := (some (p1, p2), none)) (okU_no2 (by unfold mA; first | rw [if_pos (show k = 5 by assumption)] | rw [if_neg (show ¬ k = 5 by assumption)]) lo1 (by assumption))).symm), (by have hb2 := hbu.st (k := k) hX hY; rw [st_no (s := (some (p1, p2), none)) (okU_no2 (by unfold mA; first | rw [if_pos (show k = 5 by assumption)] | rw [if_neg (show ¬ k = 5 by assumption)]) lo1 (by assumption))] at hb2; exact hb2), rfl, rfl⟩
              | exact ⟨_, _, _, _, (some (p1, p2), none), (by rw [rowU, ← hs]; exact (st_no (s := (some (p1, p2), none)) (okU_no3 hs1 (by assumption))).symm), (by have hb2 := hbu.st (k := k) hX hY; rw [st_no (s := (some (p1, p2), none)) (okU_no3 hs1 (by assumption))] at hb2; exact hb2), rfl, rfl⟩
          case h90 =>
            first
              | exact ⟨_, _, _, _, (some ((-9 + (j : Int)), (-9 + (j_1 : Int))), none), (by rw [rowU, ← hs]; exact (st_is (s := (some (p1, p2), none)) (L := some ((-9 + (j : Int)), (-9 + (j_1 : Int)))) (R := none) (okU_yes (by unfold mA; first | rw [if_pos (show k = 5 by assumption)] | rw [if_neg (show ¬ k = 5 by assumption)]) lo1 (by assumption) (by assumption) hs1 (by assumption)) (.inl ⟨lsU_t lo2 hs2 (by assumption), rfl⟩) (.inr ⟨fun z => vneg (by unfold mA; first | rw [if_pos (show k = 5 by assumption)] | rw [if_neg (show ¬ k = 5 by assumption)]) hs3 (by assumption) z.1, rfl⟩)).symm), (by have hb2 := hbu.st (k := k) hX hY; rw [st_is (s := (some (p1, p2), none)) (L := some ((-9 + (j : Int)), (-9 + (j_1 : Int)))) (R := none) (okU_yes (by unfold mA; first | rw [if_pos (show k = 5 by assumption)] | rw [if_neg (show ¬ k = 5 by assumption)]) lo1 (by assumption) (by assumption) hs1 (by assumption)) (.inl ⟨lsU_t lo2 hs2 (by assumption), rfl⟩) (.inr ⟨fun z => vneg (by unfold mA; first | rw [if_pos (show k = 5 by assumption)] | rw [if_neg (show ¬ k = 5 by assumption)]) hs3 (by assumption) z.1, rfl⟩)] at hb2; exact hb2), rfl, rfl⟩
              | exact ⟨_, _, _, _, (some ((-9 + (j : Int)), (-9 + (j_1 : Int))), some ((-9 + (j : Int)), (-9 + (j_1 : Int)))), (by rw [rowU, ← hs]; exact (st_is (s := (some (p1, p2), none)) (L := some ((-9 + (j : Int)), (-9 + (j_1 : Int)))) (R := some ((-9 + (j : Int)), (-9 + (j_1 : Int)))) (okU_yes (by unfold mA; first | rw [if_pos (show k = 5 by assumption)] | rw [if_neg (show ¬ k = 5 by assumption)]) lo1 (by assumption) (by assumption) hs1 (by assumption)) (.inl ⟨lsU_t lo2 hs2 (by assumption), rfl⟩) (.inl ⟨⟨vpos (by unfold mA; first | rw [if_pos (show k = 5 by assumption)] | rw [if_neg (show ¬ k = 5 by assumption)]) hs3 (by assumption), trivial⟩, rfl⟩)).symm), (by have hb2 := hbu.st (k := k) hX hY; rw [st_is (s := (some (p1, p2), none)) (L := some ((-9 + (j : Int)), (-9 + (j_1 : Int)))) (R := some ((-9 + (j : Int)), (-9 + (j_1 : Int)))) (okU_yes (by unfold mA; first | rw [if_pos (show k = 5 by assumption)] | rw [if_neg (show ¬ k = 5 by assumption)]) lo1 (by assumption) (by assumption) hs1 (by assumption)) (.inl ⟨lsU_t lo2 hs2 (by assumption), rfl⟩) (.inl ⟨⟨vpos (by unfold mA; first | rw [if_pos (show k = 5 by assumption)] | rw [if_neg (show ¬ k = 5 by assumption)]) hs3 (by assumption), trivial⟩, rfl⟩)] at hb2; exact hb2), rfl, rfl⟩
              | exact ⟨_, _, _, _, (some (p1, p2), none), (by rw [rowU, ← hs]; exact (st_is (s := (some (p1, p2), none)) (L := some (p1, p2)) (R := none) (okU_yes (by unfold mA; first | rw [if_pos (show k = 5 by assumption)] | rw [if_neg (show ¬ k = 5 by assumption)]) lo1 (by assumption) (by assumption) hs1 (by assumption)) (.inr ⟨lsU_f lo2 hs2 (by assumption), rfl⟩) (.inr ⟨fun z => vneg (by unfold mA; first | rw [if_pos (show k = 5 by assumption)] | rw [if_neg (show ¬ k = 5 by assumption)]) hs3 (by assumption) z.1, rfl⟩)).symm), (by have hb2 := hbu.st (k := k) hX hY; rw [st_is (s := (some (p1, p2), none)) (L := some (p1, p2)) (R := none) (okU_yes (by unfold mA; first | rw [if_pos (show k = 5 by assumption)] | rw [if_neg (show ¬ k = 5 by assumption)]) lo1 (by assumption) (by assumption) hs1 (by assumption)) (.inr ⟨lsU_f lo2 hs2 (by assumption), rfl⟩) (.inr ⟨fun z => vneg (by unfold mA; first | rw [if_pos (show k = 5 by assumption)] | rw [if_neg (show ¬ k = 5 by assumption)]) hs3 (by assumption) z.1, rfl⟩)] at hb2; exact hb2), rfl, rfl⟩
              | exact ⟨_, _, _, _, (some (p1, p2), some ((-9 + (j : Int)), (-9 + (j_1 : Int)))), (by rw [rowU, ← hs]; exact (st_is (s := (some (p1, p2), none)) (L := some (p1, p2)) (R := some ((-9 + (j : Int)), (-9 + (j_1 : Int)))) (okU_yes (by unfold mA; first | rw [if_pos (show k = 5 by assumption)] | rw [if_neg (show ¬ k = 5 by assumption)]) lo1 (by assumption) (by assumption) hs1 (by assumption)) (.inr ⟨lsU_f lo2 hs2 (by assumption), rfl⟩) (.inl ⟨⟨vpos (by unfold mA; first | rw [if_pos (show k = 5 by assumption)] | rw [if_neg (show ¬ k = 5 by assumption)]) hs3 (by assumption), trivial⟩, rfl⟩)).symm), (by have hb2 := hbu.st (k := k) hX hY; rw [st_is (s := (some (p1, p2), none)) (L := some (p1, p2)) (R := some ((-9 + (j : Int)), (-9 + (j_1 : Int)))) (okU_yes (by unfold mA; first | rw [if_pos (show k = 5 by assumption)] | rw [if_neg (show ¬ k = 5 by assumption)]) lo1 (by assumption) (by assumption) hs1 (by assumption)) (.inr ⟨lsU_f lo2 hs2 (by assumption), rfl⟩) (.inl ⟨⟨vpos (by unfold mA; first | rw [if_pos (show k = 5 by assumption)] | rw [if_neg (show ¬ k = 5 by assumption)]) hs3 (by assumption), trivial⟩, rfl⟩)] at hb2; exact hb2), rfl, rfl⟩
              | exact ⟨_, _, _, _, (some (p1, p2), none), (by rw [rowU, ← hs]; exact (st_no (s := (some (p1, p2), none)) (okU_no1 (by unfold mA; first | rw [if_pos (show k = 5 by assumption)] | rw [if_neg (show ¬ k = 5 by assumption)]) lo1 (by assumption))).symm), (by have hb2 := hbu.st (k := k) hX hY; rw [st_no (s := (some (p1, p2), none)) (okU_no1 (by unfold mA; first | rw [if_pos (show k = 5 by assumption)] | rw [if_neg (show ¬ k = 5 by assumption)]) lo1 (by assumption))] at hb2; exact hb2), rfl, rfl⟩
              | exact ⟨_, _, _, _, (some (p1, p2), none), (by rw [rowU, ← hs]; exact (st_no (s := (some (p1, p2), none)) (okU_no2 (by unfold mA; first | rw [if_pos (show k = 5 by assumption)] | rw [if_neg (show ¬ k = 5 by assumption)]) lo1 (by assumption))).symm), (by have hb2 := hbu.st (k := k) hX hY; rw [st_no (s := (some (p1, p2), none)) (okU_no2 (by unfold mA; first | rw [if_pos (show k = 5 by assumption)] | rw [if_neg (show ¬ k = 5 by assumption)]) lo1 (by assumption))] at hb2; exact hb2), rfl, rfl⟩
              | exact ⟨_, _, _, _, (some (p1, p2), none), (by rw [rowU, ← hs]; exact (st_no (s := (some (p1, p2), none)) (okU_no3 hs1 (by assumption))).symm), (by have hb2 := hbu.st (k := k) hX hY; rw [st_no (s := (some (p1, p2), none)) (okU_no3 hs1 (by assumption))] at hb2; exact hb2), rfl, rfl⟩
          case h91 =>
            first
              | exact ⟨_, _, _, _, (some ((-9 + (j : Int)), (-9 + (j_1 : Int))), none), (by rw [rowU, ← hs]; exact (st_is (s := (some (p1, p2), none)) (L := some ((-9 + (j : Int)), (-9 + (j_1 : Int)))) (R := none) (okU_yes (by unfold mA; first | rw [if_pos (show k = 5 by assumption)] | rw [if_neg (show ¬ k = 5 by assumption)]) lo1 (by assumption) (by assumption) hs1 (by assumption)) (.inl ⟨lsU_t lo2 hs2 (by assumption), rfl⟩) (.inr ⟨fun z => vneg (by unfold mA; first | rw [if_pos (show k = 5 by assumption)] | rw [if_neg (show ¬ k = 5 by assumption)]) hs3 (by assumption) z.1, rfl⟩)).symm), (by have hb2 := hbu.st (k := k) hX hY; rw [st_is (s := (some (p1, p2), none)) (L := some ((-9 + (j : Int)), (-9 + (j_1 : Int)))) (R := none) (okU_yes (by unfold mA; first | rw [if_pos (show k = 5 by assumption)] | rw [if_neg (show ¬ k = 5 by assumption)]) lo1 (by assumption) (by assumption) hs1 (by assumption)) (.inl ⟨lsU_t lo2 hs2 (by assumption), rfl⟩) (.inr ⟨fun z => vneg (by unfold mA; first | rw [if_pos (show k = 5 by assumption)] | rw [if_neg (show ¬ k = 5 by assumption)]) hs3 (by assumption) z.1, rfl⟩)] at hb2; exact hb2), rfl, rfl⟩
              | exact ⟨_, _, _, _, (some ((-9 + (j : Int)), (-9 + (j_1 : Int))), some ((-9 + (j : Int)), (-9 + (j_1 : Int)))), (by rw [rowU, ← hs]; exact (st_is (s := (some (p1, p2), none)) (L := some ((-9 + (j : Int)), (-9 + (j_1 : Int)))) (R := some ((-9 + (j : Int)), (-9 + (j_1 : Int)))) (okU_yes (by unfold mA; first | rw [if_pos (show k = 5 by assumption)] | rw [if_neg (show ¬ k = 5 by assumption)]) lo1 (by assumption) (by assumption) hs1 (by assumption)) (.inl ⟨lsU_t lo2 hs2 (by assumption), rfl⟩) (.inl ⟨⟨vpos (by unfold mA; first | rw [if_pos (show k = 5 by assumption)] | rw [if_neg (show ¬ k = 5 by assumption)]) hs3 (by assumption), trivial⟩, rfl⟩)).symm), (by have hb2 := hbu.st (k := k) hX hY; rw [st_is (s := (some (p1, p2), none)) (L := some ((-9 + (j : Int)), (-9 + (j_1 : Int)))) (R := some ((-9 + (j : Int)), (-9 + (j_1 : Int)))) (okU_yes (by unfold mA; first | rw [if_pos (show k = 5 by assumption)] | rw [if_neg (show ¬ k = 5 by assumption)]) lo1 (by assumption) (by assumption) hs1 (by assumption)) (.inl ⟨lsU_t lo2 hs2 (by assumption), rfl⟩) (.inl ⟨⟨vpos (by unfold mA; first | rw [if_pos (show k = 5 by assumption)] | rw [if_neg (show ¬ k = 5 by assumption)]) hs3 (by assumption), trivial⟩, rfl⟩)] at hb2; exact hb2), rfl, rfl⟩
              | exact ⟨_, _, _, _, (some (p1, p2), none), (by rw [rowU, ← hs]; exact (st_is (s := (some (p1, p2), none)) (L := some (p1, p2)) (R := none) (okU_yes (by unfold mA; first | rw [if_pos (show k = 5 by assumption)] | rw [if_neg (show ¬ k = 5 by assumption)]) lo1 (by assumption) (by assumption) hs1 (by assumption)) (.inr ⟨lsU_f lo2 hs2 (by assumption), rfl⟩) (.inr ⟨fun z => vneg (by unfold mA; first | rw [if_pos (show k = 5 by assumption)] | rw [if_neg (show ¬ k = 5 by assumption)]) hs3 (by assumption) z.1, rfl⟩)).symm), (by have hb2 := hbu.st (k := k) hX hY; rw [st_is (s := (some (p1, p2), none)) (L := some (p1, p2)) (R := none) (okU_yes (by unfold mA; first | rw [if_pos (show k = 5 by assumption)] | rw [if_neg (show ¬ k = 5 by assumption)]) lo1 (by assumption) (by assumption) hs1 (by assumption)) (.inr ⟨lsU_f lo2 hs2 (by assumption), rfl⟩) (.inr ⟨fun z => vneg (by unfold mA; first | rw [if_pos (show k = 5 by assumption)] | rw [if_neg (show ¬ k = 5 by assumption)]) hs3 (by assumption) z.1, rfl⟩)] at hb2; exact hb2), rfl, rfl⟩
              | exact ⟨_, _, _, _, (some (p1, p2), some ((-9 + (j : Int)), (-9 + (j_1 : Int)))), (by rw [rowU, ← hs]; exact (st_is (s := (some (p1, p2), none)) (L := some (p1, p2)) (R := some ((-9 + (j : Int)), (-9 + (j_1 : Int)))) (okU_yes (by unfold mA; first | rw [if_pos (show k = 5 by assumption)] | rw [if_neg (show ¬ k = 5 by assumption)]) lo1 (by assumption) (by assumption) hs1 (by assumption)) (.inr ⟨lsU_f lo2 hs2 (by assumption), rfl⟩) (.inl ⟨⟨vpos (by unfold mA; first | rw [if_pos (show k = 5 by assumption)] | rw [if_neg (show ¬ k = 5 by assumption)]) hs3 (by assumption), trivial⟩, rfl⟩)).symm), (by have hb2 := hbu.st (k := k) hX hY; rw [st_is (s := (some (p1, p2), none)) (L := some (p1, p2)) (R := some ((-9 + (j : Int)), (-9 + (j_1 : Int)))) (okU_yes (by unfold mA; first | rw [if_pos (show k = 5 by assumption)] | rw [if_neg (show ¬ k = 5 by assumption)]) lo1 (by assumption) (by assumption) hs1 (by assumption)) (.inr ⟨lsU_f lo2 hs2 (by assumption), rfl⟩) (.inl ⟨⟨vpos (by unfold mA; first | rw [if_pos (show k = 5 by assumption)] | rw [if_neg (show ¬ k = 5 by assumption)]) hs3 (by assumption), trivial⟩, rfl⟩)] at hb2; exact hb2), rfl, rfl⟩
              | exact ⟨_, _, _, _, (some (p1, p2), none), (by rw [rowU, ← hs]; exact (st_no (s := (some (p1, p2), none)) (okU_no1 (by unfold mA; first | rw [if_pos (show k = 5 by assumption)] | rw [if_neg (show ¬ k = 5 by assumption)]) lo1 (by assumption))).symm), (by have hb2 := hbu.st (k := k) hX hY; rw [st_no (s := (some (p1, p2), none)) (okU_no1 (by unfold mA; first | rw [if_pos (show k = 5 by assumption)] | rw [if_neg (show ¬ k = 5 by assumption)]) lo1 (by assumption))] at hb2; exact hb2), rfl, rfl⟩
              | exact ⟨_, _, _, _, (some (p1, p2), none), (by rw [rowU, ← hs]; exact (st_no (s := (some (p1, p2), none)) (okU_no2 (by unfold mA; first | rw [if_pos (show k = 5 by assumption)] | rw [if_neg (show ¬ k = 5 by assumption)]) lo1 (by assumption))).symm), (by have hb2 := hbu.st (k := k) hX hY; rw [st_no (s := (some (p1, p2), none)) (okU_no2 (by unfold mA; first | rw [if_pos (show k = 5 by assumption)] | rw [if_neg (show ¬ k = 5 by assumption)]) lo1 (by assumption))] at hb2; exact hb2), rfl, rfl⟩
              | exact ⟨_, _, _, _, (some (p1, p2), none), (by rw [rowU, ← hs]; exact (st_no (s := (some (p1, p2), none)) (okU_no3 hs1 (by assumption))).symm), (by have hb2 := hbu.st (k := k) hX hY; rw [st_no (s := (some (p1, p2), none)) (okU_no3 hs1 (by assumption))] at hb2; exact hb2), rfl, rfl⟩
          case h92 =>
            first
              | exact ⟨_, _, _, _, (some ((-9 + (j : Int)), (-9 + (j_1 : Int))), none), (by rw [rowU, ← hs]; exact (st_is (s := (some (p1, p2), none)) (L := some ((-9 + (j : Int)), (-9 + (j_1 : Int)))) (R := none) (okU_yes (by unfold mA; first | rw [if_pos (show k = 5 by assumption)] | rw [if_neg (show ¬ k = 5 by assumption)]) lo1 (by assumption) (by assumption) hs1 (by assumption)) (.inl ⟨lsU_t lo2 hs2 (by assumption), rfl⟩) (.inr ⟨fun z => vneg (by unfold mA; first | rw [if_pos (show k = 5 by assumption)] | rw [if_neg (show ¬ k = 5 by assumption)]) hs3 (by assumption) z.1, rfl⟩)).symm), (by have hb2 := hbu.st (k := k) hX hY; rw [st_is (s := (some (p1, p2), none)) (L := some ((-9 + (j : Int)), (-9 + (j_1 : Int)))) (R := none) (okU_yes (by unfold mA; first | rw [if_pos (show k = 5 by assumption)] | rw [if_neg (show ¬ k = 5 by assumption)]) lo1 (by assumption) (by assumption) hs1 (by assumption)) (.inl ⟨lsU_t lo2 hs2 (by assumption), rfl⟩) (.inr ⟨fun z => vneg (by unfold mA; first | rw [if_pos (show k = 5 by assumption)] | rw [if_neg (show ¬ k = 5 by assumption)]) hs3 (by assumption) z.1, rfl⟩)] at hb2; exact hb2), rfl, rfl⟩
              | exact ⟨_, _, _, _, (some ((-9 + (j : Int)), (-9 + (j_1 : Int))), some ((-9 + (j : Int)), (-9 + (j_1 : Int)))), (by rw [rowU, ← hs]; exact (st_is (s := (some (p1, p2), none)) (L := some ((-9 + (j : Int)), (-9 + (j_1 : Int)))) (R := some ((-9 + (j : Int)), (-9 + (j_1 : Int)))) (okU_yes (by unfold mA; first | rw [if_pos (show k = 5 by assumption)] | rw [if_neg (show ¬ k = 5 by assumption)]) lo1 (by assumption) (by assumption) hs1 (by assumption)) (.inl ⟨lsU_t lo2 hs2 (by assumption), rfl⟩) (.inl ⟨⟨vpos (by unfold mA; first | rw [if_pos (show k = 5 by assumption)] | rw [if_neg (show ¬ k = 5 by assumption)]) hs3 (by assumption), trivial⟩, rfl⟩)).symm), (by have hb2 := hbu.st (k := k) hX hY; rw [st_is (s := (some (p1, p2), none)) (L := some ((-9 + (j : Int)), (-9 + (j_1 : Int)))) (R := some ((-9 + (j : Int)), (-9 + (j_1 : Int)))) (okU_yes (by unfold mA; first | rw [if_pos (show k = 5 by assumption)] | rw [if_neg (show ¬ k = 5 by assumption)]) lo1 (by assumption) (by assumption) hs1 (by assumption)) (.inl ⟨lsU_t lo2 hs2 (by assumption), rfl⟩) (.inl ⟨⟨vpos (by unfold mA; first | rw [if_pos (show k = 5 by assumption)] | rw [if_neg (show ¬ k = 5 by assumption)]) hs3 (by assumption), trivial⟩, rfl⟩)] at hb2; exact hb2), rfl, rfl⟩
              | exact ⟨_, _, _, _, (some (p1, p2), none), (by rw [rowU, ← hs]; exact (st_is (s := (some (p1, p2), none)) (L := some (p1, p2)) (R := none) (okU_yes (by unfold mA; first | rw [if_pos (show k = 5 by assumption)] | rw [if_neg (show ¬ k = 5 by assumption)]) lo1 (by assumption) (by assumption) hs1 (by assumption)) (.inr ⟨lsU_f lo2 hs2 (by assumption), rfl⟩) (.inr ⟨fun z => vneg (by unfold mA; first | rw [if_pos (show k = 5 by assumption)] | rw [if_neg (show ¬ k = 5 by assumption)]) hs3 (by assumption) z.1, rfl⟩)).symm), (by have hb2 := hbu.st (k := k) hX hY; rw [st_is (s := (some (p1, p2), none)) (L := some (p1, p2)) (R := none) (okU_yes (by unfold mA; first | rw [if_pos (show k = 5 by assumption)] | rw [if_neg (show ¬ k = 5 by assumption)]) lo1 (by assumption) (by assumption) hs1 (by assumption)) (.inr ⟨lsU_f lo2 hs2 (by assumption), rfl⟩) (.inr ⟨fun z => vneg (by unfold mA; first | rw [if_pos (show k = 5 by assumption)] | rw [if_neg (show ¬ k = 5 by assumption)]) hs3 (by assumption) z.1, rfl⟩)] at hb2; exact hb2), rfl, rfl⟩
              | exact ⟨_, _, _, _, (some (p1, p2), some ((-9 + (j : Int)), (-9 + (j_1 : Int)))), (by rw [rowU, ← hs]; exact (st_is (s := (some (p1, p2), none)) (L := some (p1, p2)) (R := some ((-9 + (j : Int)), (-9 + (j_1 : Int)))) (okU_yes (by unfold mA; first | rw [if_pos (show k = 5 by assumption)] | rw [if_neg (show ¬ k = 5 by assumption)]) lo1 (by assumption) (by assumption) hs1 (by assumption)) (.inr ⟨lsU_f lo2 hs2 (by assumption), rfl⟩) (.inl ⟨⟨vpos (by unfold mA; first | rw [if_pos (show k = 5 by assumption)] | rw [if_neg (show ¬ k = 5 by assumption)]) hs3 (by assumption), trivial⟩, rfl⟩)).symm), (by have hb2 := hbu.st (k := k) hX hY; rw [st_is (s := (some (p1, p2), none)) (L := some (p1, p2)) (R := some ((-9 + (j : Int)), (-9 + (j_1 : Int)))) (okU_yes (by unfold mA; first | rw [if_pos (show k = 5 by assumption)] | rw [if_neg (show ¬ k = 5 by assumption)]) lo1 (by assumption) (by assumption) hs1 (by assumption)) (.inr ⟨lsU_f lo2 hs2 (by assumption), rfl⟩) (.inl ⟨⟨vpos (by unfold mA; first | rw [if_pos (show k = 5 by assumption)] | rw [if_neg (show ¬ k = 5 by assumption)]) hs3 (by assumption), trivial⟩, rfl⟩)] at hb2; exact hb2), rfl, rfl⟩
              | exact ⟨_, _, _, _, (some (p1, p2), none), (by rw [rowU, ← hs]; exact (st_no (s := (some (p1, p2), none)) (okU_no1 (by unfold mA; first | rw [if_pos (show k = 5 by assumption)] | rw [if_neg (show ¬ k = 5 by assumption)]) lo1 (by assumption))).symm), (by have hb2 := hbu.st (k := k) hX hY; rw [st_no (s := (some (p1, p2), none)) (okU_no1 (by unfold mA; first | rw [if_pos (show k = 5 by assumption)] | rw [if_neg (show ¬ k = 5 by assumption)]) lo1 (by assumption))] at hb2; exact hb2), rfl, rfl⟩
              | exact ⟨_, _, _, _, (some (p1, p2), none), (by rw [rowU, ← hs]; exact (st_no (s := (some (p1, p2), none)) (okU_no2 (by unfold mA; first | rw [if_pos (show k = 5 by assumption)] | rw [if_neg (show ¬ k = 5 by assumption)]) lo1 (by assumption))).symm), (by have hb2 := hbu.st (k := k) hX hY; rw [st_no (s := (some (p1, p2), none)) (okU_no2 (by unfold mA; first | rw [if_pos (show k = 5 by assumption)] | rw [if_neg (show ¬ k = 5 by assumption)]) lo1 (by assumption))] at hb2; exact hb2), rfl, rfl⟩
              | exact ⟨_, _, _, _, (some (p1, p2), none), (by rw [rowU, ← hs]; exact (st_no (s := (some (p1, p2), none)) (okU_no3 hs1 (by assumption))).symm), (by have hb2 := hbu.st (k := k) hX hY; rw [st_no (s := (some (p1, p2), none)) (okU_no3 hs1 (by assumption))] at hb2; exact hb2), rfl, rfl⟩
          case h93 =>
            first
              | exact ⟨_, _, _, _, (some ((-9 + (j : Int)), (-9 + (j_1 : Int))), none), (by rw [rowU, ← hs]; exact (st_is (s := (some (p1, p2), none)) (L := some ((-9 + (j : Int)), (-9 + (j_1 : Int)))) (R := none) (okU_yes (by unfold mA; first | rw [if_pos (show k = 5 by assumption)] | rw [if_neg (show ¬ k = 5 by assumption)]) lo1 (by assumption) (by assumption) hs1 (by assumption)) (.inl ⟨lsU_t lo2 hs2 (by assumption), rfl⟩) (.inr ⟨fun z => vneg (by unfold mA; first | rw [if_pos (show k = 5 by assumption)] | rw [if_neg (show ¬ k = 5 by assumption)]) hs3 (by assumption) z.1, rfl⟩)).symm), (by have hb2 := hbu.st (k := k) hX hY; rw [st_is (s := (some (p1, p2), none)) (L := some ((-9 + (j : Int)), (-9 + (j_1 : Int)))) (R := none) (okU_yes (by unfold mA; first | rw [if_pos (show k = 5 by assumption)] | rw [if_neg (show ¬ k = 5 by assumption)]) lo1 (by assumption) (by assumption) hs1 (by assumption)) (.inl ⟨lsU_t lo2 hs2 (by assumption), rfl⟩) (.inr ⟨fun z => vneg (by unfold mA; first | rw [if_pos (show k = 5 by assumption)] | rw [if_neg (show ¬ k = 5 by assumption)]) hs3 (by assumption) z.1, rfl⟩)] at hb2; exact hb2), rfl, rfl⟩
              | exact ⟨_, _, _, _, (some ((-9 + (j : Int)), (-9 + (j_1 : Int))), some ((-9 + (j : Int)), (-9 + (j_1 : Int)))), (by rw [rowU, ← hs]; exact (st_is (s := (some (p1, p2), none)) (L := some ((-9 + (j : Int)), (-9 + (j_1 : Int)))) (R := some ((-9 + (j : Int)), (-9 + (j_1 : Int)))) (okU_yes (by unfold mA; first | rw [if_pos (show k = 5 by assumption)] | rw [if_neg (show ¬ k = 5 by assumption)]) lo1 (by assumption) (by assumption) hs1 (by assumption)) (.inl ⟨lsU_t lo2 hs2 (by assumption), rfl⟩) (.inl ⟨⟨vpos (by unfold mA; first | rw [if_pos (show k = 5 by assumption)] | rw [if_neg (show ¬ k = 5 by assumption)]) hs3 (by assumption), trivial⟩, rfl⟩)).symm), (by have hb2 := hbu.st (k := k) hX hY; rw [st_is (s := (some (p1, p2), none)) (L := some ((-9 + (j : Int)), (-9 + (j_1 : Int)))) (R := some ((-9 + (j : Int)), (-9 + (j_1 : Int)))) (okU_yes (by unfold mA; first | rw [if_pos (show k = 5 by assumption)] | rw [if_neg (show ¬ k = 5 by assumption)]) lo1 (by assumption) (by assumption) hs1 (by assumption)) (.inl ⟨lsU_t lo2 hs2 (by assumption), rfl⟩) (.inl ⟨⟨vpos (by unfold mA; first | rw [if_pos (show k = 5 by assumption)] | rw [if_neg (show ¬ k = 5 by assumption)]) hs3 (by assumption), trivial⟩, rfl⟩)] at hb2; exact hb2), rfl, rfl⟩
              | exact ⟨_, _, _, _, (some (p1, p2), none), (by rw [rowU, ← hs]; exact (st_is (s := (some (p1, p2), none)) (L := some (p1, p2)) (R := none) (okU_yes (by unfold mA; first | rw [if_pos (show k = 5 by assumption)] | rw [if_neg (show ¬ k = 5 by assumption)]) lo1 (by assumption) (by assumption) hs1 (by assumption)) (.inr ⟨lsU_f lo2 hs2 (by assumption), rfl⟩) (.inr ⟨fun z => vneg (by unfold mA; first | rw [if_pos (show k = 5 by assumption)] | rw [if_neg (show ¬ k = 5 by assumption)]) hs3 (by assumption) z.1, rfl⟩)).symm), (by have hb2 := hbu.st (k := k) hX hY; rw [st_is (s := (some (p1, p2), none)) (L := some (p1, p2)) (R := none) (okU_yes (by unfold mA; first | rw [if_pos (show k = 5 by assumption)] | rw [if_neg (show ¬ k = 5 by assumption)]) lo1 (by assumption) (by assumption) hs1 (by assumption)) (.inr ⟨lsU_f lo2 hs2 (by assumption), rfl⟩) (.inr ⟨fun z => vneg (by unfold mA; first | rw [if_pos (show k = 5 by assumption)] | rw [if_neg (show ¬ k = 5 by assumption)]) hs3 (by assumption) z.1, rfl⟩)] at hb2; exact hb2), rfl, rfl⟩
              | exact ⟨_, _, _, _, (some (p1, p2), some ((-9 + (j : Int)), (-9 + (j_1 : Int)))), (by rw [rowU, ← hs]; exact (st_is (s := (some (p1, p2), none)) (L := some (p1, p2)) (R := some ((-9 + (j : Int)), (-9 + (j_1 : Int)))) (okU_yes (by unfold mA; first | rw [if_pos (show k = 5 by assumption)] | rw [if_neg (show ¬ k = 5 by assumption)]) lo1 (by assumption) (by assumption) hs1 (by assumption)) (.inr ⟨lsU_f lo2 hs2 (by assumption), rfl⟩) (.inl ⟨⟨vpos (by unfold mA; first | rw [if_pos (show k = 5 by assumption)] | rw [if_neg (show ¬ k = 5 by assumption)]) hs3 (by assumption), trivial⟩, rfl⟩)).symm), (by have hb2 := hbu.st (k := k) hX hY; rw [st_is (s := (some (p1, p2), none)) (L := some (p1, p2)) (R := some ((-9 + (j : Int)), (-9 + (j_1 : Int)))) (okU_yes (by unfold mA; first | rw [if_pos (show k = 5 by assumption)] | rw [if_neg (show ¬ k = 5 by assumption)]) lo1 (by assumption) (by assumption) hs1 (by assumption)) (.inr ⟨lsU_f lo2 hs2 (by assumption), rfl⟩) (.inl ⟨⟨vpos (by unfold mA; first | rw [if_pos (show k = 5 by assumption)] | rw [if_neg (show ¬ k = 5 by assumption)]) hs3 (by assumption), trivial⟩, rfl⟩)] at hb2; exact hb2), rfl, rfl⟩
              | exact ⟨_, _, _, _, (some (p1, p2), none), (by rw [rowU, ← hs]; exact (st_no (s := (some (p1, p2), none)) (okU_no1 (by unfold mA; first | rw [if_pos (show k = 5 by assumption)] | rw [if_neg (show ¬ k = 5 by assumption)]) lo1 (by assumption))).symm), (by have hb2 := hbu.st (k := k) hX hY; rw [st_no (s := (some (p1, p2), none)) (okU_no1 (by unfold mA; first | rw [if_pos (show k = 5 by assumption)] | rw [if_neg (show ¬ k = 5 by assumption)]) lo1 (by assumption))] at hb2; exact hb2), rfl, rfl⟩
              | exact ⟨_, _, _, _, (some (p1, p2), none), (by rw [rowU, ← hs]; exact (st_no (s := (some (p1, p2), none)) (okU_no2 (by unfold mA; first | rw [if_pos (show k = 5 by assumption)] | rw [if_neg (show ¬ k = 5 by assumption)]) lo1 (by assumption))).symm), (by have hb2 := hbu.st (k := k) hX hY; rw [st_no (s := (some (p1, p2), none)) (okU_no2 (by unfold mA; first | rw [if_pos (show k = 5 by assumption)] | rw [if_neg (show ¬ k = 5 by assumption)]) lo1 (by assumption))] at hb2; exact hb2), rfl, rfl⟩
              | exact ⟨_, _, _, _, (some (p1, p2), none), (by rw [rowU, ← hs]; exact (st_no (s := (some (p1, p2), none)) (okU_no3 hs1 (by assumption))).symm), (by have hb2 := hbu.st (k := k) hX hY; rw [st_no (s := (some (p1, p2), none)) (okU_no3 hs1 (by assumption))] at hb2; exact hb2), rfl, rfl⟩
        ·
          refine (as_par (i := 5) (j := 6) ?h94 rfl (ca_cons (c_tup (ca_cons (nm 3 rfl (ca_cons (nm 4 rfl (ca_cons (c_int (ca_nil (And.intro (And.intro rfl (Nat.le_of_ble_eq_true rfl)) (ca_cons (c_if (t_eqI (nm 0 rfl (c_int (And.intro (fun b34 => (c_tup (ca_cons (c_add (nm 3 rfl (nm 4 rfl (ca_cons (c_neg (nm 4 rfl (ca_cons (c_int (ca_nil (And.intro (And.intro rfl (Nat.le_of_ble_eq_true rfl)) (ca_nil ⟨_, _, rfl, (as_asg (i := 7) ?h95 (c_call c__law_times (hr.mono (by decide)) (ca_cons (nm 0 rfl (ca_cons (nm 5 rfl (ca_cons (nm 6 rfl (ca_nil ⟨_, _, _, _, _, _, _, 12, 12, rfl, ?h96, fun x1 y1 z1 lo1 nm1 hx1 hy1 hz1 => And.intro rfl (as_ifn (t_w (w_and (t_eqI (c_abs m_abs (ca_cons (c_ixTn (nm 7 rfl (c_int (And.intro (by decide) (ca_nil (c_int (And.intro (fun b35 => (w_and (t_eqI (c_ixTn (nm 7 rfl (c_int (And.intro (by decide) (c_int (And.intro (fun b36 => (w_and1 (t_gt (c_call c__law_sign (hr.mono (by decide)) (ca_cons (nm 0 rfl (ca_cons (c_tup (ca_cons (c_sub (nm 3 rfl (c_int (ca_cons (nm 4 rfl (ca_cons (c_int (ca_nil (And.intro (And.intro rfl (Nat.le_of_ble_eq_true rfl)) (ca_nil ⟨_, _, _, _, rfl, ?h97, fun s1 hs1 => And.intro rfl (c_int (And.intro (fun b37 => (as_ifn (t_w (w_or (t_isN (nm 1 rfl (w_or1 (t_lt (c_call c__law_sign (hr.mono (by decide)) (ca_cons (nm 0 rfl (ca_cons (c_call c__law_minus (hr.mono (by decide)) (ca_cons (nm 5 rfl (ca_cons (nm 1 rfl (ca_nil ⟨_, _, _, _, _, _, 12, 12, rfl, ?h98, fun x2 y2 z2 lo2 nm2 hx2 hy2 hz2 => And.intro rfl (ca_nil ⟨_, _, _, _, rfl, ?h99, fun s2 hs2 => And.intro rfl (c_int (And.intro (fun b38 => (as_asg (i := 1) ?h100 (nm 5 rfl (as_go (as_ifn (t_w (w_and (t_gt (c_call c__law_sign (hr.mono (by decide)) (ca_cons (nm 0 rfl (ca_cons (nm 6 rfl (ca_nil ⟨_, _, _, _, rfl, ?h101, fun s3 hs3 => And.intro rfl (c_int (And.intro (fun b39 => (w_and1 (t_w (w_or (t_isN (nm 2 rfl (w_or1 (t_lt (c_call c__law_sign (hr.mono (by decide)) (ca_cons (nm 0 rfl (ca_cons (c_call c__law_minus (hr.mono (by decide)) (ca_cons (nm 5 rfl (ca_cons (nm 2 rfl (ca_nil ⟨_, _, _, _, _, _, 12, 12, rfl, ?h102, fun x3 y3 z3 lo3 nm3 hx3 hy3 hz3 => And.intro rfl (ca_nil ⟨_, _, _, _, rfl, ?h103, fun s4 hs4 => And.intro rfl (c_int (And.intro (fun b40 => (as_asg (i := 2) ?h104 (nm 5 rfl (as_go (as_go (as_end rfl ?h105)))))) (fun b40 => (as_go (as_end rfl ?h106)))))⟩)⟩)))))))))))))))))) (fun b39 => (as_go (as_end rfl ?h107)))))⟩)))))))))))))) (fun b38 => (as_ifn (t_w (w_and (t_gt (c_call c__law_sign (hr.mono (by decide)) (ca_cons (nm 0 rfl (ca_cons (nm 6 rfl (ca_nil ⟨_, _, _, _, rfl, ?h108, fun s3 hs3 => And.intro rfl (c_int (And.intro (fun b41 => (w_and1 (t_w (w_or (t_isN (nm 2 rfl (w_or1 (t_lt (c_call c__law_sign (hr.mono (by decide)) (ca_cons (nm 0 rfl (ca_cons (c_call c__law_minus (hr.mono (by decide)) (ca_cons (nm 5 rfl (ca_cons (nm 2 rfl (ca_nil ⟨_, _, _, _, _, _, 12, 12, rfl, ?h109, fun x3 y3 z3 lo3 nm3 hx3 hy3 hz3 => And.intro rfl (ca_nil ⟨_, _, _, _, rfl, ?h110, fun s4 hs4 => And.intro rfl (c_int (And.intro (fun b42 => (as_asg (i := 2) ?h111 (nm 5 rfl (as_go (as_go (as_end rfl ?h112)))))) (fun b42 => (as_go (as_end rfl ?h113)))))⟩)⟩)))))))))))))))))) (fun b41 => (as_go (as_end rfl ?h114)))))⟩)))))))))))))⟩)⟩)))))))))))))))))) (fun b37 => (as_end rfl ?h115))))⟩))))))))))))))))))) (fun b36 => (as_end rfl ?h116))))))))))) (fun b35 => (as_end rfl ?h117)))))))))))))))⟩)))))))))⟩)))))))))))))) (fun b34 => (c_tup (ca_cons (nm 3 rfl (ca_cons (c_neg (nm 4 rfl (ca_cons (c_int (ca_nil (And.intro (And.intro rfl (Nat.le_of_ble_eq_true rfl)) (ca_nil ⟨_, _, rfl, (as_asg (i := 7) ?h118 (c_call c__law_times (hr.mono (by decide)) (ca_cons (nm 0 rfl (ca_cons (nm 5 rfl (ca_cons (nm 6 rfl (ca_nil ⟨_, _, _, _, _, _, _, 12, 12, rfl, ?h119, fun x1 y1 z1 lo1 nm1 hx1 hy1 hz1 => And.intro rfl (as_ifn (t_w (w_and (t_eqI (c_abs m_abs (ca_cons (c_ixTn (nm 7 rfl (c_int (And.intro (by decide) (ca_nil (c_int (And.intro (fun b43 => (w_and (t_eqI (c_ixTn (nm 7 rfl (c_int (And.intro (by decide) (c_int (And.intro (fun b44 => (w_and1 (t_gt (c_call c__law_sign (hr.mono (by decide)) (ca_cons (nm 0 rfl (ca_cons (c_tup (ca_cons (c_sub (nm 3 rfl (c_int (ca_cons (nm 4 rfl (ca_cons (c_int (ca_nil (And.intro (And.intro rfl (Nat.le_of_ble_eq_true rfl)) (ca_nil ⟨_, _, _, _, rfl, ?h120, fun s1 hs1 => And.intro rfl (c_int (And.intro (fun b45 => (as_ifn (t_w (w_or (t_isN (nm 1 rfl (w_or1 (t_lt (c_call c__law_sign (hr.mono (by decide)) (ca_cons (nm 0 rfl (ca_cons (c_call c__law_minus (hr.mono (by decide)) (ca_cons (nm 5 rfl (ca_cons (nm 1 rfl (ca_nil ⟨_, _, _, _, _, _, 12, 12, rfl, ?h121, fun x2 y2 z2 lo2 nm2 hx2 hy2 hz2 => And.intro rfl (ca_nil ⟨_, _, _, _, rfl, ?h122, fun s2 hs2 => And.intro rfl (c_int (And.intro (fun b46 => (as_asg (i := 1) ?h123 (nm 5 rfl (as_go (as_ifn (t_w (w_and (t_gt (c_call c__law_sign (hr.mono (by decide)) (ca_cons (nm 0 rfl (ca_cons (nm 6 rfl (ca_nil ⟨_, _, _, _, rfl, ?h124, fun s3 hs3 => And.intro rfl (c_int (And.intro (fun b47 => (w_and1 (t_w (w_or (t_isN (nm 2 rfl (w_or1 (t_lt (c_call c__law_sign (hr.mono (by decide)) (ca_cons (nm 0 rfl (ca_cons (c_call c__law_minus (hr.mono (by decide)) (ca_cons (nm 5 rfl (ca_cons (nm 2 rfl (ca_nil ⟨_, _, _, _, _, _, 12, 12, rfl, ?h125, fun x3 y3 z3 lo3 nm3 hx3 hy3 hz3 => And.intro rfl (ca_nil ⟨_, _, _, _, rfl, ?h126, fun s4 hs4 => And.intro rfl (c_int (And.intro (fun b48 => (as_asg (i := 2) ?h127 (nm 5 rfl (as_go (as_go (as_end rfl ?h128)))))) (fun b48 => (as_go (as_end rfl ?h129)))))⟩)⟩)))))))))))))))))) (fun b47 => (as_go (as_end rfl ?h130)))))⟩)))))))))))))) (fun b46 => (as_ifn (t_w (w_and (t_gt (c_call c__law_sign (hr.mono (by decide)) (ca_cons (nm 0 rfl (ca_cons (nm 6 rfl (ca_nil ⟨_, _, _, _, rfl, ?h131, fun s3 hs3 => And.intro rfl (c_int (And.intro (fun b49 => (w_and1 (t_w (w_or (t_isN (nm 2 rfl (w_or1 (t_lt (c_call c__law_sign (hr.mono (by decide)) (ca_cons (nm 0 rfl (ca_cons (c_call c__law_minus (hr.mono (by decide)) (ca_cons (nm 5 rfl (ca_cons (nm 2 rfl (ca_nil ⟨_, _, _, _, _, _, 12, 12, rfl, ?h132, fun x3 y3 z3 lo3 nm3 hx3 hy3 hz3 => And.intro rfl (ca_nil ⟨_, _, _, _, rfl, ?h133, fun s4 hs4 => And.intro rfl (c_int (And.intro (fun b50 => (as_asg (i := 2) ?h134 (nm 5 rfl (as_go (as_go (as_end rfl ?h135)))))) (fun b50 => (as_go (as_end rfl ?h136)))))⟩)⟩)))))))))))))))))) (fun b49 => (as_go (as_end rfl ?h137)))))⟩)))))))))))))⟩)⟩)))))))))))))))))) (fun b45 => (as_end rfl ?h138))))⟩))))))))))))))))))) (fun b44 => (as_end rfl ?h139))))))))))) (fun b43 => (as_end rfl ?h140)))))))))))))))⟩)))))))))⟩)))))))))))))))))))))))))))))
          case h94 =>
            exact sc__law_units.nd
          case h95 =>
            exact sc__law_units.nd
          case h96 =>
            exact ⟨hk, by decide, by decide, bd_s (by omega) (by decide), bd_s (by omega) (by decide), bd_s (by decide) (by decide), bd_s (by omega) (by decide), bd_s (by omega) (by decide), bd_s (by decide) (by decide), by decide⟩
          case h97 =>
            first | exact ⟨hk, bd_s (by omega) (by decide), bd_s (by omega) (by decide)⟩ | exact ⟨hk, hx2.mono (by decide), hy2.mono (by decide)⟩ | exact ⟨hk, hx3.mono (by decide), hy3.mono (by decide)⟩
          case h98 =>
            first | exact ⟨by decide, by decide, bd_s (by omega) (by decide), bd_s (by omega) (by decide), bd_s (by decide) (by decide), (hbu.1 _ rfl).1, (hbu.1 _ rfl).2, bd_s (by decide) (by decide), by decide⟩ | exact ⟨by decide, by decide, bd_s (by omega) (by decide), bd_s (by omega) (by decide), bd_s (by decide) (by decide), (hbu.2 _ rfl).1, (hbu.2 _ rfl).2, bd_s (by decide) (by decide), by decide⟩
          case h99 =>
            first | exact ⟨hk, bd_s (by omega) (by decide), bd_s (by omega) (by decide)⟩ | exact ⟨hk, hx2.mono (by decide), hy2.mono (by decide)⟩ | exact ⟨hk, hx3.mono (by decide), hy3.mono (by decide)⟩
          case h100 =>
            exact sc__law_units.nd
          case h101 =>
            first | exact ⟨hk, bd_s (by omega) (by decide), bd_s (by omega) (by decide)⟩ | exact ⟨hk, hx2.mono (by decide), hy2.mono (by decide)⟩ | exact ⟨hk, hx3.mono (by decide), hy3.mono (by decide)⟩
          case h102 =>
            first | exact ⟨by decide, by decide, bd_s (by omega) (by decide), bd_s (by omega) (by decide), bd_s (by decide) (by decide), (hbu.1 _ rfl).1, (hbu.1 _ rfl).2, bd_s (by decide) (by decide), by decide⟩ | exact ⟨by decide, by decide, bd_s (by omega) (by decide), bd_s (by omega) (by decide), bd_s (by decide) (by decide), (hbu.2 _ rfl).1, (hbu.2 _ rfl).2, bd_s (by decide) (by decide), by decide⟩
          case h103 =>
            first | exact ⟨hk, bd_s (by omega) (by decide), bd_s (by omega) (by decide)⟩ | exact ⟨hk, hx2.mono (by decide), hy2.mono (by decide)⟩ | exact ⟨hk, hx3.mono (by decide), hy3.mono (by decide)⟩
          case h104 =>
            exact sc__law_units.nd
          case h105 =>
            first
              | exact ⟨_, _, _, _, (some ((-9 + (j : Int)), (-9 + (j_1 : Int))), some (r1, r2)), (by rw [rowU, ← hs]; exact (st_is (s := (some (p1, p2), some (r1, r2))) (L := some ((-9 + (j : Int)), (-9 + (j_1 : Int)))) (R := some (r1, r2)) (okU_yes (by unfold mA; first | rw [if_pos (show k = 5 by assumption)] | rw [if_neg (show ¬ k = 5 by assumption)]) lo1 (by assumption) (by assumption) hs1 (by assumption)) (.inl ⟨lsU_t lo2 hs2 (by assumption), rfl⟩) (.inr ⟨fun z => vneg (by unfold mA; first | rw [if_pos (show k = 5 by assumption)] | rw [if_neg (show ¬ k = 5 by assumption)]) hs3 (by assumption) z.1, rfl⟩)).symm), (by have hb2 := hbu.st (k := k) hX hY; rw [st_is (s := (some (p1, p2), some (r1, r2))) (L := some ((-9 + (j : Int)), (-9 + (j_1 : Int)))) (R := some (r1, r2)) (okU_yes (by unfold mA; first | rw [if_pos (show k = 5 by assumption)] | rw [if_neg (show ¬ k = 5 by assumption)]) lo1 (by assumption) (by assumption) hs1 (by assumption)) (.inl ⟨lsU_t lo2 hs2 (by assumption), rfl⟩) (.inr ⟨fun z => vneg (by unfold mA; first | rw [if_pos (show k = 5 by assumption)] | rw [if_neg (show ¬ k = 5 by assumption)]) hs3 (by assumption) z.1, rfl⟩)] at hb2; exact hb2), rfl, rfl⟩
              | exact ⟨_, _, _, _, (some ((-9 + (j : Int)), (-9 + (j_1 : Int))), some ((-9 + (j : Int)), (-9 + (j_1 : Int)))), (by rw [rowU, ← hs]; exact (st_is (s := (some (p1, p2), some (r1, r2))) (L := some ((-9 + (j : Int)), (-9 + (j_1 : Int)))) (R := some ((-9 + (j : Int)), (-9 + (j_1 : Int)))) (okU_yes (by unfold mA; first | rw [if_pos (show k = 5 by assumption)] | rw [if_neg (show ¬ k = 5 by assumption)]) lo1 (by assumption) (by assumption) hs1 (by assumption)) (.inl ⟨lsU_t lo2 hs2 (by assumption), rfl⟩) (.inl ⟨⟨vpos (by unfold mA; first | rw [if_pos (show k = 5 by assumption)] | rw [if_neg (show ¬ k = 5 by assumption)]) hs3 (by assumption), lsU_t lo3 hs4 (by assumption)⟩, rfl⟩)).symm), (by have hb2 := hbu.st (k := k) hX hY; rw [st_is (s := (some (p1, p2), some (r1, r2))) (L := some ((-9 + (j : Int)), (-9 + (j_1 : Int)))) (R := some ((-9 + (j : Int)), (-9 + (j_1 : Int)))) (okU_yes (by unfold mA; first | rw [if_pos (show k = 5 by assumption)] | rw [if_neg (show ¬ k = 5 by assumption)]) lo1 (by assumption) (by assumption) hs1 (by assumption)) (.inl ⟨lsU_t lo2 hs2 (by assumption), rfl⟩) (.inl ⟨⟨vpos (by unfold mA; first | rw [if_pos (show k = 5 by assumption)] | rw [if_neg (show ¬ k = 5 by assumption)]) hs3 (by assumption), lsU_t lo3 hs4 (by assumption)⟩, rfl⟩)] at hb2; exact hb2), rfl, rfl⟩
              | exact ⟨_, _, _, _, (some ((-9 + (j : Int)), (-9 + (j_1 : Int))), some (r1, r2)), (by rw [rowU, ← hs]; exact (st_is (s := (some (p1, p2), some (r1, r2))) (L := some ((-9 + (j : Int)), (-9 + (j_1 : Int)))) (R := some (r1, r2)) (okU_yes (by unfold mA; first | rw [if_pos (show k = 5 by assumption)] | rw [if_neg (show ¬ k = 5 by assumption)]) lo1 (by assumption) (by assumption) hs1 (by assumption)) (.inl ⟨lsU_t lo2 hs2 (by assumption), rfl⟩) (.inr ⟨fun z => lsU_f lo3 hs4 (by assumption) z.2, rfl⟩)).symm), (by have hb2 := hbu.st (k := k) hX hY; rw [st_is (s := (some (p1, p2), some (r1, r2))) (L := some ((-9 + (j : Int)), (-9 + (j_1 : Int)))) (R := some (r1, r2)) (okU_yes (by unfold mA; first | rw [if_pos (show k = 5 by assumption)] | rw [if_neg (show ¬ k = 5 by assumption)]) lo1 (by assumption) (by assumption) hs1 (by assumption)) (.inl ⟨lsU_t lo2 hs2 (by assumption), rfl⟩) (.inr ⟨fun z => lsU_f lo3 hs4 (by assumption) z.2, rfl⟩)] at hb2; exact hb2), rfl, rfl⟩
              | exact ⟨_, _, _, _, (some (p1, p2), some (r1, r2)), (by rw [rowU, ← hs]; exact (st_is (s := (some (p1, p2), some (r1, r2))) (L := some (p1, p2)) (R := some (r1, r2)) (okU_yes (by unfold mA; first | rw [if_pos (show k = 5 by assumption)] | rw [if_neg (show ¬ k = 5 by assumption)]) lo1 (by assumption) (by assumption) hs1 (by assumption)) (.inr ⟨lsU_f lo2 hs2 (by assumption), rfl⟩) (.inr ⟨fun z => vneg (by unfold mA; first | rw [if_pos (show k = 5 by assumption)] | rw [if_neg (show ¬ k = 5 by assumption)]) hs3 (by assumption) z.1, rfl⟩)).symm), (by have hb2 := hbu.st (k := k) hX hY; rw [st_is (s := (some (p1, p2), some (r1, r2))) (L := some (p1, p2)) (R := some (r1, r2)) (okU_yes (by unfold mA; first | rw [if_pos (show k = 5 by assumption)] | rw [if_neg (show ¬ k = 5 by assumption)]) lo1 (by assumption) (by assumption) hs1 (by assumption)) (.inr ⟨lsU_f lo2 hs2 (by assumption), rfl⟩) (.inr ⟨fun z => vneg (by unfold mA; first | rw [if_pos (show k = 5 by assumption)] | rw [if_neg (show ¬ k = 5 by assumption)]) hs3 (by assumption) z.1, rfl⟩)] at hb2; exact hb2), rfl, rfl⟩
              | exact ⟨_, _, _, _, (some (p1, p2), some ((-9 + (j : Int)), (-9 + (j_1 : Int)))), (by rw [rowU, ← hs]; exact (st_is (s := (some (p1, p2), some (r1, r2))) (L := some (p1, p2)) (R := some ((-9 + (j : Int)), (-9 + (j_1 : Int)))) (okU_yes (by unfold mA; first | rw [if_pos (show k = 5 by assumption)] | rw [if_neg (show ¬ k = 5 by assumption)]) lo1 (by assumption) (by assumption) hs1 (by assumption)) (.inr ⟨lsU_f lo2 hs2 (by assumption), rfl⟩) (.inl ⟨⟨vpos (by unfold mA; first | rw [if_pos (show k = 5 by assumption)] | rw [if_neg (show ¬ k = 5 by assumption)]) hs3 (by assumption), lsU_t lo3 hs4 (by assumption)⟩, rfl⟩)).symm), (by have hb2 := hbu.st (k := k) hX hY; rw [st_is (s := (some (p1, p2), some (r1, r2))) (L := some (p1, p2)) (R := some ((-9 + (j : Int)), (-9 + (j_1 : Int)))) (okU_yes (by unfold mA; first | rw [if_pos (show k = 5 by assumption)] | rw [if_neg (show ¬ k = 5 by assumption)]) lo1 (by assumption) (by assumption) hs1 (by assumption)) (.inr ⟨lsU_f lo2 hs2 (by assumption), rfl⟩) (.inl ⟨⟨vpos (by unfold mA; first | rw [if_pos (show k = 5 by assumption)] | rw [if_neg (show ¬ k = 5 by assumption)]) hs3 (by assumption), lsU_t lo3 hs4 (by assumption)⟩, rfl⟩)] at hb2; exact hb2), rfl, rfl⟩
              | exact ⟨_, _, _, _, (some (p1, p2), some (r1, r2)), (by rw [rowU, ← hs]; exact (st_is (s := (some (p1, p2), some (r1, r2))) (L := some (p1, p2)) (R := some (r1, r2)) (okU_yes (by unfold mA; first | rw [if_pos (show k = 5 by assumption)] | rw [if_neg (show ¬ k = 5 by assumption)]) lo1 (by assumption) (by assumption) hs1 (by assumption)) (.inr ⟨lsU_f lo2 hs2 (by assumption), rfl⟩) (.inr ⟨fun z => lsU_f lo3 hs4 (by assumption) z.2, rfl⟩)).symm), (by have hb2 := hbu.st (k := k) hX hY; rw [st_is (s := (some (p1, p2), some (r1, r2))) (L := some (p1, p2)) (R := some (r1, r2)) (okU_yes (by unfold mA; first | rw [if_pos (show k = 5 by assumption)] | rw [if_neg (show ¬ k = 5 by assumption)]) lo1 (by assumption) (by assumption) hs1 (by assumption)) (.inr ⟨lsU_f lo2 hs2 (by assumption), rfl⟩) (.inr ⟨fun z => lsU_f lo3 hs4 (by assumption) z.2, rfl⟩)] at hb2; exact hb2), rfl, rfl⟩
              | exact ⟨_, _, _, _, (some (p1, p2), some (r1, r2)), (by rw [rowU, ← hs]; exact (st_no (s := (some (p1, p2), some (r1, r2))) (okU_no1 (by unfold mA; first | rw [if_pos (show k = 5 by assumption)] | rw [if_neg (show ¬ k = 5 by assumption)]) lo1 (by assumption))).symm), (by have hb2 := hbu.st (k := k) hX hY; rw [st_no (s := (some (p1, p2), some (r1, r2))) (okU_no1 (by unfold mA; first | rw [if_pos (show k = 5 by assumption)] | rw [if_neg (show ¬ k = 5 by assumption)]) lo1 (by assumption))] at hb2; exact hb2), rfl, rfl⟩
              | exact ⟨_, _, _, _, (some (p1, p2), some (r1, r2)), (by rw [rowU, ← hs]; exact (st_no (s := (some (p1, p2), some (r1, r2))) (okU_no2 (by unfold mA; first | rw [if_pos (show k = 5 by assumption)] | rw [if_neg (show ¬ k = 5 by assumption)]) lo1 (by assumption))).symm), (by have hb2 := hbu.st (k := k) hX hY; rw [st_no (s := (some (p1, p2), some (r1, r2))) (okU_no2 (by unfold mA; first | rw [if_pos (show k = 5 by assumption)] | rw [if_neg (show ¬ k = 5 by assumption)]) lo1 (by assumption))] at hb2; exact hb2), rfl, rfl⟩
              | exact ⟨_, _, _, _, (some (p1, p2), some (r1, r2)), (by rw [rowU, ← hs]; exact (st_no (s := (some (p1, p2), some (r1, r2))) (okU_no3 hs1 (by assumption))).symm), (by have hb2 := hbu.st (k := k) hX hY; rw [st_no (s := (some (p1, p2), some (r1, r2))) (okU_no3 hs1 (by assumption))] at hb2; exact hb2), rfl, rfl⟩
          case h106 =>
            first
              | exact ⟨_, _, _, _, (some ((-9 + (j : Int)), (-9 + (j_1 : Int))), some (r1, r2)), (by rw [rowU, ← hs]; exact (st_is (s := (some (p1, p2), some (r1, r2))) (L := some ((-9 + (j : Int)), (-9 + (j_1 : Int)))) (R := some (r1, r2)) (okU_yes (by unfold mA; first | rw [if_pos (show k = 5 by assumption)] | rw [if_neg (show ¬ k = 5 by assumption)]) lo1 (by assumption) (by assumption) hs1 (by assumption)) (.inl ⟨lsU_t lo2 hs2 (by assumption), rfl⟩) (.inr ⟨fun z => vneg (by unfold mA; first | rw [if_pos (show k = 5 by assumption)] | rw [if_neg (show ¬ k = 5 by assumption)]) hs3 (by assumption) z.1, rfl⟩)).symm), (by have hb2 := hbu.st (k := k) hX hY; rw [st_is (s := (some (p1, p2), some (r1, r2))) (L := some ((-9 + (j : Int)), (-9 + (j_1 : Int)))) (R := some (r1, r2)) (okU_yes (by unfold mA; first | rw [if_pos (show k = 5 by assumption)] | rw [if_neg (show ¬ k = 5 by assumption)]) lo1 (by assumption) (by assumption) hs1 (by assumption)) (.inl ⟨lsU_t lo2 hs2 (by assumption), rfl⟩) (.inr ⟨fun z => vneg (by unfold mA; first | rw [if_pos (show k = 5 by assumption)] | rw [if_neg (show ¬ k = 5 by assumption)]) hs3 (by assumption) z.1, rfl⟩)] at hb2; exact hb2), rfl, rfl⟩
              | exact ⟨_, _, _, _, (some ((-9 + (j : Int)), (-9 + (j_1 : Int))), some ((-9 + (j : Int)), (-9 + (j_1 : Int)))), (by rw [rowU, ← hs]; exact (st_is (s := (some (p1, p2), some (r1, r2))) (L := some ((-9 + (j : Int)), (-9 + (j_1 : Int)))) (R := some ((-9 + (j : Int)), (-9 + (j_1 : Int)))) (okU_yes (by unfold mA; first | rw [if_pos (show k = 5 by assumption)] | rw [if_neg (show ¬ k = 5 by assumption)]) lo1 (by assumption) (by assumption) hs1 (by assumption)) (.inl ⟨lsU_t lo2 hs2 (by assumption), rfl⟩) (.inl ⟨⟨vpos (by unfold mA; first | rw [if_pos (show k = 5 by assumption)] | rw [if_neg (show ¬ k = 5 by assumption)]) hs3 (by assumption), lsU_t lo3 hs4 (by assumption)⟩, rfl⟩)).symm), (by have hb2 := hbu.st (k := k) hX hY; rw [st_is (s := (some (p1, p2), some (r1, r2))) (L := some ((-9 + (j : Int)), (-9 + (j_1 : Int)))) (R := some ((-9 + (j : Int)), (-9 + (j_1 : Int)))) (okU_yes (by unfold mA; first | rw [if_pos (show k = 5 by assumption)] | rw [if_neg (show ¬ k = 5 by assumption)]) lo1 (by assumption) (by assumption) hs1 (by assumption)) (.inl ⟨lsU_t lo2 hs2 (by assumption), rfl⟩) (.inl ⟨⟨vpos (by unfold mA; first | rw [if_pos (show k = 5 by assumption)] | rw [if_neg (show ¬ k = 5 by assumption)]) hs3 (by assumption), lsU_t lo3 hs4 (by assumption)⟩, rfl⟩)] at hb2; exact hb2), rfl, rfl⟩
              | exact ⟨_, _, _, _, (some ((-9 + (j : Int)), (-9 + (j_1 : Int))), some (r1, r2)), (by rw [rowU, ← hs]; exact (st_is (s := (some (p1, p2), some (r1, r2))) (L := some ((-9 + (j : Int)), (-9 + (j_1 : Int)))) (R := some (r1, r2)) (okU_yes (by unfold mA; first | rw [if_pos (show k = 5 by assumption)] | rw [if_neg (show ¬ k = 5 by assumption)]) lo1 (by assumption) (by assumption) hs1 (by assumption)) (.inl ⟨lsU_t lo2 hs2 (by assumption), rfl⟩) (.inr ⟨fun z => lsU_f lo3 hs4 (by assumption) z.2, rfl⟩)).symm), (by have hb2 := hbu.st (k := k) hX hY; rw [st_is (s := (some (p1, p2), some (r1, r2))) (L := some ((-9 + (j : Int)), (-9 + (j_1 : Int)))) (R := some (r1, r2)) (okU_yes (by unfold mA; first | rw [if_pos (show k = 5 by assumption)] | rw [if_neg (show ¬ k = 5 by assumption)]) lo1 (by assumption) (by assumption) hs1 (by assumption)) (.inl ⟨lsU_t lo2 hs2 (by assumption), rfl⟩) (.inr ⟨fun z => lsU_f lo3 hs4 (by assumption) z.2, rfl⟩)] at hb2; exact hb2), rfl, rfl⟩
              | exact ⟨_, _, _, _, (some (p1, p2), some (r1, r2)), (by rw [rowU, ← hs]; exact (st_is (s := (some (p1, p2), some (r1, r2))) (L := some (p1, p2)) (R := some (r1, r2)) (okU_yes (by unfold mA; first | rw [if_pos (show k = 5 by assumption)] | rw [if_neg (show ¬ k = 5 by assumption)]) lo1 (by assumption) (by assumption) hs1 (by assumption)) (.inr ⟨lsU_f lo2 hs2 (by assumption), rfl⟩) (.inr ⟨fun z => vneg (by unfold mA; first | rw [if_pos (show k = 5 by assumption)] | rw [if_neg (show ¬ k = 5 by assumption)]) hs3 (by assumption) z.1, rfl⟩)).symm), (by have hb2 := hbu.st (k := k) hX hY; rw [st_is (s := (some (p1, p2), some (r1, r2))) (L := some (p1, p2)) (R := some (r1, r2)) (okU_yes (by unfold mA; first | rw [if_pos (show k = 5 by assumption)] | rw [if_neg (show ¬ k = 5 by assumption)]) lo1 (by assumption) (by assumption) hs1 (by assumption)) (.inr ⟨lsU_f lo2 hs2 (by assumption), rfl⟩) (.inr ⟨fun z => vneg (by unfold mA; first | rw [if_pos (show k = 5 by assumption)] | rw [if_neg (show ¬ k = 5 by assumption)]) hs3 (by assumption) z.1, rfl⟩)] at hb2; exact hb2), rfl, rfl⟩
              | exact ⟨_, _, _, _, (some (p1, p2), some ((-9 + (j : Int)), (-9 + (j_1 : Int)))), (by rw [rowU, ← hs]; exact (st_is (s := (some (p1, p2), some (r1, r2))) (L := some (p1, p2)) (R := some ((-9 + (j : Int)), (-9 + (j_1 : Int)))) (okU_yes (by unfold mA; first | rw [if_pos (show k = 5 by assumption)] | rw [if_neg (show ¬ k = 5 by assumption)]) lo1 (by assumption) (by assumption) hs1 (by assumption)) (.inr ⟨lsU_f lo2 hs2 (by assumption), rfl⟩) (.inl ⟨⟨vpos (by unfold mA; first | rw [if_pos (show k = 5 by assumption)] | rw [if_neg (show ¬ k = 5 by assumption)]) hs3 (by assumption), lsU_t lo3 hs4 (by assumption)⟩, rfl⟩)).symm), (by have hb2 := hbu.st (k := k) hX hY; rw [st_is (s := (some (p1, p2), some (r1, r2))) (L := some (p1, p2)) (R := some ((-9 + (j : Int)), (-9 + (j_1 : Int)))) (okU_yes (by unfold mA; first | rw [if_pos (show k = 5 by assumption)] | rw [if_neg (show ¬ k = 5 by assumption)]) lo1 (by assumption) (by assumption) hs1 (by assumption)) (.inr ⟨lsU_f lo2 hs2 (by assumption), rfl⟩) (.inl ⟨⟨vpos (by unfold mA; first | rw [if_pos (show k = 5 by assumption)] | rw [if_neg (show ¬ k = 5 by assumption)]) hs3 (by assumption), lsU_t lo3 hs4 (by assumption)⟩, rfl⟩)] at hb2; exact hb2), rfl, rfl⟩
              | exact ⟨_, _, _, _, (some (p1, p2), some (r1, r2)), (by rw [rowU, ← hs]; exact (st_is (s := (some (p1, p2), some (r1, r2))) (L := some (p1, p2)) (R := some (r1, r2)) (okU_yes (by unfold mA; first | rw [if_pos (show k = 5 by assumption)] | rw [if_neg (show ¬ k = 5 by assumption)]) lo1 (by assumption) (by assumption) hs1 (by assumption)) (.inr ⟨lsU_f lo2 hs2 (by assumption), rfl⟩) (.inr ⟨fun z => lsU_f lo3 hs4 (by assumption) z.2, rfl⟩)).symm), (by have hb2 := hbu.st (k := k) hX hY; rw [st_is (s := (some (p1, p2), some (r1, r2))) (L := some (p1, p2)) (R := some (r1, r2)) (okU_yes (by unfold mA; first | rw [if_pos (show k = 5 by assumption)] | rw [if_neg (show ¬ k = 5 by assumption)]) lo1 (by assumption) (by assumption) hs1 (by assumption)) (.inr ⟨lsU_f lo2 hs2 (by assumption), rfl⟩) (.inr ⟨fun z => lsU_f lo3 hs4 (by assumption) z.2, rfl⟩)] at hb2; exact hb2), rfl, rfl⟩
              | exact ⟨_, _, _, _, (some (p1, p2), some (r1, r2)), (by rw [rowU, ← hs]; exact (st_no (s := (some (p1, p2), some (r1, r2))) (okU_no1 (by unfold mA; first | rw [if_pos (show k = 5 by assumption)] | rw [if_neg (show ¬ k = 5 by assumption)]) lo1 (by assumption))).symm), (by have hb2 := hbu.st (k := k) hX hY; rw [st_no (s := (some (p1, p2), some (r1, r2))) (okU_no1 (by unfold mA; first | rw [if_pos (show k = 5 by assumption)] | rw [if_neg (show ¬ k = 5 by assumption)]) lo1 (by assumption))] at hb2; exact hb2), rfl, rfl⟩
              | exact ⟨_, _, _, _, (some (p1, p2), some (r1, r2)), (by rw [rowU, ← hs]; exact (st_no (s := (some (p1, p2), some (r1, r2))) (okU_no2 (by unfold mA; first | rw [if_pos (show k = 5 by assumption)] | rw [if_neg (show ¬ k = 5 by assumption)]) lo1 (by assumption))).symm), (by have hb2 := hbu.st (k := k) hX hY; rw [st_no (s := (some (p1, p2), some (r1, r2))) (okU_no2 (by unfold mA; first | rw [if_pos (show k = 5 by assumption)] | rw [if_neg (show ¬ k = 5 by assumption)]) lo1 (by assumption))] at hb2; exact hb2), rfl, rfl⟩
              | exact ⟨_, _, _, _, (some (p1, p2), some (r1, r2)), (by rw [rowU, ← hs]; exact (st_no (s := (some (p1, p2), some (r1, r2))) (okU_no3 hs1 (by assumption))).symm), (by have hb2 := hbu.st (k := k) hX hY; rw [st_no (s := (some (p1, p2), some (r1, r2))) (okU_no3 hs1 (by assumption))] at hb2; exact hb2), rfl, rfl⟩
          case h107 =>
            first
              | exact ⟨_, _, _, _, (some ((-9 + (j : Int)), (-9 + (j_1 : Int))), some (r1, r2)), (by rw [rowU, ← hs]; exact (st_is (s := (some (p1, p2), some (r1, r2))) (L := some ((-9 + (j : Int)), (-9 + (j_1 : Int)))) (R := some (r1, r2)) (okU_yes (by unfold mA; first | rw [if_pos (show k = 5 by assumption)] | rw [if_neg (show ¬ k = 5 by assumption)]) lo1 (by assumption) (by assumption) hs1 (by assumption)) (.inl ⟨lsU_t lo2 hs2 (by assumption), rfl⟩) (.inr ⟨fun z => vneg (by unfold mA; first | rw [if_pos (show k = 5 by assumption)] | rw [if_neg (show ¬ k = 5 by assumption)]) hs3 (by assumption) z.1, rfl⟩)).symm), (by have hb2 := hbu.st (k := k) hX hY; rw [st_is (s := (some (p1, p2), some (r1, r2))) (L := some ((-9 + (j : Int)), (-9 + (j_1 : Int)))) (R := some (r1, r2)) (okU_yes (by unfold mA; first | rw [if_pos (show k = 5 by assumption)] | rw [if_neg (show ¬ k = 5 by assumption)]) lo1 (by assumption) (by assumption) hs1 (by assumption)) (.inl ⟨lsU_t lo2 hs2 (by assumption), rfl⟩) (.inr ⟨fun z => vneg (by unfold mA; first | rw [if_pos (show k = 5 by assumption)] | rw [if_neg (show ¬ k = 5 by assumption)]) hs3 (by assumption) z.1, rfl⟩)] at hb2; exact hb2), rfl, rfl⟩
              | exact ⟨_, _, _, _, (some ((-9 + (j : Int)), (-9 + (j_1 : Int))), some ((-9 + (j : Int)), (-9 + (j_1 : Int)))), (by rw [rowU, ← hs]; exact (st_is (s := (some (p1, p2), some (r1, r2))) (L := some ((-9 + (j : Int)), (-9 + (j_1 : Int)))) (R := some ((-9 + (j : Int)), (-9 + (j_1 : Int)))) (okU_yes (by unfold mA; first | rw [if_pos (show k = 5 by assumption)] | rw [if_neg (show ¬ k = 5 by assumption)]) lo1 (by assumption) (by assumption) hs1 (by assumption)) (.inl ⟨lsU_t lo2 hs2 (by assumption), rfl⟩) (.inl ⟨⟨vpos (by unfold mA; first | rw [if_pos (show k = 5 by assumption)] | rw [if_neg (show ¬ k = 5 by assumption)]) hs3 (by assumption), lsU_t lo3 hs4 (by assumption)⟩, rfl⟩)).symm), (by have hb2 := hbu.st (k := k) hX hY; rw [st_is (s := (some (p1, p2), some (r1, r2))) (L := some ((-9 + (j : Int)), (-9 + (j_1 : Int)))) (R := some ((-9 + (j : Int)), (-9 + (j_1 : Int)))) (okU_yes (by unfold mA; first | rw [if_pos (show k = 5 by assumption)] | rw [if_neg (show ¬ k = 5 by assumption)]) lo1 (by assumption) (by assumption) hs1 (by assumption)) (.inl ⟨lsU_t lo2 hs2 (by assumption), rfl⟩) (.inl ⟨⟨vpos (by unfold mA; first | rw [if_pos (show k = 5 by assumption)] | rw [if_neg (show ¬ k = 5 by assumption)]) hs3 (by assumption), lsU_t lo3 hs4 (by assumption)⟩, rfl⟩)] at hb2; exact hb2), rfl, rfl⟩
              | exact ⟨_, _, _, _, (some ((-9 + (j : Int)), (-9 + (j_1 : Int))), some (r1, r2)), (by rw [rowU, ← hs]; exact (st_is (s := (some (p1, p2), some (r1, r2))) (L := some ((-9 + (j : Int)), (-9 + (j_1 : Int)))) (R := some (r1, r2)) (okU_yes (by unfold mA; first | rw [if_pos (show k = 5 by assumption)] | rw [if_neg (show ¬ k = 5 by assumption)]) lo1 (by assumption) (by assumption) hs1 (by assumption)) (.inl ⟨lsU_t lo2 hs2 (by assumption), rfl⟩) (.inr ⟨fun z => lsU_f lo3 hs4 (by assumption) z.2, rfl⟩)).symm), (by have hb2 := hbu.st (k := k) hX hY; rw [st_is (s := (some (p1, p2), some (r1, r2))) (L := some ((-9 + (j : Int)), (-9 + (j_1 : Int)))) (R := some (r1, r2)) (okU_yes (by unfold mA; first | rw [if_pos (show k = 5 by assumption)] | rw [if_neg (show ¬ k = 5 by assumption)]) lo1 (by assumption) (by assumption) hs1 (by assumption)) (.inl ⟨lsU_t lo2 hs2 (by assumption), rfl⟩) (.inr ⟨fun z => lsU_f lo3 hs4 (by assumption) z.2, rfl⟩)] at hb2; exact hb2), rfl, rfl⟩
              | exact ⟨_, _, _, _, (some (p1, p2), some (r1, r2)), (by rw [rowU, ← hs]; exact (st_is (s := (some (p1, p2), some (r1, r2))) (L := some (p1, p2)) (R := some (r1, r2)) (okU_yes (by unfold mA; first | rw [if_pos (show k = 5 by assumption)] | rw [if_neg (show ¬ k = 5 by assumption)]) lo1 (by assumption) (by assumption) hs1 (by assumption)) (.inr ⟨lsU_f lo2 hs2 (by assumption), rfl⟩) (.inr ⟨fun z => vneg (by unfold mA; first | rw [if_pos (show k = 5 by assumption)] | rw [if_neg (show ¬ k = 5 by assumption)]) hs3 (by assumption) z.1, rfl⟩)).symm), (by have hb2 := hbu.st (k := k) hX hY; rw [st_is (s := (some (p1, p2), some (r1, r2))) (L := some (p1, p2)) (R := some (r1, r2)) (okU_yes (by unfold mA; first | rw [if_pos (show k = 5 by assumption)] | rw [if_neg (show ¬ k = 5 by assumption)]) lo1 (by assumption) (by assumption) hs1 (by assumption)) (.inr ⟨lsU_f lo2 hs2 (by assumption), rfl⟩) (.inr ⟨fun z => vneg (by unfold mA; first | rw [if_pos (show k = 5 by assumption)] | rw [if_neg (show ¬ k = 5 by assumption)]) hs3 (by assumption) z.1, rfl⟩)] at hb2; exact hb2), rfl, rfl⟩
              | exact ⟨_, _, _, _, (some (p1, p2), some ((-9 + (j : Int)), (-9 + (j_1 : Int)))), (by rw [rowU, ← hs]; exact (st_is (s := (some (p1, p2), some (r1, r2))) (L := some (p1, p2)) (R := some ((-9 + (j : Int)), (-9 + (j_1 : Int)))) (okU_yes (by unfold mA; first | rw [if_pos (show k = 5 by assumption)] | rw [if_neg (show ¬ k = 5 by assumption)]) lo1 (by assumption) (by assumption) hs1 (by assumption)) (.inr ⟨lsU_f lo2 hs2 (by assumption), rfl⟩) (.inl ⟨⟨vpos (by unfold mA; first | rw [if_pos (show k = 5 by assumption)] | rw [if_neg (show ¬ k = 5 by assumption)]) hs3 (by assumption), lsU_t lo3 hs4 (by assumption)⟩, rfl⟩)).symm), (by have hb2 := hbu.st (k := k) hX hY; rw [st_is (s := (some (p1, p2), some (r1, r2))) (L := some (p1, p2)) (R := some ((-9 + (j : Int)), (-9 + (j_1 : Int)))) (okU_yes (by unfold mA; first | rw [if_pos (show k = 5 by assumption)] | rw [if_neg (show ¬ k = 5 by assumption)]) lo1 (by assumption) (by assumption) hs1 (by assumption)) (.inr ⟨lsU_f lo2 hs2 (by assumption), rfl⟩) (.inl ⟨⟨vpos (by unfold mA; first | rw [if_pos (show k = 5 by assumption)] | rw [if_neg (show ¬ k = 5 by assumption)]) hs3 (by assumption), lsU_t lo3 hs4 (by assumption)⟩, rfl⟩)] at hb2; exact hb2), rfl, rfl⟩
              | exact ⟨_, _, _, _, (some (p1, p2), some (r1, r2)), (by rw [rowU, ← hs]; exact (st_is (s := (some (p1, p2), some (r1, r2))) (L := some (p1, p2)) (R := some (r1, r2)) (okU_yes (by unfold mA; first | rw [if_pos (show k = 5 by assumption)] | rw [if_neg (show ¬ k = 5 by assumption)]) lo1 (by assumption) (by assumption) hs1 (by assumption)) (.inr ⟨lsU_f lo2 hs2 (by assumption), rfl⟩) (.inr ⟨fun z => lsU_f lo3 hs4 (by assumption) z.2, rfl⟩)).symm), (by have hb2 := hbu.st (k := k) hX hY; rw [st_is (s := (some (p1, p2), some (r1, r2))) (L := some (p1, p2)) (R := some (r1, r2)) (okU_yes (by unfold mA; first | rw [if_pos (show k = 5 by assumption)] | rw [if_neg (show ¬ k = 5 by assumption)]) lo1 (by assumption) (by assumption) hs1 (by assumption)) (.inr ⟨lsU_f lo2 hs2 (by assumption), rfl⟩) (.inr ⟨fun z => lsU_f lo3 hs4 (by assumption) z.2, rfl⟩)] at hb2; exact hb2), rfl, rfl⟩
              | exact ⟨_, _, _, _, (some (p1, p2), some (r1, r2)), (by rw [rowU, ← hs]; exact (st_no (s := (some (p1, p2), some (r1, r2))) (okU_no1 (by unfold mA; first | rw [if_pos (show k = 5 by assumption)] | rw [if_neg (show ¬ k = 5 by assumption)]) lo1 (by assumption))).symm), (by have hb2 := hbu.st (k := k) hX hY; rw [st_no (s := (some (p1, p2), some (r1, r2))) (okU_no1 (by unfold mA; first | rw [if_pos (show k = 5 by assumption)] | rw [if_neg (show ¬ k = 5 by assumption)]) lo1 (by assumption))] at hb2; exact hb2), rfl, rfl⟩
              | exact ⟨_, _, _, _, (some (p1, p2), some (r1, r2)), (by rw [rowU, ← hs]; exact (st_no (s := (some (p1, p2), some (r1, r2))) (okU_no2 (by unfold mA; first | rw [if_pos (show k = 5 by assumption)] | rw [if_neg (show ¬ k = 5 by assumption)]) lo1 (by assumption))).symm), (by have hb2 := hbu.st (k := k) hX hY; rw [st_no (s := (some (p1, p2), some (r1, r2))) (okU_no2 (by unfold mA; first | rw [if_pos (show k = 5 by assumption)] | rw [if_neg (show ¬ k = 5 by assumption)]) lo1 (by assumption))] at hb2; exact hb2), rfl, rfl⟩
              | exact ⟨_, _, _, _, (some (p1, p2), some (r1, r2)), (by rw [rowU, ← hs]; exact (st_no (s := (some (p1, p2), some (r1, r2))) (okU_no3 hs1 (by assumption))).symm), (by have hb2 := hbu.st (k := k) hX hY; rw [st_no (s := (some (p1, p2), some (r1, r2))) (okU_no3 hs1 (by assumption))] at hb2; exact hb2), rfl, rfl⟩
          case h108 =>
            first | exact ⟨hk, bd_s (by omega) (by decide), bd_s (by omega) (by decide)⟩ | exact ⟨hk, hx2.mono (by decide), hy2.mono (by decide)⟩ | exact ⟨hk, hx3.mono (by decide), hy3.mono (by decide)⟩
          case h109 =>
            first | exact ⟨by decide, by decide, bd_s (by omega) (by decide), bd_s (by omega) (by decide), bd_s (by decide) (by decide), (hbu.1 _ rfl).1, (hbu.1 _ rfl).2, bd_s (by decide) (by decide), by decide⟩ | exact ⟨by decide, by decide, bd_s (by omega) (by decide), bd_s (by omega) (by decide), bd_s (by decide) (by decide), (hbu.2 _ rfl).1, (hbu.2 _ rfl).2, bd_s (by decide) (by decide), by decide⟩
          case h110 =>
            first | exact ⟨hk, bd_s (by omega) (by decide), bd_s (by omega) (by decide)⟩ | exact ⟨hk, hx2.mono (by decide), hy2.mono (by decide)⟩ | exact ⟨hk, hx3.mono (by decide), hy3.mono (by decide)⟩
          case h111 =>
            exact sc__law_units.nd
          case h112 =>
            first
              | exact ⟨_, _, _, _, (some ((-9 + (j : Int)), (-9 + (j_1 : Int))), some (r1, r2)), (by rw [rowU, ← hs]; exact (st_is (s := (some (p1, p2), some (r1, r2))) (L := some ((-9 + (j : Int)), (-9 + (j_1 : Int)))) (R := some (r1, r2)) (okU_yes (by unfold mA; first | rw [if_pos (show k = 5 by assumption)] | rw [if_neg (show ¬ k = 5 by assumption)]) lo1 (by assumption) (by assumption) hs1 (by assumption)) (.inl ⟨lsU_t lo2 hs2 (by assumption), rfl⟩) (.inr ⟨fun z => vneg (by unfold mA; first | rw [if_pos (show k = 5 by assumption)] | rw [if_neg (show ¬ k = 5 by assumption)]) hs3 (by assumption) z.1, rfl⟩)).symm), (by have hb2 := hbu.st (k := k) hX hY; rw [st_is (s := (some (p1, p2), some (r1, r2))) (L := some ((-9 + (j : Int)), (-9 + (j_1 : Int)))) (R := some (r1, r2)) (okU_yes (by unfold mA; first | rw [if_pos (show k = 5 by assumption)] | rw [if_neg (show ¬ k = 5 by assumption)]) lo1 (by assumption) (by assumption) hs1 (by assumption)) (.inl ⟨lsU_t lo2 hs2 (by assumption), rfl⟩) (.inr ⟨fun z => vneg (by unfold mA; first | rw [if_pos (show k = 5 by assumption)] | rw [if_neg (show ¬ k = 5 by assumption)]) hs3 (by assumption) z.1, rfl⟩)] at hb2; exact hb2), rfl, rfl⟩
              | exact ⟨_, _, _, _, (some ((-9 + (j : Int)), (-9 + (j_1 : Int))), some ((-9 + (j : Int)), (-9 + (j_1 : Int)))), (by rw [rowU, ← hs]; exact (st_is (s := (some (p1, p2), some (r1, r2))) (L := some ((-9 + (j : Int)), (-9 + (j_1 : Int)))) (R := some ((-9 + (j : Int)), (-9 + (j_1 : Int)))) (okU_yes (by unfold mA; first | rw [if_pos (show k = 5 by assumption)] | rw [if_neg (show ¬ k = 5 by assumption)]) lo1 (by assumption) (by assumption) hs1 (by assumption)) (.inl ⟨lsU_t lo2 hs2 (by assumption), rfl⟩) (.inl ⟨⟨vpos (by unfold mA; first | rw [if_pos (show k = 5 by assumption)] | rw [if_neg (show ¬ k = 5 by assumption)]) hs3 (by assumption), lsU_t lo3 hs4 (by assumption)⟩, rfl⟩)).symm), (by have hb2 := hbu.st (k := k) hX hY; rw [st_is (s := (some (p1, p2), some (r1, r2))) (L := some ((-9 + (j : Int)), (-9 + (j_1 : Int)))) (R := some ((-9 + (j : Int)), (-9 + (j_1 : Int)))) (okU_yes (by unfold mA; first | rw [if_pos (show k = 5 by assumption)] | rw [if_neg (show ¬ k = 5 by assumption)]) lo1 (by assumption) (by assumption) hs1 (by assumption)) (.inl ⟨lsU_t lo2 hs2 (by assumption), rfl⟩) (.inl ⟨⟨vpos (by unfold mA; first | rw [if_pos (show k = 5 by assumption)] | rw [if_neg (show ¬ k = 5 by assumption)]) hs3 (by assumption), lsU_t lo3 hs4 (by assumption)⟩, rfl⟩)] at hb2; exact hb2), rfl, rfl⟩
              | exact ⟨_, _, _, _, (some ((-9 + (j : Int)), (-9 + (j_1 : Int))), some (r1, r2)), (by rw [rowU, ← hs]; exact (st_is (s := (some (p1, p2), some (r1, r2))) (L := some ((-9 + (j : Int)), (-9 + (j_1 : Int)))) (R := some (r1, r2)) (okU_yes (by unfold mA; first | rw [if_pos (show k = 5 by assumption)] | rw [if_neg (show ¬ k = 5 by assumption)]) lo1 (by assumption) (by assumption) hs1 (by assumption)) (.inl ⟨lsU_t lo2 hs2 (by assumption), rfl⟩) (.inr ⟨fun z => lsU_f lo3 hs4 (by assumption) z.2, rfl⟩)).symm), (by have hb2 := hbu.st (k := k) hX hY; rw [st_is (s := (some (p1, p2), some (r1, r2))) (L := some ((-9 + (j : Int)), (-9 + (j_1 : Int)))) (R := some (r1, r2)) (okU_yes (by unfold mA; first | rw [if_pos (show k = 5 by assumption)] | rw [if_neg (show ¬ k = 5 by assumption)]) lo1 (by assumption) (by assumption) hs1 (by assumption)) (.inl ⟨lsU_t lo2 hs2 (by assumption), rfl⟩) (.inr ⟨fun z => lsU_f lo3 hs4 (by assumption) z.2, rfl⟩)] at hb2; exact hb2), rfl, rfl⟩
              | exact ⟨_, _, _, _, (some (p1, p2), some (r1, r2)), (by rw [rowU, ← hs]; exact (st_is (s := (some (p1, p2), some (r1, r2))) (L := some (p1, p2)) (R := some (r1, r2)) (okU_yes (by unfold mA; first | rw [if_pos (show k = 5 by assumption)] | rw [if_neg (show ¬ k = 5 by assumption)]) lo1 (by assumption) (by assumption) hs1 (by assumption)) (.inr ⟨lsU_f lo2 hs2 (by assumption), rfl⟩) (.inr ⟨fun z => vneg (by unfold mA; first | rw [if_pos (show k = 5 by assumption)] | rw [if_neg (show ¬ k = 5 by assumption)]) hs3 (by assumption) z.1, rfl⟩)).symm), (by have hb2 := hbu.st (k := k) hX hY; rw [st_is (s := (some (p1, p2), some (r1, r2))) (L := some (p1, p2)) (R := some (r1, r2)) (okU_yes (by unfold mA; first | rw [if_pos (show k = 5 by assumption)] | rw [if_neg (show ¬ k = 5 by assumption)]) lo1 (by assumption) (by assumption) hs1 (by assumption)) (.inr ⟨lsU_f lo2 hs2 (by assumption), rfl⟩) (.inr ⟨fun z => vneg (by unfold mA; first | rw [if_pos (show k = 5 by assumption)] | rw [if_neg (show ¬ k = 5 by assumption)]) hs3 (by assumption) z.1, rfl⟩)] at hb2; exact hb2), rfl, rfl⟩
              | exact ⟨_, _, _, _, (some (p1, p2), some ((-9 + (j : Int)), (-9 + (j_1 : Int)))), (by rw [rowU, ← hs]; exact (st_is (s := (some (p1, p2), some (r1, r2))) (L := some (p1, p2)) (R := some ((-9 + (j : Int)), (-9 + (j_1 : Int)))) (okU_yes (by unfold mA; first | rw [if_pos (show k = 5 by assumption)] | rw [if_neg (show ¬ k = 5 by assumption)]) lo1 (by assumption) (by assumption) hs1 (by assumption)) (.inr ⟨lsU_f lo2 hs2 (by assumption), rfl⟩) (.inl ⟨⟨vpos (by unfold mA; first | rw [if_pos (show k = 5 by assumption)] | rw [if_neg (show ¬ k = 5 by assumption)]) hs3 (by assumption), lsU_t lo3 hs4 (by assumption)⟩, rfl⟩)).symm), (by have hb2 := hbu.st (k := k) hX hY; rw [st_is (s := (some (p1, p2), some (r1, r2))) (L := some (p1, p2)) (R := some ((-9 + (j : Int)), (-9 + (j_1 : Int)))) (okU_yes (by unfold mA; first | rw [if_pos (show k = 5 by assumption)] | rw [if_neg (show ¬ k = 5 by assumption)]) lo1 (by assumption) (by assumption) hs1 (by assumption)) (.inr ⟨lsU_f lo2 hs2 (by assumption), rfl⟩) (.inl ⟨⟨vpos (by unfold mA; first | rw [if_pos (show k = 5 by assumption)] | rw [if_neg (show ¬ k = 5 by assumption)]) hs3 (by assumption), lsU_t lo3 hs4 (by assumption)⟩, rfl⟩)] at hb2; exact hb2), rfl, rfl⟩
              | exact ⟨_, _, _, _, (some (p1, p2), some (r1, r2)), (by rw [rowU, ← hs]; exact (st_is (s := (some (p1, p2), some (r1, r2))) (L := some (p1, p2)) (R := some (r1, r2)) (okU_yes (by unfold mA; first | rw [if_pos (show k = 5 by assumption)] | rw [if_neg (show ¬ k = 5 by assumption)]) lo1 (by assumption) (by assumption) hs1 (by assumption)) (.inr ⟨lsU_f lo2 hs2 (by assumption), rfl⟩) (.inr ⟨fun z => lsU_f lo3 hs4 (by assumption) z.2, rfl⟩)).symm), (by have hb2 := hbu.st (k := k) hX hY; rw [st_is (s := (some (p1, p2), some (r1, r2))) (L := some (p1, p2)) (R := some (r1, r2)) (okU_yes (by unfold mA; first | rw [if_pos (show k = 5 by assumption)] | rw [if_neg (show ¬ k = 5 by assumption)]) lo1 (by assumption) (by assumption) hs1 (by assumption)) (.inr ⟨lsU_f lo2 hs2 (by assumption), rfl⟩) (.inr ⟨fun z => lsU_f lo3 hs4 (by assumption) z.2, rfl⟩)] at hb2; exact hb2), rfl, rfl⟩
              | exact ⟨_, _, _, _, (some (p1, p2), some (r1, r2)), (by rw [rowU, ← hs]; exact (st_no (s := (some (p1, p2), some (r1, r2))) (okU_no1 (by unfold mA; first | rw [if_pos (show k = 5 by assumption)] | rw [if_neg (show ¬ k = 5 by assumption)]) lo1 (by assumption))).symm), (by have hb2 := hbu.st (k := k) hX hY; rw [st_no (s := (some (p1, p2), some (r1, r2))) (okU_no1 (by unfold mA; first | rw [if_pos (show k = 5 by assumption)] | rw [if_neg (show ¬ k = 5 by assumption)]) lo1 (by assumption))] at hb2; exact hb2), rfl, rfl⟩
              | exact ⟨_, _, _, _, (some (p1, p2), some (r1, r2)), (by rw [rowU, ← hs]; exact (st_no (s := (some (p1, p2), some (r1, r2))) (okU_no2 (by unfold mA; first | rw [if_pos (show k = 5 by assumption)] | rw [if_neg (show ¬ k = 5 by assumption)]) lo1 (by assumption))).symm), (by have hb2 := hbu.st (k := k) hX hY; rw [st_no (s := (some (p1, p2), some (r1, r2))) (okU_no2 (by unfold mA; first | rw [if_pos (show k = 5 by assumption)] | rw [if_neg (show ¬ k = 5 by assumption)]) lo1 (by assumption))] at hb2; exact hb2), rfl, rfl⟩
              | exact ⟨_, _, _, _, (some (p1, p2), some (r1, r2)), (by rw [rowU, ← hs]; exact (st_no (s := (some (p1, p2), some (r1, r2))) (okU_no3 hs1 (by assumption))).symm), (by have hb2 := hbu.st (k := k) hX hY; rw [st_no (s := (some (p1, p2), some (r1, r2))) (okU_no3 hs1 (by assumption))] at hb2; exact hb2), rfl, rfl⟩
          case h113 =>
            first
              | exact ⟨_, _, _, _, (some ((-9 + (j : Int)), (-9 + (j_1 : Int))), some (r1, r2)), (by rw [rowU, ← hs]; exact (st_is (s := (some (p1, p2), some (r1, r2))) (L := some ((-9 + (j : Int)), (-9 + (j_1 : Int)))) (R := some (r1, r2)) (okU_yes (by unfold mA; first | rw [if_pos (show k = 5 by assumption)] | rw [if_neg (show ¬ k = 5 by assumption)]) lo1 (by assumption) (by assumption) hs1 (by assumption)) (.inl ⟨lsU_t lo2 hs2 (by assumption), rfl⟩) (.inr ⟨fun z => vneg (by unfold mA; first | rw [if_pos (show k = 5 by assumption)] | rw [if_neg (show ¬ k = 5 by assumption)]) hs3 (by assumption) z.1, rfl⟩)).symm), (by have hb2 := hbu.st (k := k) hX hY; rw [st_is (s := (some (p1, p2), some (r1, r2))) (L := some ((-9 + (j : Int)), (-9 + (j_1 : Int)))) (R := some (r1, r2)) (okU_yes (by unfold mA; first | rw [if_pos (show k = 5 by assumption)] | rw [if_neg (show ¬ k = 5 by assumption)]) lo1 (by assumption) (by assumption) hs1 (by assumption)) (.inl ⟨lsU_t lo2 hs2 (by assumption), rfl⟩) (.inr ⟨fun z => vneg (by unfold mA; first | rw [if_pos (show k = 5 by assumption)] | rw [if_neg (show ¬ k = 5 by assumption)]) hs3 (by assumption) z.1, rfl⟩)] at hb2; exact hb2), rfl, rfl⟩
              | exact ⟨_, _, _, _, (some ((-9 + (j : Int)), (-9 + (j_1 : Int))), some ((-9 + (j : Int)), (-9 + (j_1 : Int)))), (by rw [rowU, ← hs]; exact (st_is (s := (some (p1, p2), some (r1, r2))) (L := some ((-9 + (j : Int)), (-9 + (j_1 : Int)))) (R := some ((-9 + (j : Int)), (-9 + (j_1 : Int)))) (okU_yes (by unfold mA; first | rw [if_pos (show k = 5 by assumption)] | rw [if_neg (show ¬ k = 5 by assumption)]) lo1 (by assumption) (by assumption) hs1 (by assumption)) (.inl ⟨lsU_t lo2 hs2 (by assumption), rfl⟩) (.inl ⟨⟨vpos (by unfold mA; first | rw [if_pos (show k = 5 by assumption)] | rw [if_neg (show ¬ k = 5 by assumption)]) hs3 (by assumption), lsU_t lo3 hs4 (by assumption)⟩, rfl⟩)).symm), (by have hb2 := hbu.st (k := k) hX hY; rw [st_is (s := (some (p1, p2), some (r1, r2))) (L := some ((-9 + (j : Int)), (-9 + (j_1 : Int)))) (R := some ((-9 + (j : Int)), (-9 + (j_1 : Int)))) (okU_yes (by unfold mA; first | rw [if_pos (show k = 5 by assumption)] | rw [if_neg (show ¬ k = 5 by assumption)]) lo1 (by assumption) (by assumption) hs1 (by assumption)) (.inl ⟨lsU_t lo2 hs2 (by assumption), rfl⟩) (.inl ⟨⟨vpos (by unfold mA; first | rw [if_pos (show k = 5 by assumption)] | rw [if_neg (show ¬ k = 5 by assumption)]) hs3 (by assumption), lsU_t lo3 hs4 (by assumption)⟩, rfl⟩)] at hb2; exact hb2), rfl, rfl⟩
              | exact ⟨_, _, _, _, (some ((-9 + (j : Int)), (-9 + (j_1 : Int))), some (r1, r2)), (by rw [rowU, ← hs]; exact (st_is (s := (some (p1, p2), some (r1, r2))) (L := some ((-9 + (j : Int)), (-9 + (j_1 : Int)))) (R := some (r1, r2)) (okU_yes (by unfold mA; first | rw [if_pos (show k = 5 by assumption)] | rw [if_neg (show ¬ k = 5 by assumption)]) lo1 (by assumption) (by assumption) hs1 (by assumption)) (.inl ⟨lsU_t lo2 hs2 (by assumption), rfl⟩) (.inr ⟨fun z => lsU_f lo3 hs4 (by assumption) z.2, rfl⟩)).symm), (by have hb2 := hbu.st (k := k) hX hY; rw [st_is (s := (some (p1, p2), some (r1, r2))) (L := some ((-9 + (j : Int)), (-9 + (j_1 : Int)))) (R := some (r1, r2)) (okU_yes (by unfold mA; first | rw [if_pos (show k = 5 by assumption)] | rw [if_neg (show ¬ k = 5 by assumption)]) lo1 (by assumption) (by assumption) hs1 (by assumption)) (.inl ⟨lsU_t lo2 hs2 (by assumption), rfl⟩) (.inr ⟨fun z => lsU_f lo3 hs4 (by assumption) z.2, rfl⟩)] at hb2; exact hb2), rfl, rfl⟩
              | exact ⟨_, _, _, _, (some (p1, p2), some (r1, r2)), (by rw [rowU, ← hs]; exact (st_is (s := (some (p1, p2), some (r1, r2))) (L := some (p1, p2)) (R := some (r1, r2)) (okU_yes (by unfold mA; first | rw [if_pos (show k = 5 by assumption)] | rw [if_neg (show ¬ k = 5 by assumption)]) lo1 (by assumption) (by assumption) hs1 (by assumption)) (.inr ⟨lsU_f lo2 hs2 (by assumption), rfl⟩) (.inr ⟨fun z => vneg (by unfold mA; first | rw [if_pos (show k = 5 by assumption)] | rw [if_neg (show ¬ k = 5 by assumption)]) hs3 (by assumption) z.1, rfl⟩)).symm), (by have hb2 := hbu.st (k := k) hX hY; rw [st_is (s := (some (p1, p2), some (r1, r2))) (L := some (p1, p2)) (R := some (r1, r2)) (okU_yes (by unfold mA; first | rw [if_pos (show k = 5 by assumption)] | rw [if_neg (show ¬ k = 5 by assumption)]) lo1 (by assumption) (by assumption) hs1 (by assumption)) (.inr ⟨lsU_f lo2 hs2 (by assumption), rfl⟩) (.inr ⟨fun z => vneg (by unfold mA; first | rw [if_pos (show k = 5 by assumption)] | rw [if_neg (show ¬ k = 5 by assumption)]) hs3 (by assumption) z.1, rfl⟩)] at hb2; exact hb2), rfl, rfl⟩
              | exact ⟨_, _, _, _, (some (p1, p2), some ((-9 + (j : Int)), (-9 + (j_1 : Int)))), (by rw [rowU, ← hs]; exact (st_is (s := (some (p1, p2), some (r1, r2))) (L := some (p1, p2)) (R := some ((-9 + (j : Int)), (-9 + (j_1 : Int)))) (okU_yes (by unfold mA; first | rw [if_pos (show k = 5 by assumption)] | rw [if_neg (show ¬ k = 5 by assumption)]) lo1 (by assumption) (by assumption) hs1 (by assumption)) (.inr ⟨lsU_f lo2 hs2 (by assumption), rfl⟩) (.inl ⟨⟨vpos (by unfold mA; first | rw [if_pos (show k = 5 by assumption)] | rw [if_neg (show ¬ k = 5 by assumption)]) hs3 (by assumption), lsU_t lo3 hs4 (by assumption)⟩, rfl⟩)).symm), (by have hb2 := hbu.st (k := k) hX hY; rw [st_is (s := (some (p1, p2), some (r1, r2))) (L := some (p1, p2)) (R := some ((-9 + (j : Int)), (-9 + (j_1 : Int)))) (okU_yes (by unfold mA; first | rw [if_pos (show k = 5 by assumption)] | rw [if_neg (show ¬ k = 5 by assumption)]) lo1 (by assumption) (by assumption) hs1 (by assumption)) (.inr ⟨lsU_f lo2 hs2 (by assumption), rfl⟩) (.inl ⟨⟨vpos (by unfold mA; first | rw [if_pos (show k = 5 by assumption)] | rw [if_neg (show ¬ k = 5 by assumption)]) hs3 (by assumption), lsU_t lo3 hs4 (by assumption)⟩, rfl⟩)] at hb2; exact hb2), rfl, rfl⟩
              | exact ⟨_, _, _, _, (some (p1, p2), some (r1, r2)), (by rw [rowU, ← hs]; exact (st_is (s := (some (p1, p2), some (r1, r2))) (L := some (p1, p2)) (R := some (r1, r2)) (okU_yes (by unfold mA; first | rw [if_pos (show k = 5 by assumption)] | rw [if_neg (show ¬ k = 5 by assumption)]) lo1 (by assumption) (by assumption) hs1 (by assumption)) (.inr ⟨lsU_f lo2 hs2 (by assumption), rfl⟩) (.inr ⟨fun z => lsU_f lo3 hs4 (by assumption) z.2, rfl⟩)).symm), (by have hb2 := hbu.st (k := k) hX hY; rw [st_is (s := (some (p1, p2), some (r1, r2))) (L := some (p1, p2)) (R := some (r1, r2)) (okU_yes (by unfold mA; first | rw [if_pos (show k = 5 by assumption)] | rw [if_neg (show ¬ k = 5 by assumption)]) lo1 (by assumption) (by assumption) hs1 (by assumption)) (.inr ⟨lsU_f lo2 hs2 (by assumption), rfl⟩) (.inr ⟨fun z => lsU_f lo3 hs4 (by assumption) z.2, rfl⟩)] at hb2; exact hb2), rfl, rfl⟩
              | exact ⟨_, _, _, _, (some (p1, p2), some (r1, r2)), (by rw [rowU, ← hs]; exact (st_no (s := (some (p1, p2), some (r1, r2))) (okU_no1 (by unfold mA; first | rw [if_pos (show k = 5 by assumption)] | rw [if_neg (show ¬ k = 5 by assumption)]) lo1 (by assumption))).symm), (by have hb2 := hbu.st (k := k) hX hY; rw [st_no (s := (some (p1, p2), some (r1, r2))) (okU_no1 (by unfold mA; first | rw [if_pos (show k = 5 by assumption)] | rw [if_neg (show ¬ k = 5 by assumption)]) lo1 (by assumption))] at hb2; exact hb2), rfl, rfl⟩
              | exact ⟨_, _, _, _, (some (p1, p2), some (r1, r2)), (by rw [rowU, ← hs]; exact (st_no (s := (some (p1, p2), some (r1, r2))) (okU_no2 (by unfold mA; first | rw [if_pos (show k = 5 by assumption)] | rw [if_neg (show ¬ k = 5 by assumption)]) lo1 (by assumption))).symm), (by have hb2 := hbu.st (k := k) hX hY; rw [st_no (s := (some (p1, p2), some (r1, r2))) (okU_no2 (by unfold mA; first | rw [if_pos (show k = 5 by assumption)] | rw [if_neg (show ¬ k = 5 by assumption)]) lo1 (by assumption))] at hb2; exact hb2), rfl, rfl⟩
              | exact ⟨_, _, _, _, (some (p1, p2), some (r1, r2)), (by rw [rowU, ← hs]; exact (st_no (s := (some (p1, p2), some (r1, r2))) (okU_no3 hs1 (by assumption))).symm), (by have hb2 := hbu.st (k := k) hX hY; rw [st_no (s := (some (p1, p2), some (r1, r2))) (okU_no3 hs1 (by assumption))] at hb2; exact hb2), rfl, rfl⟩
          case h114 =>
            first
              | exact ⟨_, _, _, _, (some ((-9 + (j : Int)), (-9 + (j_1 : Int))), some (r1, r2)), (by rw [rowU, ← hs]; exact (st_is (s := (some (p1, p2), some (r1, r2))) (L := some ((-9 + (j : Int)), (-9 + (j_1 : Int)))) (R := some (r1, r2)) (okU_yes (by unfold mA; first | rw [if_pos (show k = 5 by assumption)] | rw [if_neg (show ¬ k = 5 by assumption)]) lo1 (by assumption) (by assumption) hs1 (by assumption)) (.inl ⟨lsU_t lo2 hs2 (by assumption), rfl⟩) (.inr ⟨fun z => vneg (by unfold mA; first | rw [if_pos (show k = 5 by assumption)] | rw [if_neg (show ¬ k = 5 by assumption)]) hs3 (by assumption) z.1, rfl⟩)).symm), (by have hb2 := hbu.st (k := k) hX hY; rw [st_is (s := (some (p1, p2), some (r1, r2))) (L := some ((-9 + (j : Int)), (-9 + (j_1 : Int)))) (R := some (r1, r2)) (okU_yes (by unfold mA; first | rw [if_pos (show k = 5 by assumption)] | rw [if_neg (show ¬ k = 5 by assumption)]) lo1 (by assumption) (by assumption) hs1 (by assumption)) (.inl ⟨lsU_t lo2 hs2 (by assumption), rfl⟩) (.inr ⟨fun z => vneg (by unfold mA; first | rw [if_pos (show k = 5 by assumption)] | rw [if_neg (show ¬ k = 5 by assumption)]) hs3 (by assumption) z.1, rfl⟩)] at hb2; exact hb2), rfl, rfl⟩
              | exact ⟨_, _, _, _, (some ((-9 + (j : Int)), (-9 + (j_1 : Int))), some ((-9 + (j : Int)), (-9 + (j_1 : Int)))), (by rw [rowU, ← hs]; exact (st_is (s := (some (p1, p2), some (r1, r2))) (L := some ((-9 + (j : Int)), (-9 + (j_1 : Int)))) (R := some ((-9 + (j : Int)), (-9 + (j_1 : Int)))) (okU_yes (by unfold mA; first | rw [if_pos (show k = 5 by assumption)] | rw [if_neg (show ¬ k = 5 by assumption)]) lo1 (by assumption) (by assumption) hs1 (by assumption)) (.inl ⟨lsU_t lo2 hs2 (by assumption), rfl⟩) (.inl ⟨⟨vpos (by unfold mA; first | rw [if_pos (show k = 5 by assumption)] | rw [if_neg (show ¬ k = 5 by assumption)]) hs3 (by assumption), lsU_t lo3 hs4 (by assumption)⟩, rfl⟩)).symm), (by have hb2 := hbu.st (k := k) hX hY; rw [st_is (s := (some (p1, p2), some (r1, r2))) (L := some ((-9 + (j : Int)), (-9 + (j_1 : Int)))) (R := some ((-9 + (j : Int)), (-9 + (j_1 : Int)))) (okU_yes (by unfold mA; first | rw [if_pos (show k = 5 by assumption)] | rw [if_neg (show ¬ k = 5 by assumption)]) lo1 (by assumption) (by assumption) hs1 (by assumption)) (.inl ⟨lsU_t lo2 hs2 (by assumption), rfl⟩) (.inl ⟨⟨vpos (by unfold mA; first | rw [if_pos (show k = 5 by assumption)] | rw [if_neg (show ¬ k = 5 by assumption)]) hs3 (by assumption), lsU_t lo3 hs4 (by assumption)⟩, rfl⟩)] at hb2; exact hb2), rfl, rfl⟩
              | exact ⟨_, _, _, _, (some ((-9 + (j : Int)), (-9 + (j_1 : Int))), some (r1, r2)), (by rw [rowU, ← hs]; exact (st_is (s := (some (p1, p2), some (r1, r2))) (L := some ((-9 + (j : Int)), (-9 + (j_1 : Int)))) (R := some (r1, r2)) (okU_yes (by unfold mA; first | rw [if_pos (show k = 5 by assumption)] | rw [if_neg (show ¬ k = 5 by assumption)]) lo1 (by assumption) (by assumption) hs1 (by assumption)) (.inl ⟨lsU_t lo2 hs2 (by assumption), rfl⟩) (.inr ⟨fun z => lsU_f lo3 hs4 (by assumption) z.2, rfl⟩)).symm), (by have hb2 := hbu.st (k := k) hX hY; rw [st_is (s := (some (p1, p2), some (r1, r2))) (L := some ((-9 + (j : Int)), (-9 + (j_1 : Int)))) (R := some (r1, r2)) (okU_yes (by unfold mA; first | rw [if_pos (show k = 5 by assumption)] | rw [if_neg (show ¬ k = 5 by assumption)]) lo1 (by assumption) (by assumption) hs1 (by assumption)) (.inl ⟨lsU_t lo2 hs2 (by assumption), rfl⟩) (.inr ⟨fun z => lsU_f lo3 hs4 (by assumption) z.2, rfl⟩)] at hb2; exact hb2), rfl, rfl⟩
              | exact ⟨_, _, _, _, (some (p1, p2), some (r1, r2)), (by rw [rowU, ← hs]; exact (st_is (s := (some (p1, p2), some (r1, r2))) (L := some (p1, p2)) (R := some (r1, r2)) (okU_yes (by unfold mA; first | rw [if_pos (show k = 5 by assumption)] | rw [if_neg (show ¬ k = 5 by assumption)]) lo1 (by assumption) (by assumption) hs1 (by assumption)) (.inr ⟨lsU_f lo2 hs2 (by assumption), rfl⟩) (.inr ⟨fun z => vneg (by unfold mA; first | rw [if_pos (show k = 5 by assumption)] | rw [if_neg (show ¬ k = 5 by assumption)]) hs3 (by assumption) z.1, rfl⟩)).symm), (by have hb2 := hbu.st (k := k) hX hY; rw [st_is (s := (some (p1, p2), some (r1, r2))) (L := some (p1, p2)) (R := some (r1, r2)) (okU_yes (by unfold mA; first | rw [if_pos (show k = 5 by assumption)] | rw [if_neg (show ¬ k = 5 by assumption)]) lo1 (by assumption) (by assumption) hs1 (by assumption)) (.inr ⟨lsU_f lo2 hs2 (by assumption), rfl⟩) (.inr ⟨fun z => vneg (by unfold mA; first | rw [if_pos (show k = 5 by assumption)] | rw [if_neg (show ¬ k = 5 by assumption)]) hs3 (by assumption) z.1, rfl⟩)] at hb2; exact hb2), rfl, rfl⟩
              | exact ⟨_, _, _, _, (some (p1, p2), some ((-9 + (j : Int)), (-9 + (j_1 : Int)))), (by rw [rowU, ← hs]; exact (st_is (s := (some (p1, p2), some (r1, r2))) (L := some (p1, p2)) (R := some ((-9 + (j : Int)), (-9 + (j_1 : Int)))) (okU_yes (by unfold mA; first | rw [if_pos (show k = 5 by assumption)] | rw [if_neg (show ¬ k = 5 by assumption)]) lo1 (by assumption) (by assumption) hs1 (by assumption)) (.inr ⟨lsU_f lo2 hs2 (by assumption), rfl⟩) (.inl ⟨⟨vpos (by unfold mA; first | rw [if_pos (show k = 5 by assumption)] | rw [if_neg (show ¬ k = 5 by assumption)]) hs3 (by assumption), lsU_t lo3 hs4 (by assumption)⟩, rfl⟩)).symm), (by have hb2 := hbu.st (k := k) hX hY; rw [st_is (s := (some (p1, p2), some (r1, r2))) (L := some (p1, p2)) (R := some ((-9 + (j : Int)), (-9 + (j_1 : Int)))) (okU_yes (by unfold mA; first | rw [if_pos (show k = 5 by assumption)] | rw [if_neg (show ¬ k = 5 by assumption)]) lo1 (by assumption) (by assumption) hs1 (by assumption)) (.inr ⟨lsU_f lo2 hs2 (by assumption), rfl⟩) (.inl ⟨⟨vpos (by unfold mA; first | rw [if_pos (show k = 5 by assumption)] | rw [if_neg (show ¬ k = 5 by assumption)]) hs3 (by assumption), lsU_t lo3 hs4 (by assumption)⟩, rfl⟩)] at hb2; exact hb2), rfl, rfl⟩
              | exact ⟨_, _, _, _, (some (p1, p2), some (r1, r2)), (by rw [rowU, ← hs]; exact (st_is (s := (some (p1, p2), some (r1, r2))) (L := some (p1, p2)) (R := some (r1, r2)) (okU_yes (by unfold mA; first | rw [if_pos (show k = 5 by assumption)] | rw [if_neg (show ¬ k = 5 by assumption)]) lo1 (by assumption) (by assumption) hs1 (by assumption)) (.inr ⟨lsU_f lo2 hs2 (by assumption), rfl⟩) (.inr ⟨fun z => lsU_f lo3 hs4 (by assumption) z.2, rfl⟩)).symm), (by have hb2 := hbu.st (k := k) hX hY; rw [st_is (s := (some (p1, p2), some (r1, r2))) (L := some (p1, p2)) (R := some (r1, r2)) (okU_yes (by unfold mA; first | rw [if_pos (show k = 5 by assumption)] | rw [if_neg (show ¬ k = 5 by assumption)]) lo1 (by assumption) (by assumption) hs1 (by assumption)) (.inr ⟨lsU_f lo2 hs2 (by assumption), rfl⟩) (.inr ⟨fun z => lsU_f lo3 hs4 (by assumption) z.2, rfl⟩)] at hb2; exact hb2), rfl, rfl⟩
              | exact ⟨_, _, _, _, (some (p1, p2), some (r1, r2)), (by rw [rowU, ← hs]; exact (st_no (s := (some (p1, p2), some (r1, r2))) (okU_no1 (by unfold mA; first | rw [if_pos (show k = 5 by assumption)] | rw [if_neg (show ¬ k = 5 by assumption)]) lo1 (by assumption))).symm), (by have hb2 := hbu.st (k := k) hX hY; rw [st_no (s := (some (p1, p2), some (r1, r2))) (okU_no1 (by unfold mA; first | rw [if_pos (show k = 5 by assumption)] | rw [if_neg (show ¬ k = 5 by assumption)]) lo1 (by assumption))] at hb2; exact hb2), rfl, rfl⟩
              | exact ⟨_, _, _, _, (some (p1, p2), some (r1, r2)), (by rw [rowU, ← hs]; exact (st_no (s := (some (p1, p2), some (r1, r2))) (okU_no2 (by unfold mA; first | rw [if_pos (show k = 5 by assumption)] | rw [if_neg (show ¬ k = 5 by assumption)]) lo1 (by assumption))).symm), (by have hb2 := hbu.st (k := k) hX hY; rw [st_no (s := (some (p1, p2), some (r1, r2))) (okU_no2 (by unfold mA; first | rw [if_pos (show k = 5 by assumption)] | rw [if_neg (show ¬ k = 5 by assumption)]) lo1 (by assumption))] at hb2; exact hb2), rfl, rfl⟩
              | exact ⟨_, _, _, _, (some (p1, p2), some (r1, r2)), (by rw [rowU, ← hs]; exact (st_no (s := (some (p1, p2), some (r1, r2))) (okU_no3 hs1 (by assumption))).symm), (by have hb2 := hbu.st (k := k) hX hY; rw [st_no (s := (some (p1, p2), some (r1, r2))) (okU_no3 hs1 (by assumption))] at hb2; exact hb2), rfl, rfl⟩
          case h115 =>
            first
              | exact ⟨_, _, _, _, (some ((-9 + (j : Int)), (-9 + (j_1 : Int))), some (r1, r2)), (by rw [rowU, ← hs]; exact (st_is (s := (some (p1, p2), some (r1, r2))) (L := some ((-9 + (j : Int)), (-9 + (j_1 : Int)))) (R := some (r1, r2)) (okU_yes (by unfold mA; first | rw [if_pos (show k = 5 by assumption)] | rw [if_neg (show ¬ k = 5 by assumption)]) lo1 (by assumption) (by assumption) hs1 (by assumption)) (.inl ⟨lsU_t lo2 hs2 (by assumption), rfl⟩) (.inr ⟨fun z => vneg (by unfold mA; first | rw [if_pos (show k = 5 by assumption)] | rw [if_neg (show ¬ k = 5 by assumption)]) hs3 (by assumption) z.1, rfl⟩)).symm), (by have hb2 := hbu.st (k := k) hX hY; rw [st_is (s := (some (p1, p2), some (r1, r2))) (L := some ((-9 + (j : Int)), (-9 + (j_1 : Int)))) (R := some (r1, r2)) (okU_yes (by unfold mA; first | rw [if_pos (show k = 5 by assumption)] | rw [if_neg (show ¬ k = 5 by assumption)]) lo1 (by assumption) (by assumption) hs1 (by assumption)) (.inl ⟨lsU_t lo2 hs2 (by assumption), rfl⟩) (.inr ⟨fun z => vneg (by unfold mA; first | rw [if_pos (show k = 5 by assumption)] | rw [if_neg (show ¬ k = 5 by assumption)]) hs3 (by assumption) z.1, rfl⟩)] at hb2; exact hb2), rfl, rfl⟩
              | exact ⟨_, _, _, _, (some ((-9 + (j : Int)), (-9 + (j_1 : Int))), some ((-9 + (j : Int)), (-9 + (j_1 : Int)))), (by rw [rowU, ← hs]; exact (st_is (s := (some (p1, p2), some (r1, r2))) (L := some ((-9 + (j : Int)), (-9 + (j_1 : Int)))) (R := some ((-9 + (j : Int)), (-9 + (j_1 : Int)))) (okU_yes (by unfold mA; first | rw [if_pos (show k = 5 by assumption)] | rw [if_neg (show ¬ k = 5 by assumption)]) lo1 (by assumption) (by assumption) hs1 (by assumption)) (.inl ⟨lsU_t lo2 hs2 (by assumption), rfl⟩) (.inl ⟨⟨vpos (by unfold mA; first | rw [if_pos (show k = 5 by assumption)] | rw [if_neg (show ¬ k = 5 by assumption)]) hs3 (by assumption), lsU_t lo3 hs4 (by assumption)⟩, rfl⟩)).symm), (by have hb2 := hbu.st (k := k) hX hY; rw [st_is (s := (some (p1, p2), some (r1, r2))) (L := some ((-9 + (j : Int)), (-9 + (j_1 : Int)))) (R := some ((-9 + (j : Int)), (-9 + (j_1 : Int)))) (okU_yes (by unfold mA; first | rw [if_pos (show k = 5 by assumption)] | rw [if_neg (show ¬ k = 5 by assumption)]) lo1 (by assumption) (by assumption) hs1 (by assumption)) (.inl ⟨lsU_t lo2 hs2 (by assumption), rfl⟩) (.inl ⟨⟨vpos (by unfold mA; first | rw [if_pos (show k = 5 by assumption)] | rw [if_neg (show ¬ k = 5 by assumption)]) hs3 (by assumption), lsU_t lo3 hs4 (by assumption)⟩, rfl⟩)] at hb2; exact hb2), rfl, rfl⟩
              | exact ⟨_, _, _, _, (some ((-9 + (j : Int)), (-9 + (j_1 : Int))), some (r1, r2)), (by rw [rowU, ← hs]; exact (st_is (s := (some (p1, p2), some (r1, r2))) (L := some ((-9 + (j : Int)), (-9 + (j_1 : Int)))) (R := some (r1, r2)) (okU_yes (by unfold mA; first | rw [if_pos (show k = 5 by assumption)] | rw [if_neg (show ¬ k = 5 by assumption)]) lo1 (by assumption) (by assumption) hs1 (by assumption)) (.inl ⟨lsU_t lo2 hs2 (by assumption), rfl⟩) (.inr ⟨fun z => lsU_f lo3 hs4 (by assumption) z.2, rfl⟩)).symm), (by have hb2 := hbu.st (k := k) hX hY; rw [st_is (s := (some (p1, p2), some (r1, r2))) (L := some ((-9 + (j : Int)), (-9 + (j_1 : Int)))) (R := some (r1, r2)) (okU_yes (by unfold mA; first | rw [if_pos (show k = 5 by assumption)] | rw [if_neg (show ¬ k = 5 by assumption)]) lo1 (by assumption) (by assumption) hs1 (by assumption)) (.inl ⟨lsU_t lo2 hs2 (by assumption), rfl⟩) (.inr ⟨fun z => lsU_f lo3 hs4 (by assumption) z.2, rfl⟩)] at hb2; exact hb2), rfl, rfl⟩
              | exact ⟨_, _, _, _, (some (p1, p2), some (r1, r2)), (by rw [rowU, ← hs]; exact (st_is (s := (some (p1, p2), some (r1, r2))) (L := some (p1, p2)) (R := some (r1, r2)) (okU_yes (by unfold mA; first | rw [if_pos (show k = 5 by assumption)] | rw [if_neg (show ¬ k = 5 by assumption)]) lo1 (by assumption) (by assumption) hs1 (by assumption)) (.inr ⟨lsU_f lo2 hs2 (by assumption), rfl⟩) (.inr ⟨fun z => vneg (by unfold mA; first | rw [if_pos (show k = 5 by assumption)] | rw [if_neg (show ¬ k = 5 by assumption)]) hs3 (by assumption) z.1, rfl⟩)).symm), (by have hb2 := hbu.st (k := k) hX hY; rw [st_is (s := (some (p1, p2), some (r1, r2))) (L := some (p1, p2)) (R := some (r1, r2)) (okU_yes (by unfold mA; first | rw [if_pos (show k = 5 by assumption)] | rw [if_neg (show ¬ k = 5 by assumption)]) lo1 (by assumption) (by assumption) hs1 (by assumption)) (.inr ⟨lsU_f lo2 hs2 (by assumption), rfl⟩) (.inr ⟨fun z => vneg (by unfold mA; first | rw [if_pos (show k = 5 by assumption)] | rw [if_neg (show ¬ k = 5 by assumption)]) hs3 (by assumption) z.1, rfl⟩)] at hb2; exact hb2), rfl, rfl⟩
              | exact ⟨_, _, _, _, (some (p1, p2), some ((-9 + (j : Int)), (-9 + (j_1 : Int)))), (by rw [rowU, ← hs]; exact (st_is (s := (some (p1, p2), some (r1, r2))) (L := some (p1, p2)) (R := some ((-9 + (j : Int)), (-9 + (j_1 : Int)))) (okU_yes (by unfold mA; first | rw [if_pos (show k = 5 by assumption)] | rw [if_neg (show ¬ k = 5 by assumption)]) lo1 (by assumption) (by assumption) hs1 (by assumption)) (.inr ⟨lsU_f lo2 hs2 (by assumption), rfl⟩) (.inl ⟨⟨vpos (by unfold mA; first | rw [if_pos (show k = 5 by assumption)] | rw [if_neg (show ¬ k = 5 by assumption)]) hs3 (by assumption), lsU_t lo3 hs4 (by assumption)⟩, rfl⟩)).symm), (by have hb2 := hbu.st (k := k) hX hY; rw [st_is (s := (some (p1, p2), some (r1, r2))) (L := some (p1, p2)) (R := some ((-9 + (j : Int)), (-9 + (j_1 : Int)))) (okU_yes (by unfold mA; first | rw [if_pos (show k = 5 by assumption)] | rw [if_neg (show ¬ k = 5 by assumption)]) lo1 (by assumption) (by assumption) hs1 (by assumption)) (.inr ⟨lsU_f lo2 hs2 (by assumption), rfl⟩) (.inl ⟨⟨vpos (by unfold mA; first | rw [if_pos (show k = 5 by assumption)] | rw [if_neg (show ¬ k = 5 by assumption)]) hs3 (by assumption), lsU_t lo3 hs4 (by assumption)⟩, rfl⟩)] at hb2; exact hb2), rfl, rfl⟩
              | exact ⟨_, _, _, _, (some (p1, p2), some (r1, r2)), (by rw [rowU, ← hs]; exact (st_is (s := (some (p1, p2), some (r1, r2))) (L := some (p1, p2)) (R := some (r1, r2)) (okU_yes (by unfold mA; first | rw [if_pos (show k = 5 by assumption)] | rw [if_neg (show ¬ k = 5 by assumption)]) lo1 (by assumption) (by assumption) hs1 (by assumption)) (.inr ⟨lsU_f lo2 hs2 (by assumption), rfl⟩) (.inr ⟨fun z => lsU_f lo3 hs4 (by assumption) z.2, rfl⟩)).symm), (by have hb2 := hbu.st (k := k) hX hY; rw [st_is (s := (some (p1, p2), some (r1, r2))) (L := some (p1, p2)) (R := some (r1, r2)) (okU_yes (by unfold mA; first | rw [if_pos (show k = 5 by assumption)] | rw [if_neg (show ¬ k = 5 by assumption)]) lo1 (by assumption) (by assumption) hs1 (by assumption)) (.inr ⟨lsU_f lo2 hs2 (by assumption), rfl⟩) (.inr ⟨fun z => lsU_f lo3 hs4 (by assumption) z.2, rfl⟩)] at hb2; exact hb2), rfl, rfl⟩
              | exact ⟨_, _, _, _, (some (p1, p2), some (r1, r2)), (by rw [rowU, ← hs]; exact (st_no (s := (some (p1, p2), some (r1, r2))) (okU_no1 (by unfold mA; first | rw [if_pos (show k = 5 by assumption)] | rw [if_neg (show ¬ k = 5 by assumption)]) lo1 (by assumption))).symm), (by have hb2 := hbu.st (k := k) hX hY; rw [st_no (s := (some (p1, p2), some (r1, r2))) (okU_no1 (by unfold mA; first | rw [if_pos (show k = 5 by assumption)] | rw [if_neg (show ¬ k = 5 by assumption)]) lo1 (by assumption))] at hb2; exact hb2), rfl, rfl⟩
              | exact ⟨_, _, _, _, (some (p1, p2), some (r1, r2)), (by rw [rowU, ← hs]; exact (st_no (s := (some (p1, p2), some (r1, r2))) (okU_no2 (by unfold mA; first | rw [if_pos (show k = 5 by assumption)] | rw [if_neg (show ¬ k = 5 by assumption)]) lo1 (by assumption))).symm), (by have hb2 := hbu.st (k := k) hX hY; rw [st_no (s := (some (p1, p2), some (r1, r2))) (okU_no2 (by unfold mA; first | rw [if_pos (show k = 5 by assumption)] | rw [if_neg (show ¬ k = 5 by assumption)]) lo1 (by assumption))] at hb2; exact hb2), rfl, rfl⟩
              | exact ⟨_, _, _, _, (some (p1, p2), some (r1, r2)), (by rw [rowU, ← hs]; exact (st_no (s := (some (p1, p2), some (r1, r2))) (okU_no3 hs1 (by assumption))).symm), (by have hb2 := hbu.st (k := k) hX hY; rw [st_no (s := (some (p1, p2), some (r1, r2))) (okU_no3 hs1 (by assumption))] at hb2; exact hb2), rfl, rfl⟩
          case h116 =>
            first
              | exact ⟨_, _, _, _, (some ((-9 + (j : Int)), (-9 + (j_1 : Int))), some (r1, r2)), (by rw [rowU, ← hs]; exact (st_is (s := (some (p1, p2), some (r1, r2))) (L := some ((-9 + (j : Int)), (-9 + (j_1 : Int)))) (R := some (r1, r2)) (okU_yes (by unfold mA; first | rw [if_pos (show k = 5 by assumption)] | rw [if_neg (show ¬ k = 5 by assumption)]) lo1 (by assumption) (by assumption) hs1 (by assumption)) (.inl ⟨lsU_t lo2 hs2 (by assumption), rfl⟩) (.inr ⟨fun z => vneg (by unfold mA; first | rw [if_pos (show k = 5 by assumption)] | rw [if_neg (show ¬ k = 5 by assumption)]) hs3 (by assumption) z.1, rfl⟩)).symm), (by have hb2 := hbu.st (k := k) hX hY; rw [st_is (s := (some (p1, p2), some (r1, r2))) (L := some ((-9 + (j : Int)), (-9 + (j_1 : Int)))) (R := some (r1, r2)) (okU_yes (by unfold mA; first | rw [if_pos (show k = 5 by assumption)] | rw [if_neg (show ¬ k = 5 by assumption)]) lo1 (by assumption) (by assumption) hs1 (by assumption)) (.inl ⟨lsU_t lo2 hs2 (by assumption), rfl⟩) (.inr ⟨fun z => vneg (by unfold mA; first | rw [if_pos (show k = 5 by assumption)] | rw [if_neg (show ¬ k = 5 by assumption)]) hs3 (by assumption) z.1, rfl⟩)] at hb2; exact hb2), rfl, rfl⟩
              | exact ⟨_, _, _, _, (some ((-9 + (j : Int)), (-9 + (j_1 : Int))), some ((-9 + (j : Int)), (-9 + (j_1 : Int)))), (by rw [rowU, ← hs]; exact (st_is (s := (some (p1, p2), some (r1, r2))) (L := some ((-9 + (j : Int)), (-9 + (j_1 : Int)))) (R := some ((-9 + (j : Int)), (-9 + (j_1 : Int)))) (okU_yes (by unfold mA; first | rw [if_pos (show k = 5 by assumption)] | rw [if_neg (show ¬ k = 5 by assumption)]) lo1 (by assumption) (by assumption) hs1 (by assumption)) (.inl ⟨lsU_t lo2 hs2 (by assumption), rfl⟩) (.inl ⟨⟨vpos (by unfold mA; first | rw [if_pos (show k = 5 by assumption)] | rw [if_neg (show ¬ k = 5 by assumption)]) hs3 (by assumption), lsU_t lo3 hs4 (by assumption)⟩, rfl⟩)).symm), (by have hb2 := hbu.st (k := k) hX hY; rw [st_is (s := (some (p1, p2), some (r1, r2))) (L := some ((-9 + (j : Int)), (-9 + (j_1 : Int)))) (R := some ((-9 + (j : Int)), (-9 + (j_1 : Int)))) (okU_yes (by unfold mA; first | rw [if_pos (show k = 5 by assumption)] | rw [if_neg (show ¬ k = 5 by assumption)]) lo1 (by assumption) (by assumption) hs1 (by assumption)) (.inl ⟨lsU_t lo2 hs2 (by assumption), rfl⟩) (.inl ⟨⟨vpos (by unfold mA; first | rw [if_pos (show k = 5 by assumption)] | rw [if_neg (show ¬ k = 5 by assumption)]) hs3 (by assumption), lsU_t lo3 hs4 (by assumption)⟩, rfl⟩)] at hb2; exact hb2), rfl, rfl⟩
              | exact ⟨_, _, _, _, (some ((-9 + (j : Int)), (-9 + (j_1 : Int))), some (r1, r2)), (by rw [rowU, ← hs]; exact (st_is (s := (some (p1, p2), some (r1, r2))) (L := some ((-9 + (j : Int)), (-9 + (j_1 : Int)))) (R := some (r1, r2)) (okU_yes (by unfold mA; first | rw [if_pos (show k = 5 by assumption)] | rw [if_neg (show ¬ k = 5 by assumption)]) lo1 (by assumption) (by assumption) hs1 (by assumption)) (.inl ⟨lsU_t lo2 hs2 (by assumption), rfl⟩) (.inr ⟨fun z => lsU_f lo3 hs4 (by assumption) z.2, rfl⟩)).symm), (by have hb2 := hbu.st (k := k) hX hY; rw [st_is (s := (some (p1, p2), some (r1, r2))) (L := some ((-9 + (j : Int)), (-9 + (j_1 : Int)))) (R := some (r1, r2)) (okU_yes (by unfold mA; first | rw [if_pos (show k = 5 by assumption)] | rw [if_neg (show ¬ k = 5 by assumption)]) lo1 (by assumption) (by assumption) hs1 (by assumption)) (.inl ⟨lsU_t lo2 hs2 (by assumption), rfl⟩) (.inr ⟨fun z => lsU_f lo3 hs4 (by assumption) z.2, rfl⟩)] at hb2; exact hb2), rfl, rfl⟩
              | exact ⟨_, _, _, _, (some (p1, p2), some (r1, r2)), (by rw [rowU, ← hs]; exact (st_is (s := (some (p1, p2), some (r1, r2))) (L := some (p1, p2)) (R := some (r1, r2)) (okU_yes (by unfold mA; first | rw [if_pos (show k = 5 by assumption)] | rw [if_neg (show ¬ k = 5 by assumption)]) lo1 (by assumption) (by assumption) hs1 (by assumption)) (.inr ⟨lsU_f lo2 hs2 (by assumption), rfl⟩) (.inr ⟨fun z => vneg (by unfold mA; first | rw [if_pos (show k = 5 by assumption)] | rw [if_neg (show ¬ k = 5 by assumption)]) hs3 (by assumption) z.1, rfl⟩)).symm), (by have hb2 := hbu.st (k := k) hX hY; rw [st_is (s := (some (p1, p2), some (r1, r2))) (L := some (p1, p2)) (R := some (r1, r2)) (okU_yes (by unfold mA; first | rw [if_pos (show k = 5 by assumption)] | rw [if_neg (show ¬ k = 5 by assumption)]) lo1 (by assumption) (by assumption) hs1 (by assumption)) (.inr ⟨lsU_f lo2 hs2 (by assumption), rfl⟩) (.inr ⟨fun z => vneg (by unfold mA; first | rw [if_pos (show k = 5 by assumption)] | rw [if_neg (show ¬ k = 5 by assumption)]) hs3 (by assumption) z.1, rfl⟩)] at hb2; exact hb2), rfl, rfl⟩
              | exact ⟨_, _, _, _, (some (p1, p2), some ((-9 + (j : Int)), (-9 + (j_1 : Int)))), (by rw [rowU, ← hs]; exact (st_is (s := (some (p1, p2), some (r1, r2))) (L := some (p1, p2)) (R := some ((-9 + (j : Int)), (-9 + (j_1 : Int)))) (okU_yes (by unfold mA; first | rw [if_pos (show k = 5 by assumption)] | rw [if_neg (show ¬ k = 5 by assumption)]) lo1 (by assumption) (by assumption) hs1 (by assumption)) (.inr ⟨lsU_f lo2 hs2 (by assumption), rfl⟩) (.inl ⟨⟨vpos (by unfold mA; first | rw [if_pos (show k = 5 by assumption)] | rw [if_neg (show ¬ k = 5 by assumption)]) hs3 (by assumption), lsU_t lo3 hs4 (by assumption)⟩, rfl⟩)).symm), (by have hb2 := hbu.st (k := k) hX hY; rw [st_is (s := (some (p1, p2), some (r1, r2))) (L := some (p1, p2)) (R := some ((-9 + (j : Int)), (-9 + (j_1 : Int)))) (okU_yes (by unfold mA; first | rw [if_pos (show k = 5 by assumption)] | rw [if_neg (show ¬ k = 5 by assumption)]) lo1 (by assumption) (by assumption) hs1 (by assumption)) (.inr ⟨lsU_f lo2 hs2 (by assumption), rfl⟩) (.inl ⟨⟨vpos (by unfold mA; first | rw [if_pos (show k = 5 by assumption)] | rw [if_neg (show ¬ k = 5 by assumption)]) hs3 (by assumption), lsU_t lo3 hs4 (by assumption)⟩, rfl⟩)] at hb2; exact hb2), rfl, rfl⟩
              | exact ⟨_, _, _, _, (some (p1, p2), some (r1, r2)), (by rw [rowU, ← hs]; exact (st_is (s := (some (p1, p2), some (r1, r2))) (L := some (p1, p2)) (R := some (r1, r2)) (okU_yes (by unfold mA; first | rw [if_pos (show k = 5 by assumption)] | rw [if_neg (show ¬ k = 5 by assumption)]) lo1 (by assumption) (by assumption) hs1 (by assumption)) (.inr ⟨lsU_f lo2 hs2 (by assumption), rfl⟩) (.inr ⟨fun z => lsU_f lo3 hs4 (by assumption) z.2, rfl⟩)).symm), (by have hb2 := hbu.st (k := k) hX hY; rw [st_is (s := (some (p1, p2), some (r1, r2))) (L := some (p1, p2)) (R := some (r1, r2)) (okU_yes (by unfold mA; first | rw [if_pos (show k = 5 by assumption)] | rw [if_neg (show ¬ k = 5 by assumption)]) lo1 (by assumption) (by assumption) hs1 (by assumption)) (.inr ⟨lsU_f lo2 hs2 (by assumption), rfl⟩) (.inr ⟨fun z => lsU_f lo3 hs4 (by assumption) z.2, rfl⟩)] at hb2; exact hb2), rfl, rfl⟩
              | exact ⟨_, _, _, _, (some (p1, p2), some (r1, r2)), (by rw [rowU, ← hs]; exact (st_no (s := (some (p1, p2), some (r1, r2))) (okU_no1 (by unfold mA; first | rw [if_pos (show k = 5 by assumption)] | rw [if_neg (show ¬ k = 5 by assumption)]) lo1 (by assumption))).symm), (by have hb2 := hbu.st (k := k) hX hY; rw [st_no (s := (some (p1, p2), some (r1, r2))) (okU_no1 (by unfold mA; first | rw [if_pos (show k = 5 by assumption)] | rw [if_neg (show ¬ k = 5 by assumption)]) lo1 (by assumption))] at hb2; exact hb2), rfl, rfl⟩
              | exact ⟨_, _, _, _, (some (p1, p2), some (r1, r2)), (by rw [rowU, ← hs]; exact (st_no (s := (some (p1, p2), some (r1, r2))) (okU_no2 (by unfold mA; first | rw [if_pos (show k = 5 by assumption)] | rw [if_neg (show ¬ k = 5 by assumption)]) lo1 (by assumption))).symm), (by have hb2 := hbu.st (k := k) hX hY; rw [st_no (s := (some (p1, p2), some (r1, r2))) (okU_no2 (by unfold mA; first | rw [if_pos (show k = 5 by assumption)] | rw [if_neg (show ¬ k = 5 by assumption)]) lo1 (by assumption))] at hb2; exact hb2), rfl, rfl⟩
              | exact ⟨_, _, _, _, (some (p1, p2), some (r1, r2)), (by rw [rowU, ← hs]; exact (st_no (s := (some (p1, p2), some (r1, r2))) (okU_no3 hs1 (by assumption))).symm), (by have hb2 := hbu.st (k := k) hX hY; rw [st_no (s := (some (p1, p2), some (r1, r2))) (okU_no3 hs1 (by assumption))] at hb2; exact hb2), rfl, rfl⟩
          case h117 =>
            first
              | exact ⟨_, _, _, _, (some ((-9 + (j : Int)), (-9 + (j_1 : Int))), some (r1, r2)), (by rw [rowU, ← hs]; exact (st_is (s := (some (p1, p2), some (r1, r2))) (L := some ((-9 + (j : Int)), (-9 + (j_1 : Int)))) (R := some (r1, r2)) (okU_yes (by unfold mA; first | rw [if_pos (show k = 5 by assumption)] | rw [if_neg (show ¬ k = 5 by assumption)]) lo1 (by assumption) (by assumption) hs1 (by assumption)) (.inl ⟨lsU_t lo2 hs2 (by assumption), rfl⟩) (.inr ⟨fun z => vneg (by unfold mA; first | rw [if_pos (show k = 5 by assumption)] | rw [if_neg (show ¬ k = 5 by assumption)]) hs3 (by assumption) z.1, rfl⟩)).symm), (by have hb2 := hbu.st (k := k) hX hY; rw [st_is (s := (some (p1, p2), some (r1, r2))) (L := some ((-9 + (j : Int)), (-9 + (j_1 : Int)))) (R := some (r1, r2)) (okU_yes (by unfold mA; first | rw [if_pos (show k = 5 by assumption)] | rw [if_neg (show ¬ k = 5 by assumption)]) lo1 (by assumption) (by assumption) hs1 (by assumption)) (.inl ⟨lsU_t lo2 hs2 (by assumption), rfl⟩) (.inr ⟨fun z => vneg (by unfold mA; first | rw [if_pos (show k = 5 by assumption)] | rw [if_neg (show ¬ k = 5 by assumption)]) hs3 (by assumption) z.1, rfl⟩)] at hb2; exact hb2), rfl, rfl⟩
              | exact ⟨_, _, _, _, (some ((-9 + (j : Int)), (-9 + (j_1 : Int))), some ((-9 + (j : Int)), (-9 + (j_1 : Int)))), (by rw [rowU, ← hs]; exact (st_is (s := (some (p1, p2), some (r1, r2))) (L := some ((-9 + (j : Int)), (-9 + (j_1 : Int)))) (R := some ((-9 + (j : Int)), (-9 + (j_1 : Int)))) (okU_yes (by unfold mA; first | rw [if_pos (show k = 5 by assumption)] | rw [if_neg (show ¬ k = 5 by assumption)]) lo1 (by assumption) (by assumption) hs1 (by assumption)) (.inl ⟨lsU_t lo2 hs2 (by assumption), rfl⟩) (.inl ⟨⟨vpos (by unfold mA; first | rw [if_pos (show k = 5 by assumption)] | rw [if_neg (show ¬ k = 5 by assumption)]) hs3 (by assumption), lsU_t lo3 hs4 (by assumption)⟩, rfl⟩)).symm), (by have hb2 := hbu.st (k := k) hX hY; rw [st_is (s := (some (p1, p2), some (r1, r2))) (L := some ((-9 + (j : Int)), (-9 + (j_1 : Int)))) (R := some ((-9 + (j : Int)), (-9 + (j_1 : Int)))) (okU_yes (by unfold mA; first | rw [if_pos (show k = 5 by assumption)] | rw [if_neg (show ¬ k = 5 by assumption)]) lo1 (by assumption) (by assumption) hs1 (by assumption)) (.inl ⟨lsU_t lo2 hs2 (by assumption), rfl⟩) (.inl ⟨⟨vpos (by unfold mA; first | rw [if_pos (show k = 5 by assumption)] | rw [if_neg (show ¬ k = 5 by assumption)]) hs3 (by assumption), lsU_t lo3 hs4 (by assumption)⟩, rfl⟩)] at hb2; exact hb2), rfl, rfl⟩
              | exact ⟨_, _, _, _, (some ((-9 + (j : Int)), (-9 + (j_1 : Int))), some (r1, r2)), (by rw [rowU, ← hs]; exact (st_is (s := (some (p1, p2), some (r1, r2))) (L := some ((-9 + (j : Int)), (-9 + (j_1 : Int)))) (R := some (r1, r2)) (okU_yes (by unfold mA; first | rw [if_pos (show k = 5 by assumption)] | rw [if_neg (show ¬ k = 5 by assumption)]) lo1 (by assumption) (by assumption) hs1 (by assumption)) (.inl ⟨lsU_t lo2 hs2 (by assumption), rfl⟩) (.inr ⟨fun z => lsU_f lo3 hs4 (by assumption) z.2, rfl⟩)).symm), (by have hb2 := hbu.st (k := k) hX hY; rw [st_is (s := (some (p1, p2), some (r1, r2))) (L := some ((-9 + (j : Int)), (-9 + (j_1 : Int)))) (R := some (r1, r2)) (okU_yes (by unfold mA; first | rw [if_pos (show k = 5 by assumption)] | rw [if_neg (show ¬ k = 5 by assumption)]) lo1 (by assumption) (by assumption) hs1 (by assumption)) (.inl ⟨lsU_t lo2 hs2 (by assumption), rfl⟩) (.inr ⟨fun z => lsU_f lo3 hs4 (by assumption) z.2, rfl⟩)] at hb2; exact hb2), rfl, rfl⟩
              | exact ⟨_, _, _, _, (some (p1, p2), some (r1, r2)), (by rw [rowU, ← hs]; exact (st_is (s := (some (p1, p2), some (r1, r2))) (L := some (p1, p2)) (R := some (r1, r2)) (okU_yes (by unfold mA; first | rw [if_pos (show k = 5 by assumption)] | rw [if_neg (show ¬ k = 5 by assumption)]) lo1 (by assumption) (by assumption) hs1 (by assumption)) (.inr ⟨lsU_f lo2 hs2 (by assumption), rfl⟩) (.inr ⟨fun z => vneg (by unfold mA; first | rw [if_pos (show k = 5 by assumption)] | rw [if_neg (show ¬ k = 5 by assumption)]) hs3 (by assumption) z.1, rfl⟩)).symm), (by have hb2 := hbu.st (k := k) hX hY; rw [st_is (s := (some (p1, p2), some (r1, r2))) (L := some (p1, p2)) (R := some (r1, r2)) (okU_yes (by unfold mA; first | rw [if_pos (show k = 5 by assumption)] | rw [if_neg (show ¬ k = 5 by assumption)]) lo1 (by assumption) (by assumption) hs1 (by assumption)) (.inr ⟨lsU_f lo2 hs2 (by assumption), rfl⟩) (.inr ⟨fun z => vneg (by unfold mA; first | rw [if_pos (show k = 5 by assumption)] | rw [if_neg (show ¬ k = 5 by assumption)]) hs3 (by assumption) z.1, rfl⟩)] at hb2; exact hb2), rfl, rfl⟩
              | exact ⟨_, _, _, _, (some (p1, p2), some ((-9 + (j : Int)), (-9 + (j_1 : Int)))), (by rw [rowU, ← hs]; exact (st_is (s := (some (p1, p2), some (r1, r2))) (L := some (p1, p2)) (R := some ((-9 + (j : Int)), (-9 + (j_1 : Int)))) (okU_yes (by unfold mA; first | rw [if_pos (show k = 5 by assumption)] | rw [if_neg (show ¬ k = 5 by assumption)]) lo1 (by assumption) (by assumption) hs1 (by assumption)) (.inr ⟨lsU_f lo2 hs2 (by assumption), rfl⟩) (.inl ⟨⟨vpos (by unfold mA; first | rw [if_pos (show k = 5 by assumption)] | rw [if_neg (show ¬ k = 5 by assumption)]) hs3 (by assumption), lsU_t lo3 hs4 (by assumption)⟩, rfl⟩)).symm), (by have hb2 := hbu.st (k := k) hX hY; rw [st_is (s := (some (p1, p2), some (r1, r2))) (L := some (p1, p2)) (R := some ((-9 + (j : Int)), (-9 + (j_1 : Int)))) (okU_yes (by unfold mA; first | rw [if_pos (show k = 5 by assumption)] | rw [if_neg (show ¬ k = 5 by assumption)]) lo1 (by assumption) (by assumption) hs1 (by assumption)) (.inr ⟨lsU_f lo2 hs2 (by assumption), rfl⟩) (.inl ⟨⟨vpos (by unfold mA; first | rw [if_pos (show k = 5 by assumption)] | rw [if_neg (show ¬ k = 5 by assumption)]) hs3 (by assumption), lsU_t lo3 hs4 (by assumption)⟩, rfl⟩)] at hb2; exact hb2), rfl, rfl⟩
              | exact ⟨_, _, _, _, (some (p1, p2), some (r1, r2)), (by rw [rowU, ← hs]; exact (st_is (s := (some (p1, p2), some (r1, r2))) (L := some (p1, p2)) (R := some (r1, r2)) (okU_yes (by unfold mA; first | rw [if_pos (show k = 5 by assumption)] | rw [if_neg (show ¬ k = 5 by assumption)]) lo1 (by assumption) (by assumption) hs1 (by assumption)) (.inr ⟨lsU_f lo2 hs2 (by assumption), rfl⟩) (.inr ⟨fun z => lsU_f lo3 hs4 (by assumption) z.2, rfl⟩)).symm), (by have hb2 := hbu.st (k := k) hX hY; rw [st_is (s := (some (p1, p2), some (r1, r2))) (L := some (p1, p2)) (R := some (r1, r2)) (okU_yes (by unfold mA; first | rw [if_pos (show k = 5 by assumption)] | rw [if_neg (show ¬ k = 5 by assumption)]) lo1 (by assumption) (by assumption) hs1 (by assumption)) (.inr ⟨lsU_f lo2 hs2 (by assumption), rfl⟩) (.inr ⟨fun z => lsU_f lo3 hs4 (by assumption) z.2, rfl⟩)] at hb2; exact hb2), rfl, rfl⟩
              | exact ⟨_, _, _, _, (some (p1, p2), some (r1, r2)), (by rw [rowU, ← hs]; exact (st_no (s := (some (p1, p2), some (r1, r2))) (okU_no1 (by unfold mA; first | rw [if_pos (show k = 5 by assumption)] | rw [if_neg (show ¬ k = 5 by assumption)]) lo1 (by assumption))).symm), (by have hb2 := hbu.st (k := k) hX hY; rw [st_no (s := (some (p1, p2), some (r1, r2))) (okU_no1 (by unfold mA; first | rw [if_pos (show k = 5 by assumption)] | rw [if_neg (show ¬ k = 5 by assumption)]) lo1 (by assumption))] at hb2; exact hb2), rfl, rfl⟩
              | exact ⟨_, _, _, _, (some (p1, p2), some (r1, r2)), (by rw [rowU, ← hs]; exact (st_no (s := (some (p1, p2), some (r1, r2))) (okU_no2 (by unfold mA; first | rw [if_pos (show k = 5 by assumption)] | rw [if_neg (show ¬ k = 5 by assumption)]) lo1 (by assumption))).symm), (by have hb2 := hbu.st (k := k) hX hY; rw [st_no (s := (some (p1, p2), some (r1, r2))) (okU_no2 (by unfold mA; first | rw [if_pos (show k = 5 by assumption)] | rw [if_neg (show ¬ k = 5 by assumption)]) lo1 (by assumption))] at hb2; exact hb2), rfl, rfl⟩
              | exact ⟨_, _, _, _, (some (p1, p2), some (r1, r2)), (by rw [rowU, ← hs]; exact (st_no (s := (some (p1, p2), some (r1, r2))) (okU_no3 hs1 (by assumption))).symm), (by have hb2 := hbu.st (k := k) hX hY; rw [st_no (s := (some (p1, p2), some (r1, r2))) (okU_no3 hs1 (by assumption))] at hb2; exact hb2), rfl, rfl⟩
          case h118 =>
            exact sc__law_units.nd
          case h119 =>
            exact ⟨hk, by decide, by decide, bd_s (by omega) (by decide), bd_s (by omega) (by decide), bd_s (by decide) (by decide), bd_s (by omega) (by decide), bd_s (by omega) (by decide), bd_s (by decide) (by decide), by decide⟩
          case h120 =>
            first | exact ⟨hk, bd_s (by omega) (by decide), bd_s (by omega) (by decide)⟩ | exact ⟨hk, hx2.mono (by decide), hy2.mono (by decide)⟩ | exact ⟨hk, hx3.mono (by decide), hy3.mono (by decide)⟩
          case h121 =>
            first | exact ⟨by decide, by decide, bd_s (by omega) (by decide), bd_s (by omega) (by decide), bd_s (by decide) (by decide), (hbu.1 _ rfl).1, (hbu.1 _ rfl).2, bd_s (by decide) (by decide), by decide⟩ | exact ⟨by decide, by decide, bd_s (by omega) (by decide), bd_s (by omega) (by decide), bd_s (by decide) (by decide), (hbu.2 _ rfl).1, (hbu.2 _ rfl).2, bd_s (by decide) (by decide), by decide⟩
          case h122 =>
            first | exact ⟨hk, bd_s (by omega) (by decide), bd_s (by omega) (by decide)⟩ | exact ⟨hk, hx2.mono (by decide), hy2.mono (by decide)⟩ | exact ⟨hk, hx3.mono (by decide), hy3.mono (by decide)⟩
          case h123 =>
            exact sc__law_units.nd
          case h124 =>
            first | exact ⟨hk, bd_s (by omega) (by decide), bd_s (by omega) (by decide)⟩ | exact ⟨hk, hx2.mono (by decide), hy2.mono (by decide)⟩ | exact ⟨hk, hx3.mono (by decide), hy3.mono (by decide)⟩
          case h125 =>
            first | exact ⟨by decide, by decide, bd_s (by omega) (by decide), bd_s (by omega) (by decide), bd_s (by decide) (by decide), (hbu.1 _ rfl).1, (hbu.1 _ rfl).2, bd_s (by decide) (by decide), by decide⟩ | exact ⟨by decide, by decide, bd_s (by omega) (by decide), bd_s (by omega) (by decide), bd_s (by decide) (by decide), (hbu.2 _ rfl).1, (hbu.2 _ rfl).2, bd_s (by decide) (by decide), by decide⟩
          case h126 =>
            first | exact ⟨hk, bd_s (by omega) (by decide), bd_s (by omega) (by decide)⟩ | exact ⟨hk, hx2.mono (by decide), hy2.mono (by decide)⟩ | exact ⟨hk, hx3.mono (by decide), hy3.mono (by decide)⟩
          case h127 =>
            exact sc__law_units.nd
          case h128 =>
            first
              | exact ⟨_, _, _, _, (some ((-9 + (j : Int)), (-9 + (j_1 : Int))), some (r1, r2)), (by rw [rowU, ← hs]; exact (st_is (s := (some (p1, p2), some (r1, r2))) (L := some ((-9 + (j : Int)), (-9 + (j_1 : Int)))) (R := some (r1, r2)) (okU_yes (by unfold mA; first | rw [if_pos (show k = 5 by assumption)] | rw [if_neg (show ¬ k = 5 by assumption)]) lo1 (by assumption) (by assumption) hs1 (by assumption)) (.inl ⟨lsU_t lo2 hs2 (by assumption), rfl⟩) (.inr ⟨fun z => vneg (by unfold mA; first | rw [if_pos (show k = 5 by assumption)] | rw [if_neg (show ¬ k = 5 by assumption)]) hs3 (by assumption) z.1, rfl⟩)).symm), (by have hb2 := hbu.st (k := k) hX hY; rw [st_is (s := (some (p1, p2), some (r1, r2))) (L := some ((-9 + (j : Int)), (-9 + (j_1 : Int)))) (R := some (r1, r2)) (okU_yes (by unfold mA; first | rw [if_pos (show k = 5 by assumption)] | rw [if_neg (show ¬ k = 5 by assumption)]) lo1 (by assumption) (by assumption) hs1 (by assumption)) (.inl ⟨lsU_t lo2 hs2 (by assumption), rfl⟩) (.inr ⟨fun z => vneg (by unfold mA; first | rw [if_pos (show k = 5 by assumption)] | rw [if_neg (show ¬ k = 5 by assumption)]) hs3 (by assumption) z.1, rfl⟩)] at hb2; exact hb2), rfl, rfl⟩
              | exact ⟨_, _, _, _, (some ((-9 + (j : Int)), (-9 + (j_1 : Int))), some ((-9 + (j : Int)), (-9 + (j_1 : Int)))), (by rw [rowU, ← hs]; exact (st_is (s := (some (p1, p2), some (r1, r2))) (L := some ((-9 + (j : Int)), (-9 + (j_1 : Int)))) (R := some ((-9 + (j : Int)), (-9 + (j_1 : Int)))) (okU_yes (by unfold mA; first | rw [if_pos (show k = 5 by assumption)] | rw [if_neg (show ¬ k = 5 by assumption)]) lo1 (by assumption) (by assumption) hs1 (by assumption)) (.inl ⟨lsU_t lo2 hs2 (by assumption), rfl⟩) (.inl ⟨⟨vpos (by unfold mA; first | rw [if_pos (show k = 5 by assumption)] | rw [if_neg (show ¬ k = 5 by assumption)]) hs3 (by assumption), lsU_t lo3 hs4 (by assumption)⟩, rfl⟩)).symm), (by have hb2 := hbu.st (k := k) hX hY; rw [st_is (s := (some (p1, p2), some (r1, r2))) (L := some ((-9 + (j : Int)), (-9 + (j_1 : Int)))) (R := some ((-9 + (j : Int)), (-9 + (j_1 : Int)))) (okU_yes (by unfold mA; first | rw [if_pos (show k = 5 by assumption)] | rw [if_neg (show ¬ k = 5 by assumption)]) lo1 (by assumption) (by assumption) hs1 (by assumption)) (.inl ⟨lsU_t lo2 hs2 (by assumption), rfl⟩) (.inl ⟨⟨vpos (by unfold mA; first | rw [if_pos (show k = 5 by assumption)] | rw [if_neg (show ¬ k = 5 by assumption)]) hs3 (by assumption), lsU_t lo3 hs4 (by assumption)⟩, rfl⟩)] at hb2; exact hb2), rfl, rfl⟩
              | exact ⟨_, _, _, _, (some ((-9 + (j : Int)), (-9 + (j_1 : Int))), some (r1, r2)), (by rw [rowU, ← hs]; exact (st_is (s := (some (p1, p2), some (r1, r2))) (L := some ((-9 + (j : Int)), (-9 + (j_1 : Int)))) (R := some (r1, r2)) (okU_yes (by unfold mA; first | rw [if_pos (show k = 5 by assumption)] | rw [if_neg (show ¬ k = 5 by assumption)]) lo1 (by assumption) (by assumption) hs1 (by assumption)) (.inl ⟨lsU_t lo2 hs2 (by assumption), rfl⟩) (.inr ⟨fun z => lsU_f lo3 hs4 (by assumption) z.2, rfl⟩)).symm), (by have hb2 := hbu.st (k := k) hX hY; rw [st_is (s := (some (p1, p2), some (r1, r2))) (L := some ((-9 + (j : Int)), (-9 + (j_1 : Int)))) (R := some (r1, r2)) (okU_yes (by unfold mA; first | rw [if_pos (show k = 5 by assumption)] | rw [if_neg (show ¬ k = 5 by assumption)]) lo1 (by assumption) (by assumption) hs1 (by assumption)) (.inl ⟨lsU_t lo2 hs2 (by assumption), rfl⟩) (.inr ⟨fun z => lsU_f lo3 hs4 (by assumption) z.2, rfl⟩)] at hb2; exact hb2), rfl, rfl⟩
              | exact ⟨_, _, _, _, (some (p1, p2), some (r1, r2)), (by rw [rowU, ← hs]; exact (st_is (s := (some (p1, p2), some (r1, r2))) (L := some (p1, p2)) (R := some (r1, r2)) (okU_yes (by unfold mA; first | rw [if_pos (show k = 5 by assumption)] | rw [if_neg (show ¬ k = 5 by assumption)]) lo1 (by assumption) (by assumption) hs1 (by assumption)) (.inr ⟨lsU_f lo2 hs2 (by assumption), rfl⟩) (.inr ⟨fun z => vneg (by unfold mA; first | rw [if_pos (show k = 5 by assumption)] | rw [if_neg (show ¬ k = 5 by assumption)]) hs3 (by assumption) z.1, rfl⟩)).symm), (by have hb2 := hbu.st (k := k) hX hY; rw [st_is (s := (some (p1, p2), some (r1, r2))) (L := some (p1, p2)) (R := some (r1, r2)) (okU_yes (by unfold mA; first | rw [if_pos (show k = 5 by assumption)] | rw [if_neg (show ¬ k = 5 by assumption)]) lo1 (by assumption) (by assumption) hs1 (by assumption)) (.inr ⟨lsU_f lo2 hs2 (by assumption), rfl⟩) (.inr ⟨fun z => vneg (by unfold mA; first | rw [if_pos (show k = 5 by assumption)] | rw [if_neg (show ¬ k = 5 by assumption)]) hs3 (by assumption) z.1, rfl⟩)] at hb2; exact hb2), rfl, rfl⟩
              | exact ⟨_, _, _, _, (some (p1, p2), some ((-9 + (j : Int)), (-9 + (j_1 : Int)))), (by rw [rowU, ← hs]; exact (st_is (s := (some (p1, p2), some (r1, r2))) (L := some (p1, p2)) (R := some ((-9 + (j : Int)), (-9 + (j_1 : Int)))) (okU_yes (by unfold mA; first | rw [if_pos (show k = 5 by assumption)] | rw [if_neg (show ¬ k = 5 by assumption)]) lo1 (by assumption) (by assumption) hs1 (by assumption)) (.inr ⟨lsU_f lo2 hs2 (by assumption), rfl⟩) (.inl ⟨⟨vpos (by unfold mA; first | rw [if_pos (show k = 5 by assumption)] | rw [if_neg (show ¬ k = 5 by assumption)]) hs3 (by assumption), lsU_t lo3 hs4 (by assumption)⟩, rfl⟩)).symm), (by have hb2 := hbu.st (k := k) hX hY; rw [st_is (s := (some (p1, p2), some (r1, r2))) (L := some (p1, p2)) (R := some ((-9 + (j : Int)), (-9 + (j_1 : Int)))) (okU_yes (by unfold mA; first | rw [if_pos (show k = 5 by assumption)] | rw [if_neg (show ¬ k = 5 by assumption)]) lo1 (by assumption) (by assumption) hs1 (by assumption)) (.inr ⟨lsU_f lo2 hs2 (by assumption), rfl⟩) (.inl ⟨⟨vpos (by unfold mA; first | rw [if_pos (show k = 5 by assumption)] | rw [if_neg (show ¬ k = 5 by assumption)]) hs3 (by assumption), lsU_t lo3 hs4 (by assumption)⟩, rfl⟩)] at hb2; exact hb2), rfl, rfl⟩
              | exact ⟨_, _, _, _, (some (p1, p2), some (r1, r2)), (by rw [rowU, ← hs]; exact (st_is (s := (some (p1, p2), some (r1, r2))) (L := some (p1, p2)) (R := some (r1, r2)) (okU_yes (by unfold mA; first | rw [if_pos (show k = 5 by assumption)] | rw [if_neg (show ¬ k = 5 by assumption)]) lo1 (by assumption) (by assumption) hs1 (by assumption)) (.inr ⟨lsU_f lo2 hs2 (by assumption), rfl⟩) (.inr ⟨fun z => lsU_f lo3 hs4 (by assumption) z.2, rfl⟩)).symm), (by have hb2 := hbu.st (k := k) hX hY; rw [st_is (s := (some (p1, p2), some (r1, r2))) (L := some (p1, p2)) (R := some (r1, r2)) (okU_yes (by unfold mA; first | rw [if_pos (show k = 5 by assumption)] | rw [if_neg (show ¬ k = 5 by assumption)]) lo1 (by assumption) (by assumption) hs1 (by assumption)) (.inr ⟨lsU_f lo2 hs2 (by assumption), rfl⟩) (.inr ⟨fun z => lsU_f lo3 hs4 (by assumption) z.2, rfl⟩)] at hb2; exact hb2), rfl, rfl⟩
              | exact ⟨_, _, _, _, (some (p1, p2), some (r1, r2)), (by rw [rowU, ← hs]; exact (st_no (s := (some (p1, p2), some (r1, r2))) (okU_no1 (by unfold mA; first | rw [if_pos (show k = 5 by assumption)] | rw [if_neg (show ¬ k = 5 by assumption)]) lo1 (by assumption))).symm), (by have hb2 := hbu.st (k := k) hX hY; rw [st_no (s := (some (p1, p2), some (r1, r2))) (okU_no1 (by unfold mA; first | rw [if_pos (show k = 5 by assumption)] | rw [if_neg (show ¬ k = 5 by assumption)]) lo1 (by assumption))] at hb2; exact hb2), rfl, rfl⟩
              | exact ⟨_, _, _, _, (some (p1, p2), some (r1, r2)), (by rw [rowU, ← hs]; exact (st_no (s := (some (p1, p2), some (r1, r2))) (okU_no2 (by unfold mA; first | rw [if_pos (show k = 5 by assumption)] | rw [if_neg (show ¬ k = 5 by assumption)]) lo1 (by assumption))).symm), (by have hb2 := hbu.st (k := k) hX hY; rw [st_no (s := (some (p1, p2), some (r1, r2))) (okU_no2 (by unfold mA; first | rw [if_pos (show k = 5 by assumption)] | rw [if_neg (show ¬ k = 5 by assumption)]) lo1 (by assumption))] at hb2; exact hb2), rfl, rfl⟩
              | exact ⟨_, _, _, _, (some (p1, p2), some (r1, r2)), (by rw [rowU, ← hs]; exact (st_no (s := (some (p1, p2), some (r1, r2))) (okU_no3 hs1 (by assumption))).symm), (by have hb2 := hbu.st (k := k) hX hY; rw [st_no (s := (some (p1, p2), some (r1, r2))) (okU_no3 hs1 (by assumption))] at hb2; exact hb2), rfl, rfl⟩
          case h129 =>
            first
              | exact ⟨_, _, _, _, (some ((-9 + (j : Int)), (-9 + (j_1 : Int))), some (r1, r2)), (by rw [rowU, ← hs]; exact (st_is (s := (some (p1, p2), some (r1, r2))) (L := some ((-9 + (j : Int)), (-9 + (j_1 : Int)))) (R := some (r1, r2)) (okU_yes (by unfold mA; first | rw [if_pos (show k = 5 by assumption)] | rw [if_neg (show ¬ k = 5 by assumption)]) lo1 (by assumption) (by assumption) hs1 (by assumption)) (.inl ⟨lsU_t lo2 hs2 (by assumption), rfl⟩) (.inr ⟨fun z => vneg (by unfold mA; first | rw [if_pos (show k = 5 by assumption)] | rw [if_neg (show ¬ k = 5 by assumption)]) hs3 (by assumption) z.1, rfl⟩)).symm), (by have hb2 := hbu.st (k := k) hX hY; rw [st_is (s := (some (p1, p2), some (r1, r2))) (L := some ((-9 + (j : Int)), (-9 + (j_1 : Int)))) (R := some (r1, r2)) (okU_yes (by unfold mA; first | rw [if_pos (show k = 5 by assumption)] | rw [if_neg (show ¬ k = 5 by assumption)]) lo1 (by assumption) (by assumption) hs1 (by assumption)) (.inl ⟨lsU_t lo2 hs2 (by assumption), rfl⟩) (.inr ⟨fun z => vneg (by unfold mA; first | rw [if_pos (show k = 5 by assumption)] | rw [if_neg (show ¬ k = 5 by assumption)]) hs3 (by assumption) z.1, rfl⟩)] at hb2; exact hb2), rfl, rfl⟩
              | exact ⟨_, _, _, _, (some ((-9 + (j : Int)), (-9 + (j_1 : Int))), some ((-9 + (j : Int)), (-9 + (j_1 : Int)))), (by rw [rowU, ← hs]; exact (st_is (s := (some (p1, p2), some (r1, r2))) (L := some ((-9 + (j : Int)), (-9 + (j_1 : Int)))) (R := some ((-9 + (j : Int)), (-9 + (j_1 : Int)))) (okU_yes (by unfold mA; first | rw [if_pos (show k = 5 by assumption)] | rw [if_neg (show ¬ k = 5 by assumption)]) lo1 (by assumption) (by assumption) hs1 (by assumption)) (.inl ⟨lsU_t lo2 hs2 (by assumption), rfl⟩) (.inl ⟨⟨vpos (by unfold mA; first | rw [if_pos (show k = 5 by assumption)] | rw [if_neg (show ¬ k = 5 by assumption)]) hs3 (by assumption), lsU_t lo3 hs4 (by assumption)⟩, rfl⟩)).symm), (by have hb2 := hbu.st (k := k) hX hY; rw [st_is (s := (some (p1, p2), some (r1, r2))) (L := some ((-9 + (j : Int)), (-9 + (j_1 : Int)))) (R := some ((-9 + (j : Int)), (-9 + (j_1 : Int)))) (okU_yes (by unfold mA; first | rw [if_pos (show k = 5 by assumption)] | rw [if_neg (show ¬ k = 5 by assumption)]) lo1 (by assumption) (by assumption) hs1 (by assumption)) (.inl ⟨lsU_t lo2 hs2 (by assumption), rfl⟩) (.inl ⟨⟨vpos (by unfold mA; first | rw [if_pos (show k = 5 by assumption)] | rw [if_neg (show ¬ k = 5 by assumption)]) hs3 (by assumption), lsU_t lo3 hs4 (by assumption)⟩, rfl⟩)] at hb2; exact hb2), rfl, rfl⟩
              | exact ⟨_, _, _, _, (some ((-9 + (j : Int)), (-9 + (j_1 : Int))), some (r1, r2)), (by rw [rowU, ← hs]; exact (st_is (s := (some (p1, p2), some (r1, r2))) (L := some ((-9 + (j : Int)), (-9 + (j_1 : Int)))) (R := some (r1, r2)) (okU_yes (by unfold mA; first | rw [if_pos (show k = 5 by assumption)] | rw [if_neg (show ¬ k = 5 by assumption)]) lo1 (by assumption) (by assumption) hs1 (by assumption)) (.inl ⟨lsU_t lo2 hs2 (by assumption), rfl⟩) (.inr ⟨fun z => lsU_f lo3 hs4 (by assumption) z.2, rfl⟩)).symm), (by have hb2 := hbu.st (k := k) hX hY; rw [st_is (s := (some (p1, p2), some (r1, r2))) (L := some ((-9 + (j : Int)), (-9 + (j_1 : Int)))) (R := some (r1, r2)) (okU_yes (by unfold mA; first | rw [if_pos (show k = 5 by assumption)] | rw [if_neg (show ¬ k = 5 by assumption)]) lo1 (by assumption) (by assumption) hs1 (by assumption)) (.inl ⟨lsU_t lo2 hs2 (by assumption), rfl⟩) (.inr ⟨fun z => lsU_f lo3 hs4 (by assumption) z.2, rfl⟩)] at hb2; exact hb2), rfl, rfl⟩
              | exact ⟨_, _, _, _, (some (p1, p2), some (r1, r2)), (by rw [rowU, ← hs]; exact (st_is (s := (some (p1, p2), some (r1, r2))) (L := some (p1, p2)) (R := some (r1, r2)) (okU_yes (by unfold mA; first | rw [if_pos (show k = 5 by assumption)] | rw [if_neg (show ¬ k = 5 by assumption)]) lo1 (by assumption) (by assumption) hs1 (by assumption)) (.inr ⟨lsU_f lo2 hs2 (by assumption), rfl⟩) (.inr ⟨fun z => vneg (by unfold mA; first | rw [if_pos (show k = 5 by assumption)] | rw [if_neg (show ¬ k = 5 by assumption)]) hs3 (by assumption) z.1, rfl⟩)).symm), (by have hb2 := hbu.st (k := k) hX hY; rw [st_is (s := (some (p1, p2), some (r1, r2))) (L := some (p1, p2)) (R := some (r1, r2)) (okU_yes (by unfold mA; first | rw [if_pos (show k = 5 by assumption)] | rw [if_neg (show ¬ k = 5 by assumption)]) lo1 (by assumption) (by assumption) hs1 (by assumption)) (.inr ⟨lsU_f lo2 hs2 (by assumption), rfl⟩) (.inr ⟨fun z => vneg (by unfold mA; first | rw [if_pos (show k = 5 by assumption)] | rw [if_neg (show ¬ k = 5 by assumption)]) hs3 (by assumption) z.1, rfl⟩)] at hb2; exact hb2), rfl, rfl⟩
              | exact ⟨_, _, _, _, (some (p1, p2), some ((-9 + (j : Int)), (-9 + (j_1 : Int)))), (by rw [rowU, ← hs]; exact (st_is (s := (some (p1, p2), some (r1, r2))) (L := some (p1, p2)) (R := some ((-9 + (j : Int)), (-9 + (j_1 : Int)))) (okU_yes (by unfold mA; first | rw [if_pos (show k = 5 by assumption)] | rw [if_neg (show ¬ k = 5 by assumption)]) lo1 (by assumption) (by assumption) hs1 (by assumption)) (.inr ⟨lsU_f lo2 hs2 (by assumption), rfl⟩) (.inl ⟨⟨vpos (by unfold mA; first | rw [if_pos (show k = 5 by assumption)] | rw [if_neg (show ¬ k = 5 by assumption)]) hs3 (by assumption), lsU_t lo3 hs4 (by assumption)⟩, rfl⟩)).symm), (by have hb2 := hbu.st (k := k) hX hY; rw [st_is (s := (some (p1, p2), some (r1, r2))) (L := some (p1, p2)) (R := some ((-9 + (j : Int)), (-9 + (j_1 : Int)))) (okU_yes (by unfold mA; first | rw [if_pos (show k = 5 by assumption)] | rw [if_neg (show ¬ k = 5 by assumption)]) lo1 (by assumption) (by assumption) hs1 (by assumption)) (.inr ⟨lsU_f lo2 hs2 (by assumption), rfl⟩) (.inl ⟨⟨vpos (by unfold mA; first | rw [if_pos (show k = 5 by assumption)] | rw [if_neg (show ¬ k = 5 by assumption)]) hs3 (by assumption), lsU_t lo3 hs4 (by assumption)⟩, rfl⟩)] at hb2; exact hb2), rfl, rfl⟩
              | exact ⟨_, _, _, _, (some (p1, p2), some (r1, r2)), (by rw [rowU, ← hs]; exact (st_is (s := (some (p1, p2), some (r1, r2))) (L := some (p1, p2)) (R := some (r1, r2)) (okU_yes (by unfold mA; first | rw [if_pos (show k = 5 by assumption)] | rw [if_neg (show ¬ k = 5 by assumption)]) lo1 (by assumption) (by assumption) hs1 (by assumption)) (.inr ⟨lsU_f lo2 hs2 (by assumption), rfl⟩) (.inr ⟨fun z => lsU_f lo3 hs4 (by assumption) z.2, rfl⟩)).symm), (by have hb2 := hbu.st (k := k) hX hY; rw [st_is (s := (some (p1, p2), some (r1, r2))) (L := some (p1, p2)) (R := some (r1, r2)) (okU_yes (by unfold mA; first | rw [if_pos (show k = 5 by assumption)] | rw [if_neg (show ¬ k = 5 by assumption)]) lo1 (by assumption) (by assumption) hs1 (by assumption)) (.inr ⟨lsU_f lo2 hs2 (by assumption), rfl⟩) (.inr ⟨fun z => lsU_f lo3 hs4 (by assumption) z.2, rfl⟩)] at hb2; exact hb2), rfl, rfl⟩
              | exact ⟨_, _, _, _, (some (p1, p2), some (r1, r2)), (by rw [rowU, ← hs]; exact (st_no (s := (some (p1, p2), some (r1, r2))) (okU_no1 (by unfold mA; first | rw [if_pos (show k = 5 by assumption)] | rw [if_neg (show ¬ k = 5 by assumption)]) lo1 (by assumption))).symm), (by have hb2 := hbu.st (k := k) hX hY; rw [st_no (s := (some (p1, p2), some (r1, r2))) (okU_no1 (by unfold mA; first | rw [if_pos (show k = 5 by assumption)] | rw [if_neg (show ¬ k = 5 by assumption)]) lo1 (by assumption))] at hb2; exact hb2), rfl, rfl⟩
              | exact ⟨_, _, _, _, (some (p1, p2), some (r1, r2)), (by rw [rowU, ← hs]; exact (st_no (s := (some (p1, p2), some (r1, r2))) (okU_no2 (by unfold mA; first | rw [if_pos (show k = 5 by assumption)] | rw [if_neg (show ¬ k = 5 by assumption)]) lo1 (by assumption))).symm), (by have hb2 := hbu.st (k := k) hX hY; rw [st_no (s := (some (p1, p2), some (r1, r2))) (okU_no2 (by unfold mA; first | rw [if_pos (show k = 5 by assumption)] | rw [if_neg (show ¬ k = 5 by assumption)]) lo1 (by assumption))] at hb2; exact hb2), rfl, rfl⟩
              | exact ⟨_, _, _, _, (some (p1, p2), some (r1, r2)), (by rw [rowU, ← hs]; exact (st_no (s := (some (p1, p2), some (r1, r2))) (okU_no3 hs1 (by assumption))).symm), (by have hb2 := hbu.st (k := k) hX hY; rw [st_no (s := (some (p1, p2), some (r1, r2))) (okU_no3 hs1 (by assumption))] at hb2; exact hb2), rfl, rfl⟩
          case h130 =>
            first
              | exact ⟨_, _, _, _, (some ((-9 + (j : Int)), (-9 + (j_1 : Int))), some (r1, r2)), (by rw [rowU, ← hs]; exact (st_is (s := (some (p1, p2), some (r1, r2))) (L := some ((-9 + (j : Int)), (-9 + (j_1 : Int)))) (R := some (r1, r2)) (okU_yes (by unfold mA; first | rw [if_pos (show k = 5 by assumption)] | rw [if_neg (show ¬ k = 5 by assumption)]) lo1 (by assumption) (by assumption) hs1 (by assumption)) (.inl ⟨lsU_t lo2 hs2 (by assumption), rfl⟩) (.inr ⟨fun z => vneg (by unfold mA; first | rw [if_pos (show k = 5 by assumption)] | rw [if_neg (show ¬ k = 5 by assumption)]) hs3 (by assumption) z.1, rfl⟩)).symm), (by have hb2 := hbu.st (k := k) hX hY; rw [st_is (s := (some (p1, p2), some (r1, r2))) (L := some ((-9 + (j : Int)), (-9 + (j_1 : Int)))) (R := some (r1, r2)) (okU_yes (by unfold mA; first | rw [if_pos (show k = 5 by assumption)] | rw [if_neg (show ¬ k = 5 by assumption)]) lo1 (by assumption) (by assumption) hs1 (by assumption)) (.inl ⟨lsU_t lo2 hs2 (by assumption), rfl⟩) (.inr ⟨fun z => vneg (by unfold mA; first | rw [if_pos (show k = 5 by assumption)] | rw [if_neg (show ¬ k = 5 by assumption)]) hs3 (by assumption) z.1, rfl⟩)] at hb2; exact hb2), rfl, rfl⟩
              | exact ⟨_, _, _, _, (some ((-9 + (j : Int)), (-9 + (j_1 : Int))), some ((-9 + (j : Int)), (-9 + (j_1 : Int)))), (by rw [rowU, ← hs]; exact (st_is (s := (some (p1, p2), some (r1, r2))) (L := some ((-9 + (j : Int)), (-9 + (j_1 : Int)))) (R := some ((-9 + (j : Int)), (-9 + (j_1 : Int)))) (okU_yes (by unfold mA; first | rw [if_pos (show k = 5 by assumption)] | rw [if_neg (show ¬ k = 5 by assumption)]) lo1 (by assumption) (by assumption) hs1 (by assumption)) (.inl ⟨lsU_t lo2 hs2 (by assumption), rfl⟩) (.inl ⟨⟨vpos (by unfold mA; first | rw [if_pos (show k = 5 by assumption)] | rw [if_neg (show ¬ k = 5 by assumption)]) hs3 (by assumption), lsU_t lo3 hs4 (by assumption)⟩, rfl⟩)).symm), (by have hb2 := hbu.st (k := k) hX hY; rw [st_is (s := (some (p1, p2), some (r1, r2))) (L := some ((-9 + (j : Int)), (-9 + (j_1 : Int)))) (R := some ((-9 + (j : Int)), (-9 + (j_1 : Int)))) (okU_yes (by unfold mA; first | rw [if_pos (show k = 5 by assumption)] | rw [if_neg (show ¬ k = 5 by assumption)]) lo1 (by assumption) (by assumption) hs1 (by assumption)) (.inl ⟨lsU_t lo2 hs2 (by assumption), rfl⟩) (.inl ⟨⟨vpos (by unfold mA; first | rw [if_pos (show k = 5 by assumption)] | rw [if_neg (show ¬ k = 5 by assumption)]) hs3 (by assumption), lsU_t lo3 hs4 (by assumption)⟩, rfl⟩)] at hb2; exact hb2), rfl, rfl⟩
              | exact ⟨_, _, _, _, (some ((-9 + (j : Int)), (-9 + (j_1 : Int))), some (r1, r2)), (by rw [rowU, ← hs]; exact (st_is (s := (some (p1, p2), some (r1, r2))) (L := some ((-9 + (j : Int)), (-9 + (j_1 : Int)))) (R := some (r1, r2)) (okU_yes (by unfold mA; first | rw [if_pos (show k = 5 by assumption)] | rw [if_neg (show ¬ k = 5 by assumption)]) lo1 (by assumption) (by assumption) hs1 (by assumption)) (.inl ⟨lsU_t lo2 hs2 (by assumption), rfl⟩) (.inr ⟨fun z => lsU_f lo3 hs4 (by assumption) z.2, rfl⟩)).symm), (by have hb2 := hbu.st (k := k) hX hY; rw [st_is (s := (some (p1, p2), some (r1, r2))) (L := some ((-9 + (j : Int)), (-9 + (j_1 : Int)))) (R := some (r1, r2)) (okU_yes (by unfold mA; first | rw [if_pos (show k = 5 by assumption)] | rw [if_neg (show ¬ k = 5 by assumption)]) lo1 (by assumption) (by assumption) hs1 (by assumption)) (.inl ⟨lsU_t lo2 hs2 (by assumption), rfl⟩) (.inr ⟨fun z => lsU_f lo3 hs4 (by assumption) z.2, rfl⟩)] at hb2; exact hb2), rfl, rfl⟩
              | exact ⟨_, _, _, _, (some (p1, p2), some (r1, r2)), (by rw [rowU, ← hs]; exact (st_is (s := (some (p1, p2), some (r1, r2))) (L := some (p1, p2)) (R := some (r1, r2)) (okU_yes (by unfold mA; first | rw [if_pos (show k = 5 by assumption)] | rw [if_neg (show ¬ k = 5 by assumption)]) lo1 (by assumption) (by assumption) hs1 (by assumption)) (.inr ⟨lsU_f lo2 hs2 (by assumption), rfl⟩) (.inr ⟨fun z => vneg (by unfold mA; first | rw [if_pos (show k = 5 by assumption)] | rw [if_neg (show ¬ k = 5 by assumption)]) hs3 (by assumption) z.1, rfl⟩)).symm), (by have hb2 := hbu.st (k := k) hX hY; rw [st_is (s := (some (p1, p2), some (r1, r2))) (L := some (p1, p2)) (R := some (r1, r2)) (okU_yes (by unfold mA; first | rw [if_pos (show k = 5 by assumption)] | rw [if_neg (show ¬ k = 5 by assumption)]) lo1 (by assumption) (by assumption) hs1 (by assumption)) (.inr ⟨lsU_f lo2 hs2 (by assumption), rfl⟩) (.inr ⟨fun z => vneg (by unfold mA; first | rw [if_pos (show k = 5 by assumption)] | rw [if_neg (show ¬ k = 5 by assumption)]) hs3 (by assumption) z.1, rfl⟩)] at hb2; exact hb2), rfl, rfl⟩
              | exact ⟨_, _, _, _, (some (p1, p2), some ((-9 + (j : Int)), (-9 + (j_1 : Int)))), (by rw [rowU, ← hs]; exact (st_is (s := (some (p1, p2), some (r1, r2))) (L := some (p1, p2)) (R := some ((-9 + (j : Int)), (-9 + (j_1 : Int)))) (okU_yes (by unfold mA; first | rw [if_pos (show k = 5 by assumption)] | rw [if_neg (show ¬ k = 5 by assumption)]) lo1 (by assumption) (by assumption) hs1 (by assumption)) (.inr ⟨lsU_f lo2 hs2 (by assumption), rfl⟩) (.inl ⟨⟨vpos (by unfold mA; first | rw [if_pos (show k = 5 by assumption)] | rw [if_neg (show ¬ k = 5 by assumption)]) hs3 (by assumption), lsU_t lo3 hs4 (by assumption)⟩, rfl⟩)).symm), (by have hb2 := hbu.st (k := k) hX hY; rw [st_is (s := (some (p1, p2), some (r1, r2))) (L := some (p1, p2)) (R := some ((-9 + (j : Int)), (-9 + (j_1 : Int)))) (okU_yes (by unfold mA; first | rw [if_pos (show k = 5 by assumption)] | rw [if_neg (show ¬ k = 5 by assumption)]) lo1 (by assumption) (by assumption) hs1 (by assumption)) (.inr ⟨lsU_f lo2 hs2 (by assumption), rfl⟩) (.inl ⟨⟨vpos (by unfold mA; first | rw [if_pos (show k = 5 by assumption)] | rw [if_neg (show ¬ k = 5 by assumption)]) hs3 (by assumption), lsU_t lo3 hs4 (by assumption)⟩, rfl⟩)] at hb2; exact hb2), rfl, rfl⟩
              | exact ⟨_, _, _, _, (some (p1, p2), some (r1, r2)), (by rw [rowU, ← hs]; exact (st_is (s := (some (p1, p2), some (r1, r2))) (L := some (p1, p2)) (R := some (r1, r2)) (okU_yes (by unfold mA; first | rw [if_pos (show k = 5 by assumption)] | rw [if_neg (show ¬ k = 5 by assumption)]) lo1 (by assumption) (by assumption) hs1 (by assumption)) (.inr ⟨lsU_f lo2 hs2 (by assumption), rfl⟩) (.inr ⟨fun z => lsU_f lo3 hs4 (by assumption) z.2, rfl⟩)).symm), (by have hb2 := hbu.st (k := k) hX hY; rw [st_is (s := (some (p1, p2), some (r1, r2))) (L := some (p1, p2)) (R := some (r1, r2)) (okU_yes (by unfold mA; first | rw [if_pos (show k = 5 by assumption)] | rw [if_neg (show ¬ k = 5 by assumption)]) lo1 (by assumption) (by assumption) hs1 (by assumption)) (.inr ⟨lsU_f lo2 hs2 (by assumption), rfl⟩) (.inr ⟨fun z => lsU_f lo3 hs4 (by assumption) z.2, rfl⟩)] at hb2; exact hb2), rfl, rfl⟩
              | exact ⟨_, _, _, _, (some (p1, p2), some (r1, r2)), (by rw [rowU, ← hs]; exact (st_no (s := (some (p1, p2), some (r1, r2))) (okU_no1 (by unfold mA; first | rw [if_pos (show k = 5 by assumption)] | rw [if_neg (show ¬ k = 5 by assumption)]) lo1 (by assumption))).symm), (by have hb2 := hbu.st (k := k) hX hY; rw [st_no (s := (some (p1, p2), some (r1, r2))) (okU_no1 (by unfold mA; first | rw [if_pos (show k = 5 by assumption)] | rw [if_neg (show ¬ k = 5 by assumption)]) lo1 (by assumption))] at hb2; exact hb2), rfl, rfl⟩
              | exact ⟨_, _, _, _, (some (p1, p2), some (r1, r2)), (by rw [rowU, ← hs]; exact (st_no (s := (some (p1, p2), some (r1, r2))) (okU_no2 (by unfold mA; first | rw [if_pos (show k = 5 by assumption)] | rw [if_neg (show ¬ k = 5 by assumption)]) lo1 (by assumption))).symm), (by have hb2 := hbu.st (k := k) hX hY; rw [st_no (s := (some (p1, p2), some (r1, r2))) (okU_no2 (by unfold mA; first | rw [if_pos (show k = 5 by assumption)] | rw [if_neg (show ¬ k = 5 by assumption)]) lo1 (by assumption))] at hb2; exact hb2), rfl, rfl⟩
              | exact ⟨_, _, _, _, (some (p1, p2), some (r1, r2)), (by rw [rowU, ← hs]; exact (st_no (s := (some (p1, p2), some (r1, r2))) (okU_no3 hs1 (by assumption))).symm), (by have hb2 := hbu.st (k := k) hX hY; rw [st_no (s := (some (p1, p2), some (r1, r2))) (okU_no3 hs1 (by assumption))] at hb2; exact hb2), rfl, rfl⟩
          case h131 =>
            first | exact ⟨hk, bd_s (by omega) (by decide), bd_s (by omega) (by decide)⟩ | exact ⟨hk, hx2.mono (by decide), hy2.mono (by decide)⟩ | exact ⟨hk, hx3.mono (by decide), hy3.mono (by decide)⟩
          case h132 =>
            first | exact ⟨by decide, by decide, bd_s (by omega) (by decide), bd_s (by omega) (by decide), bd_s (by decide) (by decide), (hbu.1 _ rfl).1, (hbu.1 _ rfl).2, bd_s (by decide) (by decide), by decide⟩ | exact ⟨by decide, by decide, bd_s (by omega) (by decide), bd_s (by omega) (by decide), bd_s (by decide) (by decide), (hbu.2 _ rfl).1, (hbu.2 _ rfl).2, bd_s (by decide) (by decide), by decide⟩
          case h133 =>
            first | exact ⟨hk, bd_s (by omega) (by decide), bd_s (by omega) (by decide)⟩ | exact ⟨hk, hx2.mono (by decide), hy2.mono (by decide)⟩ | exact ⟨hk, hx3.mono (by decide), hy3.mono (by decide)⟩
          case h134 =>
            exact sc__law_units.nd
          case h135 =>
            first
              | exact ⟨_, _, _, _, (some ((-9 + (j : Int)), (-9 + (j_1 : Int))), some (r1, r2)), (by rw [rowU, ← hs]; exact (st_is (s := (some (p1, p2), some (r1, r2))) (L := some ((-9 + (j : Int)), (-9 + (j_1 : Int)))) (R := some (r1, r2)) (okU_yes (by unfold mA; first | rw [if_pos (show k = 5 by assumption)] | rw [if_neg (show ¬ k = 5 by assumption)]) lo1 (by assumption) (by assumption) hs1 (by assumption)) (.inl ⟨lsU_t lo2 hs2 (by assumption), rfl⟩) (.inr ⟨fun z => vneg (by unfold mA; first | rw [if_pos (show k = 5 by assumption)] | rw [if_neg (show ¬ k = 5 by assumption)]) hs3 (by assumption) z.1, rfl⟩)).symm), (by have hb2 := hbu.st (k := k) hX hY; rw [st_is (s := (some (p1, p2), some (r1, r2))) (L := some ((-9 + (j : Int)), (-9 + (j_1 : Int)))) (R := some (r1, r2)) (okU_yes (by unfold mA; first | rw [if_pos (show k = 5 by assumption)] | rw [if_neg (show ¬ k = 5 by assumption)]) lo1 (by assumption) (by assumption) hs1 (by assumption)) (.inl ⟨lsU_t lo2 hs2 (by assumption), rfl⟩) (.inr ⟨fun z => vneg (by unfold mA; first | rw [if_pos (show k = 5 by assumption)] | rw [if_neg (show ¬ k = 5 by assumption)]) hs3 (by assumption) z.1, rfl⟩)] at hb2; exact hb2), rfl, rfl⟩
              | exact ⟨_, _, _, _, (some ((-9 + (j : Int)), (-9 + (j_1 : Int))), some ((-9 + (j : Int)), (-9 + (j_1 : Int)))), (by rw [rowU, ← hs]; exact (st_is (s := (some (p1, p2), some (r1, r2))) (L := some ((-9 + (j : Int)), (-9 + (j_1 : Int)))) (R := some ((-9 + (j : Int)), (-9 + (j_1 : Int)))) (okU_yes (by unfold mA; first | rw [if_pos (show k = 5 by assumption)] | rw [if_neg (show ¬ k = 5 by assumption)]) lo1 (by assumption) (by assumption) hs1 (by assumption)) (.inl ⟨lsU_t lo2 hs2 (by assumption), rfl⟩) (.inl ⟨⟨vpos (by unfold mA; first | rw [if_pos (show k = 5 by assumption)] | rw [if_neg (show ¬ k = 5 by assumption)]) hs3 (by assumption), lsU_t lo3 hs4 (by assumption)⟩, rfl⟩)).symm), (by have hb2 := hbu.st (k := k) hX hY; rw [st_is (s := (some (p1, p2), some (r1, r2))) (L := some ((-9 + (j : Int)), (-9 + (j_1 : Int)))) (R := some ((-9 + (j : Int)), (-9 + (j_1 : Int)))) (okU_yes (by unfold mA; first | rw [if_pos (show k = 5 by assumption)] | rw [if_neg (show ¬ k = 5 by assumption)]) lo1 (by assumption) (by assumption) hs1 (by assumption)) (.inl ⟨lsU_t lo2 hs2 (by assumption), rfl⟩) (.inl ⟨⟨vpos (by unfold mA; first | rw [if_pos (show k = 5 by assumption)] | rw [if_neg (show ¬ k = 5 by assumption)]) hs3 (by assumption), lsU_t lo3 hs4 (by assumption)⟩, rfl⟩)] at hb2; exact hb2), rfl, rfl⟩
              | exact ⟨_, _, _, _, (some ((-9 + (j : Int)), (-9 + (j_1 : Int))), some (r1, r2)), (by rw [rowU, ← hs]; exact (st_is (s := (some (p1, p2), some (r1, r2))) (L := some ((-9 + (j : Int)), (-9 + (j_1 : Int)))) (R := some (r1, r2)) (okU_yes (by unfold mA; first | rw [if_pos (show k = 5 by assumption)] | rw [if_neg (show ¬ k = 5 by assumption)]) lo1 (by assumption) (by assumption) hs1 (by assumption)) (.inl ⟨lsU_t lo2 hs2 (by assumption), rfl⟩) (.inr ⟨fun z => lsU_f lo3 hs4 (by assumption) z.2, rfl⟩)).symm), (by have hb2 := hbu.st (k := k) hX hY; rw [st_is (s := (some (p1, p2), some (r1, r2))) (L := some ((-9 + (j : Int)), (-9 + (j_1 : Int)))) (R := some (r1, r2)) (okU_yes (by unfold mA; first | rw [if_pos (show k = 5 by assumption)] | rw [if_neg (show ¬ k = 5 by assumption)]) lo1 (by assumption) (by assumption) hs1 (by assumption)) (.inl ⟨lsU_t lo2 hs2 (by assumption), rfl⟩) (.inr ⟨fun z => lsU_f lo3 hs4 (by assumption) z.2, rfl⟩)] at hb2; exact hb2), rfl, rfl⟩
              | exact ⟨_, _, _, _, (some (p1, p2), some (r1, r2)), (by rw [rowU, ← hs]; exact (st_is (s := (some (p1, p2), some (r1, r2))) (L := some (p1, p2)) (R := some (r1, r2)) (okU_yes (by unfold mA; first | rw [if_pos (show k = 5 by assumption)] | rw [if_neg (show ¬ k = 5 by assumption)]) lo1 (by assumption) (by assumption) hs1 (by assumption)) (.inr ⟨lsU_f lo2 hs2 (by assumption), rfl⟩) (.inr ⟨fun z => vneg (by unfold mA; first | rw [if_pos (show k = 5 by assumption)] | rw [if_neg (show ¬ k = 5 by assumption)]) hs3 (by assumption) z.1, rfl⟩)).symm), (by have hb2 := hbu.st (k := k) hX hY; rw [st_is (s := (some (p1, p2), some (r1, r2))) (L := some (p1, p2)) (R := some (r1, r2)) (okU_yes (by unfold mA; first | rw [if_pos (show k = 5 by assumption)] | rw [if_neg (show ¬ k = 5 by assumption)]) lo1 (by assumption) (by assumption) hs1 (by assumption)) (.inr ⟨lsU_f lo2 hs2 (by assumption), rfl⟩) (.inr ⟨fun z => vneg (by unfold mA; first | rw [if_pos (show k = 5 by assumption)] | rw [if_neg (show ¬ k = 5 by assumption)]) hs3 (by assumption) z.1, rfl⟩)] at hb2; exact hb2), rfl, rfl⟩
              | exact ⟨_, _, _, _, (some (p1, p2), some ((-9 + (j : Int)), (-9 + (j_1 : Int)))), (by rw [rowU, ← hs]; exact (st_is (s := (some (p1, p2), some (r1, r2))) (L := some (p1, p2)) (R := some ((-9 + (j : Int)), (-9 + (j_1 : Int)))) (okU_yes (by unfold mA; first | rw [if_pos (show k = 5 by assumption)] | rw [if_neg (show ¬ k = 5 by assumption)]) lo1 (by assumption) (by assumption) hs1 (by assumption)) (.inr ⟨lsU_f lo2 hs2 (by assumption), rfl⟩) (.inl ⟨⟨vpos (by unfold mA; first | rw [if_pos (show k = 5 by assumption)] | rw [if_neg (show ¬ k = 5 by assumption)]) hs3 (by assumption), lsU_t lo3 hs4 (by assumption)⟩, rfl⟩)).symm), (by have hb2 := hbu.st (k := k) hX hY; rw [st_is (s := (some (p1, p2), some (r1, r2))) (L := some (p1, p2)) (R := some ((-9 + (j : Int)), (-9 + (j_1 : Int)))) (okU_yes (by unfold mA; first | rw [if_pos (show k = 5 by assumption)] | rw [if_neg (show ¬ k = 5 by assumption)]) lo1 (by assumption) (by assumption) hs1 (by assumption)) (.inr ⟨lsU_f lo2 hs2 (by assumption), rfl⟩) (.inl ⟨⟨vpos (by unfold mA; first | rw [if_pos (show k = 5 by assumption)] | rw [if_neg (show ¬ k = 5 by assumption)]) hs3 (by assumption), lsU_t lo3 hs4 (by assumption)⟩, rfl⟩)] at hb2; exact hb2), rfl, rfl⟩
              | exact ⟨_, _, _, _, (some (p1, p2), some (r1, r2)), (by rw [rowU, ← hs]; exact (st_is (s := (some (p1, p2), some (r1, r2))) (L := some (p1, p2)) (R := some (r1, r2)) (okU_yes (by unfold mA; first | rw [if_pos (show k = 5 by assumption)] | rw [if_neg (show ¬ k = 5 by assumption)]) lo1 (by assumption) (by assumption) hs1 (by assumption)) (.inr ⟨lsU_f lo2 hs2 (by assumption), rfl⟩) (.inr ⟨fun z => lsU_f lo3 hs4 (by assumption) z.2, rfl⟩)).symm), (by have hb2 := hbu.st (k := k) hX hY; rw [st_is (s := (some (p1, p2), some (r1, r2))) (L := some (p1, p2)) (R := some (r1, r2)) (okU_yes (by unfold mA; first | rw [if_pos (show k = 5 by assumption)] | rw [if_neg (show ¬ k = 5 by assumption)]) lo1 (by assumption) (by assumption) hs1 (by assumption)) (.inr ⟨lsU_f lo2 hs2 (by assumption), rfl⟩) (.inr ⟨fun z => lsU_f lo3 hs4 (by assumption) z.2, rfl⟩)] at hb2; exact hb2), rfl, rfl⟩
              | exact ⟨_, _, _, _, (some (p1, p2), some (r1, r2)), (by rw [rowU, ← hs]; exact (st_no (s := (some (p1, p2), some (r1, r2))) (okU_no1 (by unfold mA; first | rw [if_pos (show k = 5 by assumption)] | rw [if_neg (show ¬ k = 5 by assumption)]) lo1 (by assumption))).symm), (by have hb2 := hbu.st (k := k) hX hY; rw [st_no (s := (some (p1, p2), some (r1, r2))) (okU_no1 (by unfold mA; first | rw [if_pos (show k = 5 by assumption)] | rw [if_neg (show ¬ k = 5 by assumption)]) lo1 (by assumption))] at hb2; exact hb2), rfl, rfl⟩
              | exact ⟨_, _, _, _, (some (p1, p2), some (r1, r2)), (by rw [rowU, ← hs]; exact (st_no (s := (some (p1, p2), some (r1, r2))) (okU_no2 (by unfold mA; first | rw [if_pos (show k = 5 by assumption)] | rw [if_neg (show ¬ k = 5 by assumption)]) lo1 (by assumption))).symm), (by have hb2 := hbu.st (k := k) hX hY; rw [st_no (s := (some (p1, p2), some (r1, r2))) (okU_no2 (by unfold mA; first | rw [if_pos (show k = 5 by assumption)] | rw [if_neg (show ¬ k = 5 by assumption)]) lo1 (by assumption))] at hb2; exact hb2), rfl, rfl⟩
              | exact ⟨_, _, _, _, (some (p1, p2), some (r1, r2)), (by rw [rowU, ← hs]; exact (st_no (s := (some (p1, p2), some (r1, r2))) (okU_no3 hs1 (by assumption))).symm), (by have hb2 := hbu.st (k := k) hX hY; rw [st_no (s := (some (p1, p2), some (r1, r2))) (okU_no3 hs1 (by assumption))] at hb2; exact hb2), rfl, rfl⟩
          case h136 =>
            first
              | exact ⟨_, _, _, _, (some ((-9 + (j : Int)), (-9 + (j_1 : Int))), some (r1, r2)), (by rw [rowU, ← hs]; exact (st_is (s := (some (p1, p2), some (r1, r2))) (L := some ((-9 + (j : Int)), (-9 + (j_1 : Int)))) (R := some (r1, r2)) (okU_yes (by unfold mA; first | rw [if_pos (show k = 5 by assumption)] | rw [if_neg (show ¬ k = 5 by assumption)]) lo1 (by assumption) (by assumption) hs1 (by assumption)) (.inl ⟨lsU_t lo2 hs2 (by assumption), rfl⟩) (.inr ⟨fun z => vneg (by unfold mA; first | rw [if_pos (show k = 5 by assumption)] | rw [if_neg (show ¬ k = 5 by assumption)]) hs3 (by assumption) z.1, rfl⟩)).symm), (by have hb2 := hbu.st (k := k) hX hY; rw [st_is (s := (some (p1, p2), some (r1, r2))) (L := some ((-9 + (j : Int)), (-9 + (j_1 : Int)))) (R := some (r1, r2)) (okU_yes (by unfold mA; first | rw [if_pos (show k = 5 by assumption)] | rw [if_neg (show ¬ k = 5 by assumption)]) lo1 (by assumption) (by assumption) hs1 (by assumption)) (.inl ⟨lsU_t lo2 hs2 (by assumption), rfl⟩) (.inr ⟨fun z => vneg (by unfold mA; first | rw [if_pos (show k = 5 by assumption)] | rw [if_neg (show ¬ k = 5 by assumption)]) hs3 (by assumption) z.1, rfl⟩)] at hb2; exact hb2), rfl, rfl⟩
              | exact ⟨_, _, _, _, (some ((-9 + (j : Int)), (-9 + (j_1 : Int))), some ((-9 + (j : Int)), (-9 + (j_1 : Int)))), (by rw [rowU, ← hs]; exact (st_is (s := (some (p1, p2), some (r1, r2))) (L := some ((-9 + (j : Int)), (-9 + (j_1 : Int)))) (R := some ((-9 + (j : Int)), (-9 + (j_1 : Int)))) (okU_yes (by unfold mA; first | rw [if_pos (show k = 5 by assumption)] | rw [if_neg (show ¬ k = 5 by assumption)]) lo1 (by assumption) (by assumption) hs1 (by assumption)) (.inl ⟨lsU_t lo2 hs2 (by assumption), rfl⟩) (.inl ⟨⟨vpos (by unfold mA; first | rw [if_pos (show k = 5 by assumption)] | rw [if_neg (show ¬ k = 5 by assumption)]) hs3 (by assumption), lsU_t lo3 hs4 (by assumption)⟩, rfl⟩)).symm), (by have hb2 := hbu.st (k := k) hX hY; rw [st_is (s := (some (p1, p2), some (r1, r2))) (L := some ((-9 + (j : Int)), (-9 + (j_1 : Int)))) (R := some ((-9 + (j : Int)), (-9 + (j_1 : Int)))) (okU_yes (by unfold mA; first | rw [if_pos (show k = 5 by assumption)] | rw [if_neg (show ¬ k = 5 by assumption)]) lo1 (by assumption) (by assumption) hs1 (by assumption)) (.inl ⟨lsU_t lo2 hs2 (by assumption), rfl⟩) (.inl ⟨⟨vpos (by unfold mA; first | rw [if_pos (show k = 5 by assumption)] | rw [if_neg (show ¬ k = 5 by assumption)]) hs3 (by assumption), lsU_t lo3 hs4 (by assumption)⟩, rfl⟩)] at hb2; exact hb2), rfl, rfl⟩
              | exact ⟨_, _, _, _, (some ((-9 + (j : Int)), (-9 + (j_1 : Int))), some (r1, r2)), (by rw [rowU, ← hs]; exact (st_is (s := (some (p1, p2), some (r1, r2))) (L := some ((-9 + (j : Int)), (-9 + (j_1 : Int)))) (R := some (r1, r2)) (okU_yes (by unfold mA; first | rw [if_pos (show k = 5 by assumption)] | rw [if_neg (show ¬ k = 5 by assumption)]) lo1 (by assumption) (by assumption) hs1 (by assumption)) (.inl ⟨lsU_t lo2 hs2 (by assumption), rfl⟩) (.inr ⟨fun z => lsU_f lo3 hs4 (by assumption) z.2, rfl⟩)).symm), (by have hb2 := hbu.st (k := k) hX hY; rw [st_is (s := (some (p1, p2), some (r1, r2))) (L := some ((-9 + (j : Int)), (-9 + (j_1 : Int)))) (R := some (r1, r2)) (okU_yes (by unfold mA; first | rw [if_pos (show k = 5 by assumption)] | rw [if_neg (show ¬ k = 5 by assumption)]) lo1 (by assumption) (by assumption) hs1 (by assumption)) (.inl ⟨lsU_t lo2 hs2 (by assumption), rfl⟩) (.inr ⟨fun z => lsU_f lo3 hs4 (by assumption) z.2, rfl⟩)] at hb2; exact hb2), rfl, rfl⟩
              | exact ⟨_, _, _, _, (some (p1, p2), some (r1, r2)), (by rw [rowU, ← hs]; exact (st_is (s := (some (p1, p2), some (r1, r2))) (L := some (p1, p2)) (R := some (r1, r2)) (okU_yes (by unfold mA; first | rw [if_pos (show k = 5 by assumption)] | rw [if_neg (show ¬ k = 5 by assumption)]) lo1 (by assumption) (by assumption) hs1 (by assumption)) (.inr ⟨lsU_f lo2 hs2 (by assumption), rfl⟩) (.inr ⟨fun z => vneg (by unfold mA; first | rw [if_pos (show k = 5 by assumption)] | rw [if_neg (show ¬ k = 5 by assumption)]) hs3 (by assumption) z.1, rfl⟩)).symm), (by have hb2 := hbu.st (k := k) hX hY; rw [st_is (s := (some (p1, p2), some (r1, r2))) (L := some (p1, p2)) (R := some (r1, r2)) (okU_yes (by unfold mA; first | rw [if_pos (show k = 5 by assumption)] | rw [if_neg (show ¬ k = 5 by assumption)]) lo1 (by assumption) (by assumption) hs1 (by assumption)) (.inr ⟨lsU_f lo2 hs2 (by assumption), rfl⟩) (.inr ⟨fun z => vneg (by unfold mA; first | rw [if_pos (show k = 5 by assumption)] | rw [if_neg (show ¬ k = 5 by assumption)]) hs3 (by assumption) z.1, rfl⟩)] at hb2; exact hb2), rfl, rfl⟩
              | exact ⟨_, _, _, _, (some (p1, p2), some ((-9 + (j : Int)), (-9 + (j_1 : Int)))), (by rw [rowU, ← hs]; exact (st_is (s := (some (p1, p2), some (r1, r2))) (L := some (p1, p2)) (R := some ((-9 + (j : Int)), (-9 + (j_1 : Int)))) (okU_yes (by unfold mA; first | rw [if_pos (show k = 5 by assumption)] | rw [if_neg (show ¬ k = 5 by assumption)]) lo1 (by assumption) (by assumption) hs1 (by assumption)) (.inr ⟨lsU_f lo2 hs2 (by assumption), rfl⟩) (.inl ⟨⟨vpos (by unfold mA; first | rw [if_pos (show k = 5 by assumption)] | rw [if_neg (show ¬ k = 5 by assumption)]) hs3 (by assumption), lsU_t lo3 hs4 (by assumption)⟩, rfl⟩)).symm), (by have hb2 := hbu.st (k := k) hX hY; rw [st_is (s := (some (p1, p2), some (r1, r2))) (L := some (p1, p2)) (R := some ((-9 + (j : Int)), (-9 + (j_1 : Int)))) (okU_yes (by unfold mA; first | rw [if_pos (show k = 5 by assumption)] | rw [if_neg (show ¬ k = 5 by assumption)]) lo1 (by assumption) (by assumption) hs1 (by assumption)) (.inr ⟨lsU_f lo2 hs2 (by assumption), rfl⟩) (.inl ⟨⟨vpos (by unfold mA; first | rw [if_pos (show k = 5 by assumption)] | rw [if_neg (show ¬ k = 5 by assumption)]) hs3 (by assumption), lsU_t lo3 hs4 (by assumption)⟩, rfl⟩)] at hb2; exact hb2), rfl, rfl⟩
              | exact ⟨_, _, _, _, (some (p1, p2), some (r1, r2)), (by rw [rowU, ← hs]; exact (st_is (s := (some (p1, p2), some (r1, r2))) (L := some (p1, p2)) (R := some (r1, r2)) (okU_yes (by unfold mA; first | rw [if_pos (show k = 5 by assumption)] | rw [if_neg (show ¬ k = 5 by assumption)]) lo1 (by assumption) (by assumption) hs1 (by assumption)) (.inr ⟨lsU_f lo2 hs2 (by assumption), rfl⟩) (.inr ⟨fun z => lsU_f lo3 hs4 (by assumption) z.2, rfl⟩)).symm), (by have hb2 := hbu.st (k := k) hX hY; rw [st_is (s := (some (p1, p2), some (r1, r2))) (L := some (p1, p2)) (R := some (r1, r2)) (okU_yes (by unfold mA; first | rw [if_pos (show k = 5 by assumption)] | rw [if_neg (show ¬ k = 5 by assumption)]) lo1 (by assumption) (by assumption) hs1 (by assumption)) (.inr ⟨lsU_f lo2 hs2 (by assumption), rfl⟩) (.inr ⟨fun z => lsU_f lo3 hs4 (by assumption) z.2, rfl⟩)] at hb2; exact hb2), rfl, rfl⟩
              | exact ⟨_, _, _, _, (some (p1, p2), some (r1, r2)), (by rw [rowU, ← hs]; exact (st_no (s := (some (p1, p2), some (r1, r2))) (okU_no1 (by unfold mA; first | rw [if_pos (show k = 5 by assumption)] | rw [if_neg (show ¬ k = 5 by assumption)]) lo1 (by assumption))).symm), (by have hb2 := hbu.st (k := k) hX hY; rw [st_no (s := (some (p1, p2), some (r1, r2))) (okU_no1 (by unfold mA; first | rw [if_pos (show k = 5 by assumption)] | rw [if_neg (show ¬ k = 5 by assumption)]) lo1 (by assumption))] at hb2; exact hb2), rfl, rfl⟩
              | exact ⟨_, _, _, _, (some (p1, p2), some (r1, r2)), (by rw [rowU, ← hs]; exact (st_no (s := (some (p1, p2), some (r1, r2))) (okU_no2 (by unfold mA; first | rw [if_pos (show k = 5 by assumption)] | rw [if_neg (show ¬ k = 5 by assumption)]) lo1 (by assumption))).symm), (by have hb2 := hbu.st (k := k) hX hY; rw [st_no (s := (some (p1, p2), some (r1, r2))) (okU_no2 (by unfold mA; first | rw [if_pos (show k = 5 by assumption)] | rw [if_neg (show ¬ k = 5 by assumption)]) lo1 (by assumption))] at hb2; exact hb2), rfl, rfl⟩
              | exact ⟨_, _, _, _, (some (p1, p2), some (r1, r2)), (by rw [rowU, ← hs]; exact (st_no (s := (some (p1, p2), some (r1, r2))) (okU_no3 hs1 (by assumption))).symm), (by have hb2 := hbu.st (k := k) hX hY; rw [st_no (s := (some (p1, p2), some (r1, r2))) (okU_no3 hs1 (by assumption))] at hb2; exact hb2), rfl, rfl⟩
          case h137 =>
            first
              | exact ⟨_, _, _, _, (some ((-9 + (j : Int)), (-9 + (j_1 : Int))), some (r1, r2)), (by rw [rowU, ← hs]; exact (st_is (s := (some (p1, p2), some (r1, r2))) (L := some ((-9 + (j : Int)), (-9 + (j_1 : Int)))) (R := some (r1, r2)) (okU_yes (by unfold mA; first | rw [if_pos (show k = 5 by assumption)] | rw [if_neg (show ¬ k = 5 by assumption)]) lo1 (by assumption) (by assumption) hs1 (by assumption)) (.inl ⟨lsU_t lo2 hs2 (by assumption), rfl⟩) (.inr ⟨fun z => vneg (by unfold mA; first | rw [if_pos (show k = 5 by assumption)] | rw [if_neg (show ¬ k = 5 by assumption)]) hs3 (by assumption) z.1, rfl⟩)).symm), (by have hb2 := hbu.st (k := k) hX hY; rw [st_is (s := (some (p1, p2), some (r1, r2))) (L := some ((-9 + (j : Int)), (-9 + (j_1 : Int)))) (R := some (r1, r2)) (okU_yes (by unfold mA; first | rw [if_pos (show k = 5 by assumption)] | rw [if_neg (show ¬ k = 5 by assumption)]) lo1 (by assumption) (by assumption) hs1 (by assumption)) (.inl ⟨lsU_t lo2 hs2 (by assumption), rfl⟩) (.inr ⟨fun z => vneg (by unfold mA; first | rw [if_pos (show k = 5 by assumption)] | rw [if_neg (show ¬ k = 5 by assumption)]) hs3 (by assumption) z.1, rfl⟩)] at hb2; exact hb2), rfl, rfl⟩
              | exact ⟨_, _, _, _, (some ((-9 + (j : Int)), (-9 + (j_1 : Int))), some ((-9 + (j : Int)), (-9 + (j_1 : Int)))), (by rw [rowU, ← hs]; exact (st_is (s := (some (p1, p2), some (r1, r2))) (L := some ((-9 + (j : Int)), (-9 + (j_1 : Int)))) (R := some ((-9 + (j : Int)), (-9 + (j_1 : Int)))) (okU_yes (by unfold mA; first | rw [if_pos (show k = 5 by assumption)] | rw [if_neg (show ¬ k = 5 by assumption)]) lo1 (by assumption) (by assumption) hs1 (by assumption)) (.inl ⟨lsU_t lo2 hs2 (by assumption), rfl⟩) (.inl ⟨⟨vpos (by unfold mA; first | rw [if_pos (show k = 5 by assumption)] | rw [if_neg (show ¬ k = 5 by assumption)]) hs3 (by assumption), lsU_t lo3 hs4 (by assumption)⟩, rfl⟩)).symm), (by have hb2 := hbu.st (k := k) hX hY; rw [st_is (s := (some (p1, p2), some (r1, r2))) (L := some ((-9 + (j : Int)), (-9 + (j_1 : Int)))) (R := some ((-9 + (j : Int)), (-9 + (j_1 : Int)))) (okU_yes (by unfold mA; first | rw [if_pos (show k = 5 by assumption)] | rw [if_neg (show ¬ k = 5 by assumption)]) lo1 (by assumption) (by assumption) hs1 (by assumption)) (.inl ⟨lsU_t lo2 hs2 (by assumption), rfl⟩) (.inl ⟨⟨vpos (by unfold mA; first | rw [if_pos (show k = 5 by assumption)] | rw [if_neg (show ¬ k = 5 by assumption)]) hs3 (by assumption), lsU_t lo3 hs4 (by assumption)⟩, rfl⟩)] at hb2; exact hb2), rfl, rfl⟩
              | exact ⟨_, _, _, _, (some ((-9 + (j : Int)), (-9 + (j_1 : Int))), some (r1, r2)), (by rw [rowU, ← hs]; exact (st_is (s := (some (p1, p2), some (r1, r2))) (L := some ((-9 + (j : Int)), (-9 + (j_1 : Int)))) (R := some (r1, r2)) (okU_yes (by unfold mA; first | rw [if_pos (show k = 5 by assumption)] | rw [if_neg (show ¬ k = 5 by assumption)]) lo1 (by assumption) (by assumption) hs1 (by assumption)) (.inl ⟨lsU_t lo2 hs2 (by assumption), rfl⟩) (.inr ⟨fun z => lsU_f lo3 hs4 (by assumption) z.2, rfl⟩)).symm), (by have hb2 := hbu.st (k := k) hX hY; rw [st_is (s := (some (p1, p2), some (r1, r2))) (L := some ((-9 + (j : Int)), (-9 + (j_1 : Int)))) (R := some (r1, r2)) (okU_yes (by unfold mA; first | rw [if_pos (show k = 5 by assumption)] | rw [if_neg (show ¬ k = 5 by assumption)]) lo1 (by assumption) (by assumption) hs1 (by assumption)) (.inl ⟨lsU_t lo2 hs2 (by assumption), rfl⟩) (.inr ⟨fun z => lsU_f lo3 hs4 (by assumption) z.2, rfl⟩)] at hb2; exact hb2), rfl, rfl⟩
              | exact ⟨_, _, _, _, (some (p1, p2), some (r1, r2)), (by rw [rowU, ← hs]; exact (st_is (s := (some (p1, p2), some (r1, r2))) (L := some (p1, p2)) (R := some (r1, r2)) (okU_yes (by unfold mA; first | rw [if_pos (show k = 5 by assumption)] | rw [if_neg (show ¬ k = 5 by assumption)]) lo1 (by assumption) (by assumption) hs1 (by assumption)) (.inr ⟨lsU_f lo2 hs2 (by assumption), rfl⟩) (.inr ⟨fun z => vneg (by unfold mA; first | rw [if_pos (show k = 5 by assumption)] | rw [if_neg (show ¬ k = 5 by assumption)]) hs3 (by assumption) z.1, rfl⟩)).symm), (by have hb2 := hbu.st (k := k) hX hY; rw [st_is (s := (some (p1, p2), some (r1, r2))) (L := some (p1, p2)) (R := some (r1, r2)) (okU_yes (by unfold mA; first | rw [if_pos (show k = 5 by assumption)] | rw [if_neg (show ¬ k = 5 by assumption)]) lo1 (by assumption) (by assumption) hs1 (by assumption)) (.inr ⟨lsU_f lo2 hs2 (by assumption), rfl⟩) (.inr ⟨fun z => vneg (by unfold mA; first | rw [if_pos (show k = 5 by assumption)] | rw [if_neg (show ¬ k = 5 by assumption)]) hs3 (by assumption) z.1, rfl⟩)] at hb2; exact hb2), rfl, rfl⟩
              | exact ⟨_, _, _, _, (some (p1, p2), some ((-9 + (j : Int)), (-9 + (j_1 : Int)))), (by rw [rowU, ← hs]; exact (st_is (s := (some (p1, p2), some (r1, r2))) (L := some (p1, p2)) (R := some ((-9 + (j : Int)), (-9 + (j_1 : Int)))) (okU_yes (by unfold mA; first | rw [if_pos (show k = 5 by assumption)] | rw [if_neg (show ¬ k = 5 by assumption)]) lo1 (by assumption) (by assumption) hs1 (by assumption)) (.inr ⟨lsU_f lo2 hs2 (by assumption), rfl⟩) (.inl ⟨⟨vpos (by unfold mA; first | rw [if_pos (show k = 5 by assumption)] | rw [if_neg (show ¬ k = 5 by assumption)]) hs3 (by assumption), lsU_t lo3 hs4 (by assumption)⟩, rfl⟩)).symm), (by have hb2 := hbu.st (k := k) hX hY; rw [st_is (s := (some (p1, p2), some (r1, r2))) (L := some (p1, p2)) (R := some ((-9 + (j : Int)), (-9 + (j_1 : Int)))) (okU_yes (by unfold mA; first | rw [if_pos (show k = 5 by assumption)] | rw [if_neg (show ¬ k = 5 by assumption)]) lo1 (by assumption) (by assumption) hs1 (by assumption)) (.inr ⟨lsU_f lo2 hs2 (by assumption), rfl⟩) (.inl ⟨⟨vpos (by unfold mA; first | rw [if_pos (show k = 5 by assumption)] | rw [if_neg (show ¬ k = 5 by assumption)]) hs3 (by assumption), lsU_t lo3 hs4 (by assumption)⟩, rfl⟩)] at hb2; exact hb2), rfl, rfl⟩
              | exact ⟨_, _, _, _, (some (p1, p2), some (r1, r2)), (by rw [rowU, ← hs]; exact (st_is (s := (some (p1, p2), some (r1, r2))) (L := some (p1, p2)) (R := some (r1, r2)) (okU_yes (by unfold mA; first | rw [if_pos (show k = 5 by assumption)] | rw [if_neg (show ¬ k = 5 by assumption)]) lo1 (by assumption) (by assumption) hs1 (by assumption)) (.inr ⟨lsU_f lo2 hs2 (by assumption), rfl⟩) (.inr ⟨fun z => lsU_f lo3 hs4 (by assumption) z.2, rfl⟩)).symm), (by have hb2 := hbu.st (k := k) hX hY; rw [st_is (s := (some (p1, p2), some (r1, r2))) (L := some (p1, p2)) (R := some (r1, r2)) (okU_yes (by unfold mA; first | rw [if_pos (show k = 5 by assumption)] | rw [if_neg (show ¬ k = 5 by assumption)]) lo1 (by assumption) (by assumption) hs1 (by assumption)) (.inr ⟨lsU_f lo2 hs2 (by assumption), rfl⟩) (.inr ⟨fun z => lsU_f lo3 hs4 (by assumption) z.2, rfl⟩)] at hb2; exact hb2), rfl, rfl⟩
              | exact ⟨_, _, _, _, (some (p1, p2), some (r1, r2)), (by rw [rowU, ← hs]; exact (st_no (s := (some (p1, p2), some (r1, r2))) (okU_no1 (by unfold mA; first | rw [if_pos (show k = 5 by assumption)] | rw [if_neg (show ¬ k = 5 by assumption)]) lo1 (by assumption))).symm), (by have hb2 := hbu.st (k := k) hX hY; rw [st_no (s := (some (p1, p2), some (r1, r2))) (okU_no1 (by unfold mA; first | rw [if_pos (show k = 5 by assumption)] | rw [if_neg (show ¬ k = 5 by assumption)]) lo1 (by assumption))] at hb2; exact hb2), rfl, rfl⟩
              | exact ⟨_, _, _, _, (some (p1, p2), some (r1, r2)), (by rw [rowU, ← hs]; exact (st_no (s := (some (p1, p2), some (r1, r2))) (okU_no2 (by unfold mA; first | rw [if_pos (show k = 5 by assumption)] | rw [if_neg (show ¬ k = 5 by assumption)]) lo1 (by assumption))).symm), (by have hb2 := hbu.st (k := k) hX hY; rw [st_no (s := (some (p1, p2), some (r1, r2))) (okU_no2 (by unfold mA; first | rw [if_pos (show k = 5 by assumption)] | rw [if_neg (show ¬ k = 5 by assumption)]) lo1 (by assumption))] at hb2; exact hb2), rfl, rfl⟩
              | exact ⟨_, _, _, _, (some (p1, p2), some (r1, r2)), (by rw [rowU, ← hs]; exact (st_no (s := (some (p1, p2), some (r1, r2))) (okU_no3 hs1 (by assumption))).symm), (by have hb2 := hbu.st (k := k) hX hY; rw [st_no (s := (some (p1, p2), some (r1, r2))) (okU_no3 hs1 (by assumption))] at hb2; exact hb2), rfl, rfl⟩
          case h138 =>
            first
              | exact ⟨_, _, _, _, (some ((-9 + (j : Int)), (-9 + (j_1 : Int))), some (r1, r2)), (by rw [rowU, ← hs]; exact (st_is (s := (some (p1, p2), some (r1, r2))) (L := some ((-9 + (j : Int)), (-9 + (j_1 : Int)))) (R := some (r1, r2)) (okU_yes (by unfold mA; first | rw [if_pos (show k = 5 by assumption)] | rw [if_neg (show ¬ k = 5 by assumption)]) lo1 (by assumption) (by assumption) hs1 (by assumption)) (.inl ⟨lsU_t lo2 hs2 (by assumption), rfl⟩) (.inr ⟨fun z => vneg (by unfold mA; first | rw [if_pos (show k = 5 by assumption)] | rw [if_neg (show ¬ k = 5 by assumption)]) hs3 (by assumption) z.1, rfl⟩)).symm), (by have hb2 := hbu.st (k := k) hX hY; rw [st_is (s := (some (p1, p2), some (r1, r2))) (L := some ((-9 + (j : Int)), (-9 + (j_1 : Int)))) (R := some (r1, r2)) (okU_yes (by unfold mA; first | rw [if_pos (show k = 5 by assumption)] | rw [if_neg (show ¬ k = 5 by assumption)]) lo1 (by assumption) (by assumption) hs1 (by assumption)) (.inl ⟨lsU_t lo2 hs2 (by assumption), rfl⟩) (.inr ⟨fun z => vneg (by unfold mA; first | rw [if_pos (show k = 5 by assumption)] | rw [if_neg (show ¬ k = 5 by assumption)]) hs3 (by assumption) z.1, rfl⟩)] at hb2; exact hb2), rfl, rfl⟩
              | exact ⟨_, _, _, _, (some ((-9 + (j : Int)), (-9 + (j_1 : Int))), some ((-9 + (j : Int)), (-9 + (j_1 : Int)))), (by rw [rowU, ← hs]; exact (st_is (s := (some (p1, p2), some (r1, r2))) (L := some ((-9 + (j : Int)), (-9 + (j_1 : Int)))) (R := some ((-9 + (j : Int)), (-9 + (j_1 : Int)))) (okU_yes (by unfold mA; first | rw [if_pos (show k = 5 by assumption)] | rw [if_neg (show ¬ k = 5 by assumption)]) lo1 (by assumption) (by assumption) hs1 (by assumption)) (.inl ⟨lsU_t lo2 hs2 (by assumption), rfl⟩) (.inl ⟨⟨vpos (by unfold mA; first | rw [if_pos (show k = 5 by assumption)] | rw [if_neg (show ¬ k = 5 by assumption)]) hs3 (by assumption), lsU_t lo3 hs4 (by assumption)⟩, rfl⟩)).symm), (by have hb2 := hbu.st (k := k) hX hY; rw [st_is (s := (some (p1, p2), some (r1, r2))) (L := some ((-9 + (j : Int)), (-9 + (j_1 : Int)))) (R := some ((-9 + (j : Int)), (-9 + (j_1 : Int)))) (okU_yes (by unfold mA; first | rw [if_pos (show k = 5 by assumption)] | rw [if_neg (show ¬ k = 5 by assumption)]) lo1 (by assumption) (by assumption) hs1 (by assumption)) (.inl ⟨lsU_t lo2 hs2 (by assumption), rfl⟩) (.inl ⟨⟨vpos (by unfold mA; first | rw [if_pos (show k = 5 by assumption)] | rw [if_neg (show ¬ k = 5 by assumption)]) hs3 (by assumption), lsU_t lo3 hs4 (by assumption)⟩, rfl⟩)] at hb2; exact hb2), rfl, rfl⟩
              | exact ⟨_, _, _, _, (some ((-9 + (j : Int)), (-9 + (j_1 : Int))), some (r1, r2)), (by rw [rowU, ← hs]; exact (st_is (s := (some (p1, p2), some (r1, r2))) (L := some ((-9 + (j : Int)), (-9 + (j_1 : Int)))) (R := some (r1, r2)) (okU_yes (by unfold mA; first | rw [if_pos (show k = 5 by assumption)] | rw [if_neg (show ¬ k = 5 by assumption)]) lo1 (by assumption) (by assumption) hs1 (by assumption)) (.inl ⟨lsU_t lo2 hs2 (by assumption), rfl⟩) (.inr ⟨fun z => lsU_f lo3 hs4 (by assumption) z.2, rfl⟩)).symm), (by have hb2 := hbu.st (k := k) hX hY; rw [st_is (s := (some (p1, p2), some (r1, r2))) (L := some ((-9 + (j : Int)), (-9 + (j_1 : Int)))) (R := some (r1, r2)) (okU_yes (by unfold mA; first | rw [if_pos (show k = 5 by assumption)] | rw [if_neg (show ¬ k = 5 by assumption)]) lo1 (by assumption) (by assumption) hs1 (by assumption)) (.inl ⟨lsU_t lo2 hs2 (by assumption), rfl⟩) (.inr ⟨fun z => lsU_f lo3 hs4 (by assumption) z.2, rfl⟩)] at hb2; exact hb2), rfl, rfl⟩
              | exact ⟨_, _, _, _, (some (p1, p2), some (r1, r2)), (by rw [rowU, ← hs]; exact (st_is (s := (some (p1, p2), some (r1, r2))) (L := some (p1, p2)) (R := some (r1, r2)) (okU_yes (by unfold mA; first | rw [if_pos (show k = 5 by assumption)] | rw [if_neg (show ¬ k = 5 by assumption)]) lo1 (by assumption) (by assumption) hs1 (by assumption)) (.inr ⟨lsU_f lo2 hs2 (by assumption), rfl⟩) (.inr ⟨fun z => vneg (by unfold mA; first | rw [if_pos (show k = 5 by assumption)] | rw [if_neg (show ¬ k = 5 by assumption)]) hs3 (by assumption) z.1, rfl⟩)).symm), (by have hb2 := hbu.st (k := k) hX hY; rw [st_is (s := (some (p1, p2), some (r1, r2))) (L := some (p1, p2)) (R := some (r1, r2)) (okU_yes (by unfold mA; first | rw [if_pos (show k = 5 by assumption)] | rw [if_neg (show ¬ k = 5 by assumption)]) lo1 (by assumption) (by assumption) hs1 (by assumption)) (.inr ⟨lsU_f lo2 hs2 (by assumption), rfl⟩) (.inr ⟨fun z => vneg (by unfold mA; first | rw [if_pos (show k = 5 by assumption)] | rw [if_neg (show ¬ k = 5 by assumption)]) hs3 (by assumption) z.1, rfl⟩)] at hb2; exact hb2), rfl, rfl⟩
              | exact ⟨_, _, _, _, (some (p1, p2), some ((-9 + (j : Int)), (-9 + (j_1 : Int)))), (by rw [rowU, ← hs]; exact (st_is (s := (some (p1, p2), some (r1, r2))) (L := some (p1, p2)) (R := some ((-9 + (j : Int)), (-9 + (j_1 : Int)))) (okU_yes (by unfold mA; first | rw [if_pos (show k = 5 by assumption)] | rw [if_neg (show ¬ k = 5 by assumption)]) lo1 (by assumption) (by assumption) hs1 (by assumption)) (.inr ⟨lsU_f lo2 hs2 (by assumption), rfl⟩) (.inl ⟨⟨vpos (by unfold mA; first | rw [if_pos (show k = 5 by assumption)] | rw [if_neg (show ¬ k = 5 by assumption)]) hs3 (by assumption), lsU_t lo3 hs4 (by assumption)⟩, rfl⟩)).symm), (by have hb2 := hbu.st (k := k) hX hY; rw [st_is (s := (some (p1, p2), some (r1, r2))) (L := some (p1, p2)) (R := some ((-9 + (j : Int)), (-9 + (j_1 : Int)))) (okU_yes (by unfold mA; first | rw [if_pos (show k = 5 by assumption)] | rw [if_neg (show ¬ k = 5 by assumption)]) lo1 (by assumption) (by assumption) hs1 (by assumption)) (.inr ⟨lsU_f lo2 hs2 (by assumption), rfl⟩) (.inl ⟨⟨vpos (by unfold mA; first | rw [if_pos (show k = 5 by assumption)] | rw [if_neg (show ¬ k = 5 by assumption)]) hs3 (by assumption), lsU_t lo3 hs4 (by assumption)⟩, rfl⟩)] at hb2; exact hb2), rfl, rfl⟩
              | exact ⟨_, _, _, _, (some (p1, p2), some (r1, r2)), (by rw [rowU, ← hs]; exact (st_is (s := (some (p1, p2), some (r1, r2))) (L := some (p1, p2)) (R := some (r1, r2)) (okU_yes (by unfold mA; first | rw [if_pos (show k = 5 by assumption)] | rw [if_neg (show ¬ k = 5 by assumption)]) lo1 (by assumption) (by assumption) hs1 (by assumption)) (.inr ⟨lsU_f lo2 hs2 (by assumption), rfl⟩) (.inr ⟨fun z => lsU_f lo3 hs4 (by assumption) z.2, rfl⟩)).symm), (by have hb2 := hbu.st (k := k) hX hY; rw [st_is (s := (some (p1, p2), some (r1, r2))) (L := some (p1, p2)) (R := some (r1, r2)) (okU_yes (by unfold mA; first | rw [if_pos (show k = 5 by assumption)] | rw [if_neg (show ¬ k = 5 by assumption)]) lo1 (by assumption) (by assumption) hs1 (by assumption)) (.inr ⟨lsU_f lo2 hs2 (by assumption), rfl⟩) (.inr ⟨fun z => lsU_f lo3 hs4 (by assumption) z.2, rfl⟩)] at hb2; exact hb2), rfl, rfl⟩
              | exact ⟨_, _, _, _, (some (p1, p2), some (r1, r2)), (by rw [rowU, ← hs]; exact (st_no (s := (some (p1, p2), some (r1, r2))) (okU_no1 (by unfold mA; first | rw [if_pos (show k = 5 by assumption)] | rw [if_neg (show ¬ k = 5 by assumption)]) lo1 (by assumption))).symm), (by have hb2 := hbu.st (k := k) hX hY; rw [st_no (s := (some (p1, p2), some (r1, r2))) (okU_no1 (by unfold mA; first | rw [if_pos (show k = 5 by assumption)] | rw [if_neg (show ¬ k = 5 by assumption)]) lo1 (by assumption))] at hb2; exact hb2), rfl, rfl⟩
              | exact ⟨_, _, _, _, (some (p1, p2), some (r1, r2)), (by rw [rowU, ← hs]; exact (st_no (s := (some (p1, p2), some (r1, r2))) (okU_no2 (by unfold mA; first | rw [if_pos (show k = 5 by assumption)] | rw [if_neg (show ¬ k = 5 by assumption)]) lo1 (by assumption))).symm), (by have hb2 := hbu.st (k := k) hX hY; rw [st_no (s := (some (p1, p2), some (r1, r2))) (okU_no2 (by unfold mA; first | rw [if_pos (show k = 5 by assumption)] | rw [if_neg (show ¬ k = 5 by assumption)]) lo1 (by assumption))] at hb2; exact hb2), rfl, rfl⟩
              | exact ⟨_, _, _, _, (some (p1, p2), some (r1, r2)), (by rw [rowU, ← hs]; exact (st_no (s := (some (p1, p2), some (r1, r2))) (okU_no3 hs1 (by assumption))).symm), (by have hb2 := hbu.st (k := k) hX hY; rw [st_no (s := (some (p1, p2), some (r1, r2))) (okU_no3 hs1 (by assumption))] at hb2; exact hb2), rfl, rfl⟩
          case h139 =>
            first
              | exact ⟨_, _, _, _, (some ((-9 + (j : Int)), (-9 + (j_1 : Int))), some (r1, r2)), (by rw [rowU, ← hs]; exact (st_is (s := (some (p1, p2), some (r1, r2))) (L := some ((-9 + (j : Int)), (-9 + (j_1 : Int)))) (R := some (r1, r2)) (okU_yes (by unfold mA; first | rw [if_pos (show k = 5 by assumption)] | rw [if_neg (show ¬ k = 5 by assumption)]) lo1 (by assumption) (by assumption) hs1 (by assumption)) (.inl ⟨lsU_t lo2 hs2 (by assumption), rfl⟩) (.inr ⟨fun z => vneg (by unfold mA; first | rw [if_pos (show k = 5 by assumption)] | rw [if_neg (show ¬ k = 5 by assumption)]) hs3 (by assumption) z.1, rfl⟩)).symm), (by have hb2 := hbu.st (k := k) hX hY; rw [st_is (s := (some (p1, p2), some (r1, r2))) (L := some ((-9 + (j : Int)), (-9 + (j_1 : Int)))) (R := some (r1, r2)) (okU_yes (by unfold mA; first | rw [if_pos (show k = 5 by assumption)] | rw [if_neg (show ¬ k = 5 by assumption)]) lo1 (by assumption) (by assumption) hs1 (by assumption)) (.inl ⟨lsU_t lo2 hs2 (by assumption), rfl⟩) (.inr ⟨fun z => vneg (by unfold mA; first | rw [if_pos (show k = 5 by assumption)] | rw [if_neg (show ¬ k = 5 by assumption)]) hs3 (by assumption) z.1, rfl⟩)] at hb2; exact hb2), rfl, rfl⟩
              | exact ⟨_, _, _, _, (some ((-9 + (j : Int)), (-9 + (j_1 : Int))), some ((-9 + (j : Int)), (-9 + (j_1 : Int)))), (by rw [rowU, ← hs]; exact (st_is (s := (some (p1, p2), some (r1, r2))) (L := some ((-9 + (j : Int)), (-9 + (j_1 : Int)))) (R := some ((-9 + (j : Int)), (-9 + (j_1 : Int)))) (okU_yes (by unfold mA; first | rw [if_pos (show k = 5 by assumption)] | rw [if_neg (show ¬ k = 5 by assumption)]) lo1 (by assumption) (by assumption) hs1 (by assumption)) (.inl ⟨lsU_t lo2 hs2 (by assumption), rfl⟩) (.inl ⟨⟨vpos (by unfold mA; first | rw [if_pos (show k = 5 by assumption)] | rw [if_neg (show ¬ k = 5 by assumption)]) hs3 (by assumption), lsU_t lo3 hs4 (by assumption)⟩, rfl⟩)).symm), (by have hb2 := hbu.st (k := k) hX hY; rw [st_is (s := (some (p1, p2), some (r1, r2))) (L := some ((-9 + (j : Int)), (-9 + (j_1 : Int)))) (R := some ((-9 + (j : Int)), (-9 + (j_1 : Int)))) (okU_yes (by unfold mA; first | rw [if_pos (show k = 5 by assumption)] | rw [if_neg (show ¬ k = 5 by assumption)]) lo1 (by assumption) (by assumption) hs1 (by assumption)) (.inl ⟨lsU_t lo2 hs2 (by assumption), rfl⟩) (.inl ⟨⟨vpos (by unfold mA; first | rw [if_pos (show k = 5 by assumption)] | rw [if_neg (show ¬ k = 5 by assumption)]) hs3 (by assumption), lsU_t lo3 hs4 (by assumption)⟩, rfl⟩)] at hb2; exact hb2), rfl, rfl⟩
              | exact ⟨_, _, _, _, (some ((-9 + (j : Int)), (-9 + (j_1 : Int))), some (r1, r2)), (by rw [rowU, ← hs]; exact (st_is (s := (some (p1, p2), some (r1, r2))) (L := some ((-9 + (j : Int)), (-9 + (j_1 : Int)))) (R := some (r1, r2)) (okU_yes (by unfold mA; first | rw [if_pos (show k = 5 by assumption)] | rw [if_neg (show ¬ k = 5 by assumption)]) lo1 (by assumption) (by assumption) hs1 (by assumption)) (.inl ⟨lsU_t lo2 hs2 (by assumption), rfl⟩) (.inr ⟨fun z => lsU_f lo3 hs4 (by assumption) z.2, rfl⟩)).symm), (by have hb2 := hbu.st (k := k) hX hY; rw [st_is (s := (some (p1, p2), some (r1, r2))) (L := some ((-9 + (j : Int)), (-9 + (j_1 : Int)))) (R := some (r1, r2)) (okU_yes (by unfold mA; first | rw [if_pos (show k = 5 by assumption)] | rw [if_neg (show ¬ k = 5 by assumption)]) lo1 (by assumption) (by assumption) hs1 (by assumption)) (.inl ⟨lsU_t lo2 hs2 (by assumption), rfl⟩) (.inr ⟨fun z => lsU_f lo3 hs4 (by assumption) z.2, rfl⟩)] at hb2; exact hb2), rfl, rfl⟩
              | exact ⟨_, _, _, _, (some (p1, p2), some (r1, r2)), (by rw [rowU, ← hs]; exact (st_is (s := (some (p1, p2), some (r1, r2))) (L := some (p1, p2)) (R := some (r1, r2)) (okU_yes (by unfold mA; first | rw [if_pos (show k = 5 by assumption)] | rw [if_neg (show ¬ k = 5 by assumption)]) lo1 (by assumption) (by assumption) hs1 (by assumption)) (.inr ⟨lsU_f lo2 hs2 (by assumption), rfl⟩) (.inr ⟨fun z => vneg (by unfold mA; first | rw [if_pos (show k = 5 by assumption)] | rw [if_neg (show ¬ k = 5 by assumption)]) hs3 (by assumption) z.1, rfl⟩)).symm), (by have hb2 := hbu.st (k := k) hX hY; rw [st_is (s := (some (p1, p2), some (r1, r2))) (L := some (p1, p2)) (R := some (r1, r2)) (okU_yes (by unfold mA; first | rw [if_pos (show k = 5 by assumption)] | rw [if_neg (show ¬ k = 5 by assumption)]) lo1 (by assumption) (by assumption) hs1 (by assumption)) (.inr ⟨lsU_f lo2 hs2 (by assumption), rfl⟩) (.inr ⟨fun z => vneg (by unfold mA; first | rw [if_pos (show k = 5 by assumption)] | rw [if_neg (show ¬ k = 5 by assumption)]) hs3 (by assumption) z.1, rfl⟩)] at hb2; exact hb2), rfl, rfl⟩
              | exact ⟨_, _, _, _, (some (p1, p2), some ((-9 + (j : Int)), (-9 + (j_1 : Int)))), (by rw [rowU, ← hs]; exact (st_is (s := (some (p1, p2), some (r1, r2))) (L := some (p1, p2)) (R := some ((-9 + (j : Int)), (-9 + (j_1 : Int)))) (okU_yes (by unfold mA; first | rw [if_pos (show k = 5 by assumption)] | rw [if_neg (show ¬ k = 5 by assumption)]) lo1 (by assumption) (by assumption) hs1 (by assumption)) (.inr ⟨lsU_f lo2 hs2 (by assumption), rfl⟩) (.inl ⟨⟨vpos (by unfold mA; first | rw [if_pos (show k = 5 by assumption)] | rw [if_neg (show ¬ k = 5 by assumption)]) hs3 (by assumption), lsU_t lo3 hs4 (by assumption)⟩, rfl⟩)).symm), (by have hb2 := hbu.st (k := k) hX hY; rw [st_is (s := (some (p1, p2), some (r1, r2))) (L := some (p1, p2)) (R := some ((-9 + (j : Int)), (-9 + (j_1 : Int)))) (okU_yes (by unfold mA; first | rw [if_pos (show k = 5 by assumption)] | rw [if_neg (show ¬ k = 5 by assumption)]) lo1 (by assumption) (by assumption) hs1 (by assumption)) (.inr ⟨lsU_f lo2 hs2 (by assumption), rfl⟩) (.inl ⟨⟨vpos (by unfold mA; first | rw [if_pos (show k = 5 by assumption)] | rw [if_neg (show ¬ k = 5 by assumption)]) hs3 (by assumption), lsU_t lo3 hs4 (by assumption)⟩, rfl⟩)] at hb2; exact hb2), rfl, rfl⟩
              | exact ⟨_, _, _, _, (some (p1, p2), some (r1, r2)), (by rw [rowU, ← hs]; exact (st_is (s := (some (p1, p2), some (r1, r2))) (L := some (p1, p2)) (R := some (r1, r2)) (okU_yes (by unfold mA; first | rw [if_pos (show k = 5 by assumption)] | rw [if_neg (show ¬ k = 5 by assumption)]) lo1 (by assumption) (by assumption) hs1 (by assumption)) (.inr ⟨lsU_f lo2 hs2 (by assumption), rfl⟩) (.inr ⟨fun z => lsU_f lo3 hs4 (by assumption) z.2, rfl⟩)).symm), (by have hb2 := hbu.st (k := k) hX hY; rw [st_is (s := (some (p1, p2), some (r1, r2))) (L := some (p1, p2)) (R := some (r1, r2)) (okU_yes (by unfold mA; first | rw [if_pos (show k = 5 by assumption)] | rw [if_neg (show ¬ k = 5 by assumption)]) lo1 (by assumption) (by assumption) hs1 (by assumption)) (.inr ⟨lsU_f lo2 hs2 (by assumption), rfl⟩) (.inr ⟨fun z => lsU_f lo3 hs4 (by assumption) z.2, rfl⟩)] at hb2; exact hb2), rfl, rfl⟩
              | exact ⟨_, _, _, _, (some (p1, p2), some (r1, r2)), (by rw [rowU, ← hs]; exact (st_no (s := (some (p1, p2), some (r1, r2))) (okU_no1 (by unfold mA; first | rw [if_pos (show k = 5 by assumption)] | rw [if_neg (show ¬ k = 5 by assumption)]) lo1 (by assumption))).symm), (by have hb2 := hbu.st (k := k) hX hY; rw [st_no (s := (some (p1, p2), some (r1, r2))) (okU_no1 (by unfold mA; first | rw [if_pos (show k = 5 by assumption)] | rw [if_neg (show ¬ k = 5 by assumption)]) lo1 (by assumption))] at hb2; exact hb2), rfl, rfl⟩
              | exact ⟨_, _, _, _, (some (p1, p2), some (r1, r2)), (by rw [rowU, ← hs]; exact (st_no (s := (some (p1, p2), some (r1, r2))) (okU_no2 (by unfold mA; first | rw [if_pos (show k = 5 by assumption)] | rw [if_neg (show ¬ k = 5 by assumption)]) lo1 (by assumption))).symm), (by have hb2 := hbu.st (k := k) hX hY; rw [st_no (s := (some (p1, p2), some (r1, r2))) (okU_no2 (by unfold mA; first | rw [if_pos (show k = 5 by assumption)] | rw [if_neg (show ¬ k = 5 by assumption)]) lo1 (by assumption))] at hb2; exact hb2), rfl, rfl⟩
              | exact ⟨_, _, _, _, (some (p1, p2), some (r1, r2)), (by rw [rowU, ← hs]; exact (st_no (s := (some (p1, p2), some (r1, r2))) (okU_no3 hs1 (by assumption))).symm), (by have hb2 := hbu.st (k := k) hX hY; rw [st_no (s := (some (p1, p2), some (r1, r2))) (okU_no3 hs1 (by assumption))] at hb2; exact hb2), rfl, rfl⟩
          case h140 =>
            first
              | exact ⟨_, _, _, _, (some ((-9 + (j : Int)), (-9 + (j_1 : Int))), some (r1, r2)), (by rw [rowU, ← hs]; exact (st_is (s := (some (p1, p2), some (r1, r2))) (L := some ((-9 + (j : Int)), (-9 + (j_1 : Int)))) (R := some (r1, r2)) (okU_yes (by unfold mA; first | rw [if_pos (show k = 5 by assumption)] | rw [if_neg (show ¬ k = 5 by assumption)]) lo1 (by assumption) (by assumption) hs1 (by assumption)) (.inl ⟨lsU_t lo2 hs2 (by assumption), rfl⟩) (.inr ⟨fun z => vneg (by unfold mA; first | rw [if_pos (show k = 5 by assumption)] | rw [if_neg (show ¬ k = 5 by assumption)]) hs3 (by assumption) z.1, rfl⟩)).symm), (by have hb2 := hbu.st (k := k) hX hY; rw [st_is (s := (some (p1, p2), some (r1, r2))) (L := some ((-9 + (j : Int)), (-9 + (j_1 : Int)))) (R := some (r1, r2)) (okU_yes (by unfold mA; first | rw [if_pos (show k = 5 by assumption)] | rw [if_neg (show ¬ k = 5 by assumption)]) lo1 (by assumption) (by assumption) hs1 (by assumption)) (.inl ⟨lsU_t lo2 hs2 (by assumption), rfl⟩) (.inr ⟨fun z => vneg (by unfold mA; first | rw [if_pos (show k = 5 by assumption)] | rw [if_neg (show ¬ k = 5 by assumption)]) hs3 (by assumption) z.1, rfl⟩)] at hb2; exact hb2), rfl, rfl⟩
              | exact ⟨_, _, _, _, (some ((-9 + (j : Int)), (-9 + (j_1 : Int))), some ((-9 + (j : Int)), (-9 + (j_1 : Int)))), (by rw [rowU, ← hs]; exact (st_is (s := (some (p1, p2), some (r1, r2))) (L := some ((-9 + (j : Int)), (-9 + (j_1 : Int)))) (R := some ((-9 + (j : Int)), (-9 + (j_1 : Int)))) (okU_yes (by unfold mA; first | rw [if_pos (show k = 5 by assumption)] | rw [if_neg (show ¬ k = 5 by assumption)]) lo1 (by assumption) (by assumption) hs1 (by assumption)) (.inl ⟨lsU_t lo2 hs2 (by assumption), rfl⟩) (.inl ⟨⟨vpos (by unfold mA; first | rw [if_pos (show k = 5 by assumption)] | rw [if_neg (show ¬ k = 5 by assumption)]) hs3 (by assumption), lsU_t lo3 hs4 (by assumption)⟩, rfl⟩)).symm), (by have hb2 := hbu.st (k := k) hX hY; rw [st_is (s := (some (p1, p2), some (r1, r2))) (L := some ((-9 + (j : Int)), (-9 + (j_1 : Int)))) (R := some ((-9 + (j : Int)), (-9 + (j_1 : Int)))) (okU_yes (by unfold mA; first | rw [if_pos (show k = 5 by assumption)] | rw [if_neg (show ¬ k = 5 by assumption)]) lo1 (by assumption) (by assumption) hs1 (by assumption)) (.inl ⟨lsU_t lo2 hs2 (by assumption), rfl⟩) (.inl ⟨⟨vpos (by unfold mA; first | rw [if_pos (show k = 5 by assumption)] | rw [if_neg (show ¬ k = 5 by assumption)]) hs3 (by assumption), lsU_t lo3 hs4 (by assumption)⟩, rfl⟩)] at hb2; exact hb2), rfl, rfl⟩
              | exact ⟨_, _, _, _, (some ((-9 + (j : Int)), (-9 + (j_1 : Int))), some (r1, r2)), (by rw [rowU, ← hs]; exact (st_is (s := (some (p1, p2), some (r1, r2))) (L := some ((-9 + (j : Int)), (-9 + (j_1 : Int)))) (R := some (r1, r2)) (okU_yes (by unfold mA; first | rw [if_pos (show k = 5 by assumption)] | rw [if_neg (show ¬ k = 5 by assumption)]) lo1 (by assumption) (by assumption) hs1 (by assumption)) (.inl ⟨lsU_t lo2 hs2 (by assumption), rfl⟩) (.inr ⟨fun z => lsU_f lo3 hs4 (by assumption) z.2, rfl⟩)).symm), (by have hb2 := hbu.st (k := k) hX hY; rw [st_is (s := (some (p1, p2), some (r1, r2))) (L := some ((-9 + (j : Int)), (-9 + (j_1 : Int)))) (R := some (r1, r2)) (okU_yes (by unfold mA; first | rw [if_pos (show k = 5 by assumption)] | rw [if_neg (show ¬ k = 5 by assumption)]) lo1 (by assumption) (by assumption) hs1 (by assumption)) (.inl ⟨lsU_t lo2 hs2 (by assumption), rfl⟩) (.inr ⟨fun z => lsU_f lo3 hs4 (by assumption) z.2, rfl⟩)] at hb2; exact hb2), rfl, rfl⟩
              | exact ⟨_, _, _, _, (some (p1, p2), some (r1, r2)), (by rw [rowU, ← hs]; exact (st_is (s := (some (p1, p2), some (r1, r2))) (L := some (p1, p2)) (R := some (r1, r2)) (okU_yes (by unfold mA; first | rw [if_pos (show k = 5 by assumption)] | rw [if_neg (show ¬ k = 5 by assumption)]) lo1 (by assumption) (by assumption) hs1 (by assumption)) (.inr ⟨lsU_f lo2 hs2 (by assumption), rfl⟩) (.inr ⟨fun z => vneg (by unfold mA; first | rw [if_pos (show k = 5 by assumption)] | rw [if_neg (show ¬ k = 5 by assumption)]) hs3 (by assumption) z.1, rfl⟩)).symm), (by have hb2 := hbu.st (k := k) hX hY; rw [st_is (s := (some (p1, p2), some (r1, r2))) (L := some (p1, p2)) (R := some (r1, r2)) (okU_yes (by unfold mA; first | rw [if_pos (show k = 5 by assumption)] | rw [if_neg (show ¬ k = 5 by assumption)]) lo1 (by assumption) (by assumption) hs1 (by assumption)) (.inr ⟨lsU_f lo2 hs2 (by assumption), rfl⟩) (.inr ⟨fun z => vneg (by unfold mA; first | rw [if_pos (show k = 5 by assumption)] | rw [if_neg (show ¬ k = 5 by assumption)]) hs3 (by assumption) z.1, rfl⟩)] at hb2; exact hb2), rfl, rfl⟩
              | exact ⟨_, _, _, _, (some (p1, p2), some ((-9 + (j : Int)), (-9 + (j_1 : Int)))), (by rw [rowU, ← hs]; exact (st_is (s := (some (p1, p2), some (r1, r2))) (L := some (p1, p2)) (R := some ((-9 + (j : Int)), (-9 + (j_1 : Int)))) (okU_yes (by unfold mA; first | rw [if_pos (show k = 5 by assumption)] | rw [if_neg (show ¬ k = 5 by assumption)]) lo1 (by assumption) (by assumption) hs1 (by assumption)) (.inr ⟨lsU_f lo2 hs2 (by assumption), rfl⟩) (.inl ⟨⟨vpos (by unfold mA; first | rw [if_pos (show k = 5 by assumption)] | rw [if_neg (show ¬ k = 5 by assumption)]) hs3 (by assumption), lsU_t lo3 hs4 (by assumption)⟩, rfl⟩)).symm), (by have hb2 := hbu.st (k := k) hX hY; rw [st_is (s := (some (p1, p2), some (r1, r2))) (L := some (p1, p2)) (R := some ((-9 + (j : Int)), (-9 + (j_1 : Int)))) (okU_yes (by unfold mA; first | rw [if_pos (show k = 5 by assumption)] | rw [if_neg (show ¬ k = 5 by assumption)]) lo1 (by assumption) (by assumption) hs1 (by assumption)) (.inr ⟨lsU_f lo2 hs2 (by assumption), rfl⟩) (.inl ⟨⟨vpos (by unfold mA; first | rw [if_pos (show k = 5 by assumption)] | rw [if_neg (show ¬ k = 5 by assumption)]) hs3 (by assumption), lsU_t lo3 hs4 (by assumption)⟩, rfl⟩)] at hb2; exact hb2), rfl, rfl⟩
              | exact ⟨_, _, _, _, (some (p1, p2), some (r1, r2)), (by rw [rowU, ← hs]; exact (st_is (s := (some (p1, p2), some (r1, r2))) (L := some (p1, p2)) (R := some (r1, r2)) (okU_yes (by unfold mA; first | rw [if_pos (show k = 5 by assumption)] | rw [if_neg (show ¬ k = 5 by assumption)]) lo1 (by assumption) (by assumption) hs1 (by assumption)) (.inr ⟨lsU_f lo2 hs2 (by assumption), rfl⟩) (.inr ⟨fun z => lsU_f lo3 hs4 (by assumption) z.2, rfl⟩)).symm), (by have hb2 := hbu.st (k := k) hX hY; rw [st_is (s := (some (p1, p2), some (r1, r2))) (L := some (p1, p2)) (R := some (r1, r2)) (okU_yes (by unfold mA; first | rw [if_pos (show k = 5 by assumption)] | rw [if_neg (show ¬ k = 5 by assumption)]) lo1 (by assumption) (by assumption) hs1 (by assumption)) (.inr ⟨lsU_f lo2 hs2 (by assumption), rfl⟩) (.inr ⟨fun z => lsU_f lo3 hs4 (by assumption) z.2, rfl⟩)] at hb2; exact hb2), rfl, rfl⟩
              | exact ⟨_, _, _, _, (some (p1, p2), some (r1, r2)), (by rw [rowU, ← hs]; exact (st_no (s := (some (p1, p2), some (r1, r2))) (okU_no1 (by unfold mA; first | rw [if_pos (show k = 5 by assumption)] | rw [if_neg (show ¬ k = 5 by assumption)]) lo1 (by assumption))).symm), (by have hb2 := hbu.st (k := k) hX hY; rw [st_no (s := (some (p1, p2), some (r1, r2))) (okU_no1 (by unfold mA; first | rw [if_pos (show k = 5 by assumption)] | rw [if_neg (show ¬ k = 5 by assumption)]) lo1 (by assumption))] at hb2; exact hb2), rfl, rfl⟩
              | exact ⟨_, _, _, _, (some (p1, p2), some (r1, r2)), (by rw [rowU, ← hs]; exact (st_no (s := (some (p1, p2), some (r1, r2))) (okU_no2 (by unfold mA; first | rw [if_pos (show k = 5 by assumption)] | rw [if_neg (show ¬ k = 5 by assumption)]) lo1 (by assumption))).symm), (by have hb2 := hbu.st (k := k) hX hY; rw [st_no (s := (some (p1, p2), some (r1, r2))) (okU_no2 (by unfold mA; first | rw [if_pos (show k = 5 by assumption)] | rw [if_neg (show ¬ k = 5 by assumption)]) lo1 (by assumption))] at hb2; exact hb2), rfl, rfl⟩
              | exact ⟨_, _, _, _, (some (p1, p2), some (r1, r2)), (by rw [rowU, ← hs]; exact (st_no (s := (some (p1, p2), some (r1, r2))) (okU_no3 hs1 (by assumption))).symm), (by have hb2 := hbu.st (k := k) hX hY; rw [st_no (s := (some (p1, p2), some (r1, r2))) (okU_no3 hs1 (by assumption))] at hb2; exact hb2), rfl, rfl⟩
      case h6 =>
        obtain ⟨y, u, v, z, s, hs, hbu, rfl, rfl⟩ := hw
        refine (as_end rfl ?h141)
        case h141 =>
          subst hs
          exact ⟨_, _, _, _, _, rfl, rfl⟩
      case h142 =>
        exact sc__law_units.nd
      case h143 =>
        first | omega | decide
      case h144 =>
        exact ⟨_, _, _, _, _, rfl, BU.all j (by omega), rfl, rfl⟩
    case h4 =>
      obtain ⟨x, y, u, v, z, rfl, rfl⟩ := hw
      rw [show allU k (10 - -9 : Int).toNat = _ from (allU_is hk).1]
      refine (as_retN hQ (n_disp (ca_cons (nm 1 rfl (ca_cons (nm 2 rfl (ca_nil (And.intro (And.intro rfl (Nat.le_of_ble_eq_true rfl)) ?h145))))))))
      case h145 =>
        have q := allU_is hk
        rw [show tD (unF k) = nD (unF k).1 (unF k).2.1 1 by show Dat.tup [_, _, .int (unF k).2.2] = _; rw [q.2.1], show tD (suF k) = nD (suF k).1 (suF k).2.1 1 by show Dat.tup [_, _, .int (suF k).2.2] = _; rw [q.2.2]] at hG
        exact hG
    case h146 =>
      first | omega | decide

end
end Y02

set_option Elab.async false
set_option linter.all false
set_option maxRecDepth 100000
set_option maxHeartbeats 8000000
namespace Y02
open PySem PySem.Spec PyProof.Rows L2 Evl Wz
local macro_rules | `(tactic| walk_at "bd") => `(tactic| (repeat (first | assumption | apply Bd.mul | apply Bd.add | apply Bd.sub | apply Bd.neg | exact Bd.z | exact Bd.of _)))
local macro_rules | `(tactic| walk_at "bm") => `(tactic| (first | assumption | exact Bd.mono (by walk_at "bd") (by decide)))
local macro_rules | `(tactic| walk_at "b2") => `(tactic| (repeat (first | assumption | apply And.intro | walk_at "bm" | decide | omega)))

def P4 (a b n : Int) : Prop := Nm a b n ∧ Bd 4400 a ∧ Bd 4400 b ∧ Bd 4400 n
theorem at2t {i a b n c e m : Int} {C : Dat → Prop} (h0 : 0 ≤ i) (h1 : i < 2) (hA : P4 a b n) (hB : P4 c e m) (h : ∀ x y z : Int, P4 x y z → C (nD x y z)) : onAt [nD a b n, nD c e m] i C := by
  by_cases e : i = 0
  · exact ⟨0, _, by omega, rfl, h _ _ _ hA⟩
  · exact ⟨1, _, by omega, rfl, h _ _ _ hB⟩
theorem at3k {i : Int} {C : Dat → Prop} (h0 : 0 ≤ i) (h1 : i < 3) (h : ∀ k, Kd k → C (.int k)) : onAt [.int 2, .int 3, .int 5] i C := by
  by_cases e : i = 0
  · exact ⟨0, _, by omega, rfl, h _ (.inl rfl)⟩
  · by_cases e1 : i = 1
    · exact ⟨1, _, by omega, rfl, h _ (.inr (.inl rfl))⟩
    · exact ⟨2, _, by omega, rfl, h _ (.inr (.inr rfl))⟩
theorem cmp_back {k a b n c e m : Int} : lsD k (c * n - a * m) (e * n - b * m) = -(lsD k (a * m - c * n) (b * m - e * n)) := by
  rw [← ls_neg, show -(a * m - c * n) = c * n - a * m by omega, show -(b * m - e * n) = e * n - b * m by omega]
theorem fl_a {k a b n s : Int} (hk : Kd k) (hn : 0 < n) (hs : s = flQ k a b n (rtI (k * b * b))) : 0 ≤ lsD k (a - s * n) b ∧ lsD k (a - (s + 1) * n) b < 0 := by
  obtain ⟨q1, q2, q3⟩ := rtI_ok (sq_nn (b := b) hk)
  rw [hs]
  exact fl_ok hk hn q1 q2 q3
theorem fl_b {k a b n s : Int} {m : Nat} (hk : Kd k) (ha : Bd m a) (hb : Bd m b) (hn : 0 < n) (hs : s = flQ k a b n (rtI (k * b * b))) : Bd (m + 4) s := by
  obtain ⟨q1, q2, q3⟩ := rtI_ok (sq_nn (b := b) hk)
  rw [hs]
  exact fl_bd hk ha hb hn q1 q2
section
variable {P : Program} {w : World} {K : PySem.W.Frag} {mg : Str → Option Value} {base : Heap}

/-! ### _law_right -/
abbrev s__law_right : Stmt := topS 39
theorem sc__law_right : FnScope ["deck", "field", "u", "v", "due", "whole", "many", "power", "turn"] ["deck", "field"] (defScope s__law_right) := ⟨rfl, rfl, rfl, by decide +kernel, rfl, by decide +kernel, by decide +kernel⟩
def F__law_right : FD := fun ds c Q => ∃ k, ds = [.int k] ∧ (Kd k ∧ Dk c) ∧ ∀ c', Dk c' → Q (.bl true) c'
theorem ok__law_right {f : Addr} {fd : FuncData} (Fn : Fun K "_law_right" "_law_right" s__law_right f fd) (c__law_drawn : Cl P w K mg base 5 "_law_drawn" ["deck", "field"] (spD K F__law_drawn)) (c__law_take : Cl P w K mg base 1 "_law_take" ["deck", "many"] (spD K F__law_take)) (c__law_plus : Cl P w K mg base 3 "_law_plus" ["u", "v"] (spP K F__law_plus)) (c__law_near : Cl P w K mg base 4 "_law_near" ["deck", "field"] (spD K F__law_near)) (c__law_same : Cl P w K mg base 3 "_law_same" ["found", "due"] (spP K (F__law_same 2))) (c_sign : Cl P w K mg base 4 "sign" ["kind", "p"] (spP K F_sign)) (c__law_sign : Cl P w K mg base 1 "_law_sign" ["field", "u"] (spP K F__law_sign)) (c__law_minus : Cl P w K mg base 3 "_law_minus" ["u", "v"] (spP K F__law_minus)) (c_compared : Cl P w K mg base 4 "compared" ["kind", "p", "q"] (spP K F_compared)) (c_floor_of : Cl P w K mg base 4 "floor_of" ["kind", "p"] (spP K F_floor_of)) (c__law_is_floor : Cl P w K mg base 4 "_law_is_floor" ["field", "u", "whole"] (spP K F__law_is_floor)) (c_about : Cl P w K mg base 4 "about" ["kind", "p", "n"] (spP K F_about)) (c__law_num : Cl P w K mg base 2 "_law_num" ["x", "y", "m"] (spP K F__law_num)) (ck_sign : ClK P w K mg base 4 "sign" ["kind", "p"] ["p", "kind"] [1, 0] (spP K F_sign)) (ck_compared : ClK P w K mg base 4 "compared" ["kind", "p", "q"] ["q", "p", "kind"] [2, 1, 0] (spP K F_compared)) (ck_floor_of : ClK P w K mg base 4 "floor_of" ["kind", "p"] ["p", "kind"] [1, 0] (spP K F_floor_of)) (ck_about : ClK P w K mg base 4 "about" ["kind", "p", "n"] ["n", "p", "kind"] [2, 1, 0] (spP K F_about)) (m_range : mg "range" = none) : FnOk P w K mg base CX0 6 f fd ["deck", "field"] (spD K F__law_right) := by
  refine fn_D Fn sc__law_right (fun ds c G h => ?_) (fun cdv A outer s H Q E pa ds c G hr hF hQ => ?_)
  · obtain ⟨k, rfl, ⟨hk, hdk⟩, hG⟩ := h
    rfl
  · obtain ⟨k, rfl, ⟨hk, hdk⟩, hG⟩ := hF
    refine (as_par (i := 2) (j := 3) ?h1 rfl (ca_cons (c_callD c__law_drawn (hr.mono (by decide)) (ca_cons (nm 0 rfl (ca_cons (nm 1 rfl (ca_nil (And.intro rfl ⟨_, rfl, ⟨?h2, (by assumption)⟩, fun da1 db1 dn1 cy1 hnd1 hda1 hdb1 hdc1 hdy1 => And.intro rfl (ca_cons (c_callD c__law_drawn (hr.mono (by decide)) (ca_cons (nm 0 rfl (ca_cons (nm 1 rfl (ca_nil (And.intro rfl ⟨_, rfl, ⟨?h3, (by assumption)⟩, fun da2 db2 dn2 cy2 hnd2 hda2 hdb2 hdc2 hdy2 => And.intro rfl (ca_nil ⟨_, _, rfl, (as_ifJ (fun es q => ∃ (c e m : Int) (cq : List Dat), es = [some (.cel 0), some (.int k), some (nD da1 db1 dn1), some (nD c e m), none, none, none, none, none] ∧ q = [cq] ∧ P4 c e m ∧ Dk cq) (t_eqI (c_callD c__law_take (hr.mono (by decide)) (ca_cons (nm 0 rfl (ca_cons (c_int (ca_nil (And.intro rfl ⟨_, rfl, ⟨?h5, ?h6, (by assumption)⟩, fun v1 c1 hv1 hw1 hd1 => And.intro rfl (c_int (And.intro (fun b1 => (as_asg (i := 3) ?h7 (c_ixL (c_ofN (n_disp (ca_cons (nm 2 rfl (ca_cons (c_call c__law_plus (hr.mono (by decide)) (ca_cons (nm 2 rfl (ca_cons (c_callD c__law_near (hr.mono (by decide)) (ca_cons (nm 0 rfl (ca_cons (nm 1 rfl (ca_nil (And.intro rfl ⟨_, rfl, ⟨?h8, (by assumption)⟩, fun na1 nb1 nn1 cx1 hnx1 hna1 hnb1 hnc1 hdx1 => And.intro rfl (ca_nil ⟨_, _, _, _, _, _, 2230, 2126, rfl, ?h9, fun x1 y1 z1 lo1 nm1 hx1 hy1 hz1 => And.intro rfl (ca_nil (And.intro (And.intro rfl (Nat.le_of_ble_eq_true rfl)) (c_callD c__law_take (hr.mono (by decide)) (ca_cons (nm 0 rfl (ca_cons (c_int (ca_nil (And.intro rfl ⟨_, rfl, ⟨?h10, ?h11, (by assumption)⟩, fun v2 c2 hv2 hw2 hd2 => And.intro rfl (at2t hv2 hw2 ?h12 ?h13 (fun ux uy uz hux => (as_end rfl ?h14)))⟩)))))))))⟩)⟩))))))))))))))))))) (fun b1 => (as_end rfl ?h15))))⟩)))))))) ?h4)⟩)⟩))))))))⟩)))))))))
    case h1 =>
      exact sc__law_right.nd
    case h2 =>
      assumption
    case h3 =>
      assumption
    case h4 =>
      intro es q hj
      obtain ⟨c, e, m, cq, rfl, rfl, hp4, hdq⟩ := hj
      obtain ⟨hnm, hc, he, hm⟩ := hp4
      refine (as_ifn (t_not (t_val (c_call c__law_same (hr.mono (by decide)) (ca_cons (c_ofN (n_disp (ca_cons (c_call c_sign (hr.mono (by decide)) (ca_cons (nm 1 rfl (ca_cons (nm 2 rfl (ca_nil ⟨_, _, _, _, rfl, ?h16, fun sg1 hsg1 => And.intro rfl (ca_cons (c_callK ck_sign (hr.mono (by decide)) (ck_cons (nm 2 rfl (ck_cons (nm 1 rfl (ck_nil (And.intro rfl ⟨_, _, _, _, rfl, ?h17, fun sg2 hsg2 => And.intro rfl (ca_nil (And.intro (And.intro rfl (Nat.le_of_ble_eq_true rfl)) (ca_cons (c_ofN (n_rep (n_disp (ca_cons (c_call c__law_sign (hr.mono (by decide)) (ca_cons (nm 1 rfl (ca_cons (nm 2 rfl (ca_nil ⟨_, _, _, _, rfl, ?h18, fun s1 hs1 => And.intro rfl (ca_nil (And.intro (And.intro rfl (Nat.le_of_ble_eq_true rfl)) (c_int (And.intro ?h19 (ca_nil ⟨.lst [.int (lsD k da1 db1), .int (lsD k da1 db1)], ?h20, sh_i2, And.intro rfl (as_asg (i := 4) ?h21 (c_call c__law_sign (hr.mono (by decide)) (ca_cons (nm 1 rfl (ca_cons (c_call c__law_minus (hr.mono (by decide)) (ca_cons (nm 2 rfl (ca_cons (nm 3 rfl (ca_nil ⟨_, _, _, _, _, _, 2230, 4400, rfl, ?h22, fun x2 y2 z2 lo2 nm2 hx2 hy2 hz2 => And.intro rfl (ca_nil ⟨_, _, _, _, rfl, ?h23, fun s2 hs2 => And.intro rfl (as_ifn (t_not (t_val (c_call c__law_same (hr.mono (by decide)) (ca_cons (c_ofN (n_disp (ca_cons (c_call c_compared (hr.mono (by decide)) (ca_cons (nm 1 rfl (ca_cons (nm 2 rfl (ca_cons (nm 3 rfl (ca_nil ⟨_, _, _, _, _, _, _, rfl, ?h24, fun cm1 hcm1 => And.intro rfl (ca_cons (c_callK ck_compared (hr.mono (by decide)) (ck_cons (nm 3 rfl (ck_cons (nm 2 rfl (ck_cons (nm 1 rfl (ck_nil (And.intro rfl ⟨_, _, _, _, _, _, _, rfl, ?h25, fun cm2 hcm2 => And.intro rfl (ca_cons (c_call c_compared (hr.mono (by decide)) (ca_cons (nm 1 rfl (ca_cons (nm 3 rfl (ca_cons (nm 2 rfl (ca_nil ⟨_, _, _, _, _, _, _, rfl, ?h26, fun cm3 hcm3 => And.intro rfl (ca_nil (And.intro (And.intro rfl (Nat.le_of_ble_eq_true rfl)) (ca_cons (c_ofN (n_disp (ca_cons (nm 4 rfl (ca_cons (nm 4 rfl (ca_cons (c_neg (nm 4 rfl (ca_nil (And.intro (And.intro rfl (Nat.le_of_ble_eq_true rfl)) (ca_nil ⟨.lst [.int (lsD k (da1 * m - c * dn1) (db1 * m - e * dn1)), .int (lsD k (da1 * m - c * dn1) (db1 * m - e * dn1)), .int (-(lsD k (da1 * m - c * dn1) (db1 * m - e * dn1)))], ?h27, sh_i3, And.intro rfl (as_asg (i := 5) ?h28 (c_call c_floor_of (hr.mono (by decide)) (ca_cons (nm 1 rfl (ca_cons (nm 2 rfl (ca_nil ⟨_, _, _, _, rfl, ?h29, fun fo1 hfo1 => And.intro rfl (as_ifn (t_w (w_or (t_not (t_val (c_call c__law_is_floor (hr.mono (by decide)) (ca_cons (nm 1 rfl (ca_cons (nm 2 rfl (ca_cons (nm 5 rfl (ca_nil ⟨_, _, _, _, _, rfl, ?h30, And.intro rfl (w_or1 (t_not (t_val (c_call c__law_same (hr.mono (by decide)) (ca_cons (c_callK ck_floor_of (hr.mono (by decide)) (ck_cons (nm 2 rfl (ck_cons (nm 1 rfl (ck_nil (And.intro rfl ⟨_, _, _, _, rfl, ?h31, fun fo2 hfo2 => And.intro rfl (ca_cons (nm 5 rfl (ca_nil ⟨.int fo1, ?h32, Sh.int, And.intro rfl (as_par (i := 6) (j := 7) ?h33 rfl (ca_cons (c_callD c__law_take (hr.mono (by decide)) (ca_cons (nm 0 rfl (ca_cons (c_int (ca_nil (And.intro rfl ⟨_, rfl, ⟨?h34, ?h35, (by assumption)⟩, fun v3 c3 hv3 hw3 hd3 => And.intro rfl (ca_cons (c_int (ca_nil ⟨_, _, rfl, (as_forR1 (i := 8) ?h36 rfl PassesOwn.never m_range (ca_cons (nm 6 rfl (ca_nil ⟨_, (fun j es q => ∃ x, es = [some (.cel 0), some (.int k), some (nD da1 db1 dn1), some (nD c e m), some (.int s2), some (.int fo1), some (.int v3), some (.int ((10 : Int) ^ j)), x] ∧ q = [c3]), (fun _ _ => False), rfl, ?h50, ⟨_, rfl, rfl⟩, ⟨fun H10 e10 fr0 j d es q hj hd hw => ?h37, fun es q hw => ?h38, fun _ _ h => h.elim⟩⟩))))⟩)))⟩)))))))))⟩)))⟩))))))))))))⟩)))))))))))))⟩)))))))⟩)))))))))))))))⟩)))))))))⟩))))))))))⟩))))))))))))))))⟩)⟩)))))))))))⟩)))))⟩)))))))))))))⟩))))))))⟩))))))))))))))
      case h16 =>
        first | exact ⟨hk, hnd1, hda1.mono (by decide), hdb1.mono (by decide)⟩ | exact ⟨hk, hda1.mono (by decide), hdb1.mono (by decide)⟩ | exact ⟨hk, hx2.mono (by decide), hy2.mono (by decide)⟩ | exact ⟨hk, hx1.mono (by decide), hy1.mono (by decide)⟩
      case h17 =>
        first | exact ⟨hk, hnd1, hda1.mono (by decide), hdb1.mono (by decide)⟩ | exact ⟨hk, hda1.mono (by decide), hdb1.mono (by decide)⟩ | exact ⟨hk, hx2.mono (by decide), hy2.mono (by decide)⟩ | exact ⟨hk, hx1.mono (by decide), hy1.mono (by decide)⟩
      case h18 =>
        first | exact ⟨hk, hnd1, hda1.mono (by decide), hdb1.mono (by decide)⟩ | exact ⟨hk, hda1.mono (by decide), hdb1.mono (by decide)⟩ | exact ⟨hk, hx2.mono (by decide), hy2.mono (by decide)⟩ | exact ⟨hk, hx1.mono (by decide), hy1.mono (by decide)⟩
      case h19 =>
        exact ⟨rfl, by decide, by decide, Nat.le_of_ble_eq_true rfl⟩
      case h20 =>
        subst hsg1 hsg2 hs1
        rw [ps_ls hk]
        rfl
      case h21 =>
        exact sc__law_right.nd
      case h22 =>
        exact ⟨hnd1.ne, hnm.ne, hda1, hdb1, hdc1, hc, he, hm, by decide⟩
      case h23 =>
        first | exact ⟨hk, hnd1, hda1.mono (by decide), hdb1.mono (by decide)⟩ | exact ⟨hk, hda1.mono (by decide), hdb1.mono (by decide)⟩ | exact ⟨hk, hx2.mono (by decide), hy2.mono (by decide)⟩ | exact ⟨hk, hx1.mono (by decide), hy1.mono (by decide)⟩
      case h24 =>
        first | exact ⟨hk, hnd1, hnm, hda1.mono (by decide), hdb1.mono (by decide), hdc1.mono (by decide), hc, he, hm⟩ | exact ⟨hk, hnm, hnd1, hc, he, hm, hda1.mono (by decide), hdb1.mono (by decide), hdc1.mono (by decide)⟩
      case h25 =>
        first | exact ⟨hk, hnd1, hnm, hda1.mono (by decide), hdb1.mono (by decide), hdc1.mono (by decide), hc, he, hm⟩ | exact ⟨hk, hnm, hnd1, hc, he, hm, hda1.mono (by decide), hdb1.mono (by decide), hdc1.mono (by decide)⟩
      case h26 =>
        first | exact ⟨hk, hnd1, hnm, hda1.mono (by decide), hdb1.mono (by decide), hdc1.mono (by decide), hc, he, hm⟩ | exact ⟨hk, hnm, hnd1, hc, he, hm, hda1.mono (by decide), hdb1.mono (by decide), hdc1.mono (by decide)⟩
      case h27 =>
        have hdue : s2 = lsD k (da1 * m - c * dn1) (db1 * m - e * dn1) := by
          have hn1 := hnd1.pos
          have hn2 := hnm.pos
          have hnn : 0 < dn1 * m := Int.mul_pos (by omega) (by omega)
          first
            | exact hs2.trans (lo2.ls hnn)
            | exact hs2.trans (lo1.ls hnn)
        have hb := cmp_back (k := k) (a := da1) (b := db1) (n := dn1) (c := c) (e := e) (m := m)
        rw [hcm1, hcm2, hcm3, hdue, ps_ls hk, ps_ls hk, hb]
        rfl
      case h28 =>
        exact sc__law_right.nd
      case h29 =>
        exact ⟨hk, hnd1, hda1.mono (by decide), hdb1.mono (by decide), hdc1.mono (by decide)⟩
      case h30 =>
        have hn1 := hnd1.pos
        first
          | exact ⟨hk, by omega, hda1.mono (by decide), hdb1.mono (by decide), hdc1.mono (by decide), (fl_b hk hda1 hdb1 (by omega) hfo1).mono (by decide), fl_a hk (by omega) hfo1⟩
          | (have hzp := nm2.pos
             refine ⟨hk, by omega, hx2.mono (by decide), hy2.mono (by decide), hz2.mono (by decide), (fl_b hk bta btb (by omega) hab1).mono (by decide), ?_⟩
             rw [lo2.fl (by omega), lo2.fl (by omega)]
             exact fl_a hk (by omega) hab1)
          | (have hzp := nm3.pos
             refine ⟨hk, by omega, hx3.mono (by decide), hy3.mono (by decide), hz3.mono (by decide), (fl_b hk bta btb (by omega) hab1).mono (by decide), ?_⟩
             rw [lo3.fl (by omega), lo3.fl (by omega)]
             exact fl_a hk (by omega) hab1)
      case h31 =>
        exact ⟨hk, hnd1, hda1.mono (by decide), hdb1.mono (by decide), hdc1.mono (by decide)⟩
      case h32 =>
        rw [hfo2, ← hfo1]
        rfl
      case h33 =>
        exact sc__law_right.nd
      case h34 =>
        first | decide | omega
      case h35 =>
        first | exact Bd.mono (Bd.of _) (by decide) | walk_at "bm"
      case h36 =>
        exact sc__law_right.nd
      case h37 =>
        obtain ⟨x, rfl, rfl⟩ := hw
        cases hd
        have bj : Bd 241 ((10 : Int) ^ j) := (bd_ten j).mono (by omega)
        refine (as_asg (i := 7) ?h39 (c_mulS (c_int (nm 7 rfl (And.intro (.inl (And.intro (by decide) (by decide))) (as_end rfl ?h40))))))
        case h39 =>
          exact sc__law_right.nd
        case h40 =>
          exact ⟨_, by rw [Int.pow_succ, Int.mul_comm]; rfl, rfl⟩
      case h38 =>
        obtain ⟨x, rfl, rfl⟩ := hw
        obtain ⟨t, rfl⟩ := Int.eq_ofNat_of_zero_le hv3
        rw [Int.toNat_natCast]
        have ht : t ≤ 60 := by omega
        have bt : Bd 241 ((10 : Int) ^ t) := (bd_ten t).mono (by omega)
        have bta : Bd 2471 (da1 * (10 : Int) ^ t) := hda1.mul bt
        have btb : Bd 2471 (db1 * (10 : Int) ^ t) := hdb1.mul bt
        refine (as_asg (i := 5) ?h41 (c_call c_about (hr.mono (by decide)) (ca_cons (nm 1 rfl (ca_cons (nm 2 rfl (ca_cons (nm 6 rfl (ca_nil ⟨_, _, _, _, t, rfl, ?h42, fun ab1 hab1 => And.intro rfl (as_ifn (t_not (t_val (c_call c__law_is_floor (hr.mono (by decide)) (ca_cons (nm 1 rfl (ca_cons (c_call c__law_num (hr.mono (by decide)) (ca_cons (c_mul (c_ixTn (nm 2 rfl (c_int (And.intro (by decide) (nm 7 rfl (And.intro ?h43 (ca_cons (c_mul (c_ixTn (nm 2 rfl (c_int (And.intro (by decide) (nm 7 rfl (And.intro ?h44 (ca_cons (c_ixTn (nm 2 rfl (c_int (And.intro (by decide) (ca_nil ⟨_, _, _, 2480, rfl, ?h45, fun x3 y3 z3 lo3 nm3 hx3 hy3 hz3 => And.intro rfl (ca_cons (nm 5 rfl (ca_nil ⟨_, _, _, _, _, rfl, ?h46, And.intro rfl (as_ret hQ (c_call c__law_same (hr.mono (by decide)) (ca_cons (c_callK ck_about (hr.mono (by decide)) (ck_cons (nm 6 rfl (ck_cons (nm 2 rfl (ck_cons (nm 1 rfl (ck_nil (And.intro rfl ⟨_, _, _, _, t, rfl, ?h47, fun ab2 hab2 => And.intro rfl (ca_cons (nm 5 rfl (ca_nil ⟨.int ab1, ?h48, Sh.int, And.intro rfl (And.intro rfl ?h49)⟩)))⟩))))))))))))⟩)))⟩))))))))))))))))))))))))))))))⟩)))))))))
        case h41 =>
          exact sc__law_right.nd
        case h42 =>
          exact ⟨hk, hnd1, hda1.mono (by decide), hdb1.mono (by decide), hdc1.mono (by decide), ht⟩
        case h43 =>
          exact cm (by walk_at "bd") (by walk_at "bd") (by decide)
        case h44 =>
          exact cm (by walk_at "bd") (by walk_at "bd") (by decide)
        case h45 =>
          exact ⟨hnd1.ne, bta.mono (by decide), btb.mono (by decide), hdc1.mono (by decide), by decide⟩
        case h46 =>
          have hn1 := hnd1.pos
          first
            | exact ⟨hk, by omega, hda1.mono (by decide), hdb1.mono (by decide), hdc1.mono (by decide), (fl_b hk hda1 hdb1 (by omega) hfo1).mono (by decide), fl_a hk (by omega) hfo1⟩
            | (have hzp := nm2.pos
               refine ⟨hk, by omega, hx2.mono (by decide), hy2.mono (by decide), hz2.mono (by decide), (fl_b hk bta btb (by omega) hab1).mono (by decide), ?_⟩
               rw [lo2.fl (by omega), lo2.fl (by omega)]
               exact fl_a hk (by omega) hab1)
            | (have hzp := nm3.pos
               refine ⟨hk, by omega, hx3.mono (by decide), hy3.mono (by decide), hz3.mono (by decide), (fl_b hk bta btb (by omega) hab1).mono (by decide), ?_⟩
               rw [lo3.fl (by omega), lo3.fl (by omega)]
               exact fl_a hk (by omega) hab1)
        case h47 =>
          exact ⟨hk, hnd1, hda1.mono (by decide), hdb1.mono (by decide), hdc1.mono (by decide), ht⟩
        case h48 =>
          rw [hab2, ← hab1]
          rfl
        case h49 =>
          exact ⟨_, rfl, hG _ (by assumption)⟩
      case h50 =>
        omega
    case h5 =>
      first | decide | omega
    case h6 =>
      first | exact Bd.mono (Bd.of _) (by decide) | walk_at "bm"
    case h7 =>
      exact sc__law_right.nd
    case h8 =>
      assumption
    case h9 =>
      exact ⟨hnd1.ne, hnx1.ne, hda1, hdb1, hdc1, hna1, hnb1, hnc1, by decide⟩
    case h10 =>
      first | decide | omega
    case h11 =>
      first | exact Bd.mono (Bd.of _) (by decide) | walk_at "bm"
    case h12 =>
      exact ⟨hnd1, hda1.mono (by decide), hdb1.mono (by decide), hdc1.mono (by decide)⟩
    case h13 =>
      exact ⟨nm1, hx1.mono (by decide), hy1.mono (by decide), hz1.mono (by decide)⟩
    case h14 =>
      first
        | exact ⟨_, _, _, _, rfl, rfl, hux, by assumption⟩
        | exact ⟨_, _, _, _, rfl, rfl, ⟨hnd2, hda2.mono (by decide), hdb2.mono (by decide), hdc2.mono (by decide)⟩, by assumption⟩
    case h15 =>
      first
        | exact ⟨_, _, _, _, rfl, rfl, hux, by assumption⟩
        | exact ⟨_, _, _, _, rfl, rfl, ⟨hnd2, hda2.mono (by decide), hdb2.mono (by decide), hdc2.mono (by decide)⟩, by assumption⟩

end
end Y02

set_option Elab.async false
set_option linter.all false
set_option maxRecDepth 100000
set_option maxHeartbeats 8000000
namespace Y02
open PySem PySem.Spec PyProof.Rows L2 Evl Wz
local macro_rules | `(tactic| walk_at "bd") => `(tactic| (repeat (first | assumption | apply Bd.mul | apply Bd.add | apply Bd.sub | apply Bd.neg | exact Bd.z | exact Bd.of _)))
local macro_rules | `(tactic| walk_at "bm") => `(tactic| (first | assumption | exact Bd.mono (by walk_at "bd") (by decide)))
local macro_rules | `(tactic| walk_at "b2") => `(tactic| (repeat (first | assumption | apply And.intro | walk_at "bm" | decide | omega)))
section
variable {P : Program} {w : World} {K : PySem.W.Frag} {mg : Str → Option Value} {base : Heap}

/-! ### law -/
abbrev s_law : Stmt := topS 41
theorem sc_law : FnScope ["script", "at", "deck", "field", "due"] ["script"] (defScope s_law) := ⟨rfl, rfl, rfl, by decide +kernel, rfl, by decide +kernel, by decide +kernel⟩
def F_law : FP := fun ds Q => ∃ ns : List Int, ds = [.lst (ns.map Dat.int)] ∧ ns.length ≤ 63 ∧ Q (.bl true)
theorem ok_law {f : Addr} {fd : FuncData} (Fn : Fun K "law" "law" s_law f fd) (c__law_deck : Cl P w K mg base 1 "_law_deck" ["script", "at"] (spN K F__law_deck)) (c__law_take : Cl P w K mg base 1 "_law_take" ["deck", "many"] (spD K F__law_take)) (c__law_right : Cl P w K mg base 6 "_law_right" ["deck", "field"] (spD K F__law_right)) (c__law_units : Cl P w K mg base 4 "_law_units" ["field"] (spN K F__law_units)) (c__law_same : Cl P w K mg base 3 "_law_same" ["found", "due"] (spP K (F__law_same 2))) (c_unit : Cl P w K mg base 4 "unit" ["kind"] (spP K F_unit)) (c_stretch_unit : Cl P w K mg base 4 "stretch_unit" ["kind"] (spP K F_stretch_unit)) (ck_unit : ClK P w K mg base 4 "unit" ["kind"] ["kind"] [0] (spP K F_unit)) (ck_stretch_unit : ClK P w K mg base 4 "stretch_unit" ["kind"] ["kind"] [0] (spP K F_stretch_unit)) (m_range : mg "range" = none) (m_max : mg "max" = none) (m_min : mg "min" = none) (m_len : mg "len" = none) : FnOk P w K mg base CX0 7 f fd ["script"] (spP K F_law) := by
  refine fn_P Fn sc_law (fun ds G h => ?_) (fun cdv A outer s H Q E ds G hr hF hQ => ?_)
  · obtain ⟨ns, rfl, hns, hG⟩ := h
    rfl
  · obtain ⟨ns, rfl, hns, hG⟩ := hF
    refine (as_forR1 (i := 1) ?h1 rfl PassesOwn.never m_range (ca_cons (c_max rfl m_max (ca_cons (c_int (ca_cons (c_min rfl m_min (ca_cons (c_lenL m_len (ca_cons (nm 0 rfl (ca_nil (ca_cons (c_int (ca_nil (ca_nil (ca_nil ⟨_, (fun j es q => ∃ v1 v2 v3 : Option Dat, es = [some (.lst (ns.map Dat.int)), v1, v2, v3, none] ∧ q = []), (fun _ _ => False), rfl, ?h21, ⟨_, _, _, rfl, rfl⟩, ⟨fun H10 e10 fr0 j d es q hj hd hw => ?h2, fun es q hw => ?h3, fun _ _ h => h.elim⟩⟩)))))))))))))))))
    case h1 =>
      exact sc_law.nd
    case h2 =>
      obtain ⟨v1, v2, v3, rfl, rfl⟩ := hw
      cases hd
      refine (as_asgN (i := 2) ?h4 (n_call c__law_deck (hr.mono (by decide)) (ca_cons (nm 0 rfl (ca_cons (nm 1 rfl (ca_nil ⟨_, _, rfl, fun dk1 hdk1 => And.intro hdk1.nl (And.intro ?h5 (fun _ => (as_asg (i := 3) ?h6 (c_ixL (c_ofN (n_disp (ca_cons (c_int (ca_cons (c_int (ca_cons (c_int (ca_nil (And.intro (And.intro rfl (Nat.le_of_ble_eq_true rfl)) (c_callD c__law_take (hr.mono (by decide)) (ca_cons (nm 2 rfl (ca_cons (c_int (ca_nil (And.intro rfl ⟨_, rfl, ⟨?h7, ?h8, (by assumption)⟩, fun v1 c1 hv1 hw1 hd1 => And.intro rfl (at3k hv1 hw1 (fun k hk => (as_ifn (t_w (w_or (t_not (t_val (c_callD c__law_right (hr.mono (by decide)) (ca_cons (nm 2 rfl (ca_cons (nm 3 rfl (ca_nil (And.intro rfl ⟨_, rfl, ⟨?h9, (by assumption)⟩, fun cr hcr => And.intro rfl (w_or1 (t_not (t_val (c_callD c__law_right (hr.mono (by decide)) (ca_cons (nm 2 rfl (ca_cons (nm 3 rfl (ca_nil (And.intro rfl ⟨_, rfl, ⟨?h10, (by assumption)⟩, fun cr hcr => And.intro rfl (as_endL rfl ⟨_, rfl⟩ ⟨_, _, _, rfl, rfl⟩)⟩))))))))))⟩))))))))))))))⟩)))))))))))))))))))))⟩)))))))
      case h4 =>
        exact sc_law.nd
      case h5 =>
        first | rfl | exact hdk1.nl | assumption
      case h6 =>
        exact sc_law.nd
      case h7 =>
        first | decide | omega
      case h8 =>
        first | exact Bd.mono (Bd.of _) (by decide) | walk_at "bm"
      case h9 =>
        assumption
      case h10 =>
        assumption
    case h3 =>
      obtain ⟨v1, v2, v3, rfl, rfl⟩ := hw
      refine (as_forL (i := 3) ?h11 rfl PassesOwn.never (c_ofN (n_disp (ca_cons (c_int (ca_cons (c_int (ca_cons (c_int (ca_nil (And.intro (And.intro rfl (Nat.le_of_ble_eq_true rfl)) ⟨(fun j es q => ∃ v1 v2 v3 v4 : Option Dat, es = [some (.lst (ns.map Dat.int)), v1, v2, v3, v4] ∧ q = []), (fun _ _ => False), ⟨_, _, _, _, rfl, rfl⟩, ⟨fun H11 e11 fr1 j d es q hj hd hw => ?h12, fun es q hw => ?h13, fun _ _ h => h.elim⟩⟩)))))))))))
      case h11 =>
        exact sc_law.nd
      case h12 =>
        obtain ⟨v1, v2, v3, v4, rfl, rfl⟩ := hw
        obtain ⟨k, rfl, hk⟩ : ∃ k, d = .int k ∧ Kd k := by
          match j, hj, hd with
          | 0, _, h => exact ⟨2, (Option.some.inj h).symm, .inl rfl⟩
          | 1, _, h => exact ⟨3, (Option.some.inj h).symm, .inr (.inl rfl)⟩
          | 2, _, h => exact ⟨5, (Option.some.inj h).symm, .inr (.inr rfl)⟩
        refine (as_asg (i := 4) ?h14 (c_ofN (n_call c__law_units (hr.mono (by decide)) (ca_cons (nm 3 rfl (ca_nil ⟨_, rfl, ?h15, And.intro rfl (as_ifn (t_w (w_or (t_not (t_val (c_call c__law_same (hr.mono (by decide)) (ca_cons (c_ofN (n_disp (ca_cons (c_call c_unit (hr.mono (by decide)) (ca_cons (nm 3 rfl (ca_nil ⟨_, rfl, ?h16, And.intro rfl (ca_cons (c_call c_stretch_unit (hr.mono (by decide)) (ca_cons (nm 3 rfl (ca_nil ⟨_, rfl, ?h17, And.intro rfl (ca_nil (And.intro (And.intro rfl (Nat.le_of_ble_eq_true rfl)) (ca_cons (nm 4 rfl (ca_nil ⟨.lst [tD (unF k), tD (suF k)], rfl, sh_t2, And.intro rfl (w_or1 (t_not (t_val (c_call c__law_same (hr.mono (by decide)) (ca_cons (c_ofN (n_disp (ca_cons (c_callK ck_unit (hr.mono (by decide)) (ck_cons (nm 3 rfl (ck_nil (And.intro rfl ⟨_, rfl, ?h18, And.intro rfl (ca_cons (c_callK ck_stretch_unit (hr.mono (by decide)) (ck_cons (nm 3 rfl (ck_nil (And.intro rfl ⟨_, rfl, ?h19, And.intro rfl (ca_nil (And.intro (And.intro rfl (Nat.le_of_ble_eq_true rfl)) (ca_cons (nm 4 rfl (ca_nil ⟨.lst [tD (unF k), tD (suF k)], rfl, sh_t2, And.intro rfl (as_end rfl ⟨_, _, _, _, rfl, rfl⟩)⟩)))))⟩))))))⟩)))))))))))))⟩)))))⟩)))))⟩))))))))))))))⟩))))))
        case h14 =>
          exact sc_law.nd
        case h15 =>
          assumption
        case h16 =>
          assumption
        case h17 =>
          assumption
        case h18 =>
          assumption
        case h19 =>
          assumption
      case h13 =>
        obtain ⟨v1, v2, v3, v4, rfl, rfl⟩ := hw
        refine (as_ret hQ (c_bl (And.intro rfl ?h20)))
        case h20 =>
          exact hG
    case h21 =>
      constructor <;> (repeat' split) <;> omega

end
end Y02

set_option Elab.async false
set_option linter.all false
set_option maxRecDepth 100000
set_option maxHeartbeats 8000000
namespace Y02
open PySem PySem.Spec PyProof.Rows L2 Evl Wz
/-- a def of the module's top -/
structure Top (K : PySem.W.Frag) (mg : Str → Option Value) (x : Str) (st : Stmt) : Prop where
  ex : ∃ (f : Addr) (fd : FuncData), mg x = some (.ref f) ∧ Fun K x x st f fd
theorem top_mk {K : PySem.W.Frag} {h : Heap} {mg : Str → Option Value} {x : Str} {st : Stmt} {f : Addr} {oc : Value} {od an : Option Addr} {osl : Array (Option Value)} {kV doc pm cdv ct : Value} (X : K.In h) (G : h.Ns mainGlobals mg)
    (a : PySem.W.nsIn K mainGlobals x = some (some (.ref f))) (l : K.lookup f = some ⟨oc, od, .func (PySem.W.fnOf x x (defArgs st) (defBody st) (defScope st) .none kV doc pm an cdv ct), osl⟩) (c : PySem.W.codeIn K cdv x = true) (k : PySem.W.keepIn K (.ref f) = true) : Top K mg x st :=
  ⟨_, _, PySem.W.mg_of X G a, fun_mk (st := st) l c k⟩
section
variable {P : Program} {w : World} {K : PySem.W.Frag} {mg : Str → Option Value} {base : Heap} {x : Str} {st : Stmt} {k : Nat} {ps ks : List Str} {sp : Sp}
theorem Top.cl (T : Top K mg x st) (hb : ∀ (kV doc pm : Value) (an : Option Addr) (cdv ct : Value) (us : List Value), us.length = ps.length → bindArgs (PySem.W.fnOf x x (defArgs st) (defBody st) (defScope st) .none kV doc pm an cdv ct) ⟨us, []⟩ = pure (ps.zip us))
    (h : ∀ f fd, Fun K x x st f fd → FnOk P w K mg base CX0 k f fd ps sp) : Cl P w K mg base k x ps sp := by
  obtain ⟨f, fd, hm, F⟩ := T.ex
  exact ⟨f, fd, hm, F.kp, F.binds hb, h f fd F⟩
theorem Top.clK (T : Top K mg x st) (pi : List Nat) (hp : 0 < ps.length) (hb : ∀ (kV doc pm : Value) (an : Option Addr) (cdv ct : Value) (ws : List Value), ws.length = ks.length → bindArgs (PySem.W.fnOf x x (defArgs st) (defBody st) (defScope st) .none kV doc pm an cdv ct) ⟨[], ks.zip ws⟩ = pure (ps.zip (kperm pi ks.length [] ws)))
    (h : ∀ f fd, Fun K x x st f fd → FnOk P w K mg base CX0 k f fd ps sp) : ClK P w K mg base k x ps ks pi sp := by
  obtain ⟨f, fd, hm, F⟩ := T.ex
  exact ⟨f, fd, hm, F.kp, Wz.Fun.kb F pi ks.length hp hb, h f fd F⟩
end
theorem kt_mk {K : PySem.W.Frag} {h : Heap} {mg : Str → Option Value} {x : Str} {C : Addr} {od : Option Addr} {n : Nat} {sl : Array (Option Value)} {a b c : Tok} (X : K.In h) (G : h.Ns mainGlobals mg) (e : PySem.W.nsIn K mainGlobals x = some (some (.ref C)))
    (l : K.lookup C = some ⟨.type "tuple", od, .seq #[.int 2 a, .int 3 b, .int 5 c] n, sl⟩) : KT K mg x [.int 2, .int 3, .int 5] :=
  ⟨C, [.int 2, .int 3, .int 5], PySem.W.mg_of X G e, fun H => .inr ⟨_, _, _, l, rfl, rfl, by show 3 ≤ sizeLine; decide, .cons ⟨a, rfl⟩ (.cons ⟨b, rfl⟩ (.cons ⟨c, rfl⟩ .nil))⟩, fun o H => DVs.cons (.int 2) (DVs.cons (.int 3) (DVs.cons (.int 5) DVs.nil))⟩
theorem kt_mk2 {K : PySem.W.Frag} {h : Heap} {mg : Str → Option Value} {x : Str} {C : Addr} {od : Option Addr} {n : Nat} {sl : Array (Option Value)} {i j : Int} {a b : Tok} (X : K.In h) (G : h.Ns mainGlobals mg) (e : PySem.W.nsIn K mainGlobals x = some (some (.ref C)))
    (l : K.lookup C = some ⟨.type "tuple", od, .seq #[.int i a, .int j b] n, sl⟩) : KT K mg x [.int i, .int j] :=
  ⟨C, [.int i, .int j], PySem.W.mg_of X G e, fun H => .inr ⟨_, _, _, l, rfl, rfl, by show 2 ≤ sizeLine; decide, .cons ⟨a, rfl⟩ (.cons ⟨b, rfl⟩ .nil)⟩, fun o H => DVs.cons (.int i) (DVs.cons (.int j) DVs.nil)⟩
theorem kdi_mk {K : PySem.W.Frag} {h : Heap} {mg : Str → Option Value} {x : Str} {f : Int → T3} {C p2 p3 p5 : Addr} {h2 h3 h5 a2 b2 c2 a3 b3 c3 a5 b5 c5 : Int} {t2 t3 t5 u1 u2 u3 v1 v2 v3 w1 w2 w3 : Tok} {n n2 n3 n5 : Nat} {od2 od3 od5 : Option Addr} {sl2 sl3 sl5 : Array (Option Value)} (X : K.In h) (G : h.Ns mainGlobals mg) (e : PySem.W.nsIn K mainGlobals x = some (some (.ref C)))
    (l : K.lookup C = some ⟨.type "dict", none, .dict #[⟨h2, .int 2 t2, .ref p2⟩, ⟨h3, .int 3 t3, .ref p3⟩, ⟨h5, .int 5 t5, .ref p5⟩] n, #[]⟩)
    (l2 : K.lookup p2 = some ⟨.type "tuple", od2, .seq #[.int a2 u1, .int b2 u2, .int c2 u3] n2, sl2⟩) (l3 : K.lookup p3 = some ⟨.type "tuple", od3, .seq #[.int a3 v1, .int b3 v2, .int c3 v3] n3, sl3⟩) (l5 : K.lookup p5 = some ⟨.type "tuple", od5, .seq #[.int a5 w1, .int b5 w2, .int c5 w3] n5, sl5⟩)
    (hh : h2 = hashInt 2 ∧ h3 = hashInt 3 ∧ h5 = hashInt 5) (hf : f 2 = (a2, b2, c2) ∧ f 3 = (a3, b3, c3) ∧ f 5 = (a5, b5, c5)) : ∀ (P : Program) (w : World), KDI P w K mg x f := fun P w => by
  obtain ⟨rfl, rfl, rfl⟩ := hh
  obtain ⟨f2, f3, f5⟩ := hf
  refine ⟨C, _, _, PySem.W.mg_of X G e, l, fun e he => ?_, fun i hi => ?_⟩
  · have hm : e = ⟨hashInt 2, .int 2 t2, .ref p2⟩ ∨ e = ⟨hashInt 3, .int 3 t3, .ref p3⟩ ∨ e = ⟨hashInt 5, .int 5 t5, .ref p5⟩ := by simpa using he
    rcases hm with rfl | rfl | rfl
    · exact ⟨2, rfl, rfl⟩
    · exact ⟨3, rfl, rfl⟩
    · exact ⟨5, rfl, rfl⟩
  · rcases hi with rfl | rfl | rfl
    · exact ⟨p2, rfl, fun H => by rw [f2]; exact .inr ⟨_, _, _, l2, rfl, rfl, by show 3 ≤ sizeLine; decide, .cons ⟨_, rfl⟩ (.cons ⟨_, rfl⟩ (.cons ⟨_, rfl⟩ .nil))⟩⟩
    · exact ⟨p3, rfl, fun H => by rw [f3]; exact .inr ⟨_, _, _, l3, rfl, rfl, by show 3 ≤ sizeLine; decide, .cons ⟨_, rfl⟩ (.cons ⟨_, rfl⟩ (.cons ⟨_, rfl⟩ .nil))⟩⟩
    · exact ⟨p5, rfl, fun H => by rw [f5]; exact .inr ⟨_, _, _, l5, rfl, rfl, by show 3 ≤ sizeLine; decide, .cons ⟨_, rfl⟩ (.cons ⟨_, rfl⟩ (.cons ⟨_, rfl⟩ .nil))⟩⟩

theorem dvs_ints {K : PySem.W.Frag} {o : Os} {H : Hp} : ∀ ns : List Int, DVs K o H (ns.map V.int) (ns.map Dat.int)
  | [] => DVs.nil
  | i :: ns => DVs.cons (.int i) (dvs_ints ns)

theorem law_all {P : Program} {w : World} {K : PySem.W.Frag} {mg : Str → Option Value} {base : Heap} (t_is_integer : Top K mg "is_integer" s_is_integer) (t_is_kind : Top K mg "is_kind" s_is_kind) (t_check_kind : Top K mg "check_kind" s_check_kind) (t_whole_sign : Top K mg "whole_sign" s_whole_sign) (t_whole_floor : Top K mg "whole_floor" s_whole_floor) (t_number_order : Top K mg "number_order" s_number_order) (t_is_number : Top K mg "is_number" s_is_number) (t_check_number : Top K mg "check_number" s_check_number) (t_sign : Top K mg "sign" s_sign) (t_compared : Top K mg "compared" s_compared) (t_floor_of : Top K mg "floor_of" s_floor_of) (t_about : Top K mg "about" s_about) (t_unit : Top K mg "unit" s_unit) (t_stretch_unit : Top K mg "stretch_unit" s_stretch_unit) (t__law_deck : Top K mg "_law_deck" s__law_deck) (t__law_take : Top K mg "_law_take" s__law_take) (t__law_gcd : Top K mg "_law_gcd" s__law_gcd) (t__law_num : Top K mg "_law_num" s__law_num) (t__law_plus : Top K mg "_law_plus" s__law_plus) (t__law_minus : Top K mg "_law_minus" s__law_minus) (t__law_times : Top K mg "_law_times" s__law_times) (t__law_sign : Top K mg "_law_sign" s__law_sign) (t__law_same : Top K mg "_law_same" s__law_same) (t__law_number : Top K mg "_law_number" s__law_number) (t__law_near : Top K mg "_law_near" s__law_near) (t__law_drawn : Top K mg "_law_drawn" s__law_drawn) (t__law_is_floor : Top K mg "_law_is_floor" s__law_is_floor) (t__law_units : Top K mg "_law_units" s__law_units) (t__law_right : Top K mg "_law_right" s__law_right) (m_isinstance : mg "isinstance" = none) (m_int : mg "int" = none) (m_bool : mg "bool" = none) (m_tuple : mg "tuple" = none) (m_len : mg "len" = none) (m_range : mg "range" = none) (m_abs : mg "abs" = none) (m_str : mg "str" = none) (m_list : mg "list" = none) (m_max : mg "max" = none) (m_min : mg "min" = none) (m_isqrt : mg "isqrt" = some (.builtin "math.isqrt")) (m_gcd : mg "gcd" = some (.builtin "math.gcd")) (t_KINDS : KT K mg "KINDS" [.int 2, .int 3, .int 5]) (t_UNITS : ∀ (P : Program) (w : World), KDI P w K mg "UNITS" unF) (t_STRETCH_UNITS : ∀ (P : Program) (w : World), KDI P w K mg "STRETCH_UNITS" suF)
    {f : Addr} {fd : FuncData} (FL : Fun K "law" "law" s_law f fd) : FnOk P w K mg base CX0 7 f fd ["script"] (spP K F_law) := by
  have c_is_integer : Cl P w K mg base 1 "is_integer" ["told"] (spP K F_is_integer) := t_is_integer.cl (fun _ _ _ _ _ _ us hl => match us, hl with | [_], _ => rfl) (fun f fd F => ok_is_integer F m_isinstance m_int m_bool)
  have c_is_kind : Cl P w K mg base 2 "is_kind" ["told"] (spP K F_is_kind) := t_is_kind.cl (fun _ _ _ _ _ _ us hl => match us, hl with | [_], _ => rfl) (fun f fd F => ok_is_kind F c_is_integer t_KINDS)
  have c_check_kind : Cl P w K mg base 3 "check_kind" ["kind"] (spP K F_check_kind) := t_check_kind.cl (fun _ _ _ _ _ _ us hl => match us, hl with | [_], _ => rfl) (fun f fd F => ok_check_kind F c_is_kind)
  have c_whole_sign : Cl P w K mg base 1 "whole_sign" ["kind", "a", "b"] (spP K F_whole_sign) := t_whole_sign.cl (fun _ _ _ _ _ _ us hl => match us, hl with | [_, _, _], _ => rfl) (fun f fd F => ok_whole_sign F )
  have c_whole_floor : Cl P w K mg base 1 "whole_floor" ["kind", "a", "b", "n"] (spP K F_whole_floor) := t_whole_floor.cl (fun _ _ _ _ _ _ us hl => match us, hl with | [_, _, _, _], _ => rfl) (fun f fd F => ok_whole_floor F m_isqrt)
  have c_number_order : Cl P w K mg base 2 "number_order" ["kind", "p", "q"] (spP K F_number_order) := t_number_order.cl (fun _ _ _ _ _ _ us hl => match us, hl with | [_, _, _], _ => rfl) (fun f fd F => ok_number_order F c_whole_sign)
  have c_is_number : Cl P w K mg base 2 "is_number" ["told"] (spP K F_is_number) := t_is_number.cl (fun _ _ _ _ _ _ us hl => match us, hl with | [_], _ => rfl) (fun f fd F => ok_is_number F c_is_integer m_isinstance m_tuple m_len m_gcd)
  have c_check_number : Cl P w K mg base 3 "check_number" ["told"] (spP K F_check_number) := t_check_number.cl (fun _ _ _ _ _ _ us hl => match us, hl with | [_], _ => rfl) (fun f fd F => ok_check_number F c_is_number)
  have c_sign : Cl P w K mg base 4 "sign" ["kind", "p"] (spP K F_sign) := t_sign.cl (fun _ _ _ _ _ _ us hl => match us, hl with | [_, _], _ => rfl) (fun f fd F => ok_sign F c_check_kind c_check_number c_whole_sign)
  have ck_sign : ClK P w K mg base 4 "sign" ["kind", "p"] ["p", "kind"] [1, 0] (spP K F_sign) := t_sign.clK [1, 0] (by decide) (fun _ _ _ _ _ _ ws hl => match ws, hl with | [_, _], _ => rfl) (fun f fd F => ok_sign F c_check_kind c_check_number c_whole_sign)
  have c_compared : Cl P w K mg base 4 "compared" ["kind", "p", "q"] (spP K F_compared) := t_compared.cl (fun _ _ _ _ _ _ us hl => match us, hl with | [_, _, _], _ => rfl) (fun f fd F => ok_compared F c_check_kind c_check_number c_number_order)
  have ck_compared : ClK P w K mg base 4 "compared" ["kind", "p", "q"] ["q", "p", "kind"] [2, 1, 0] (spP K F_compared) := t_compared.clK [2, 1, 0] (by decide) (fun _ _ _ _ _ _ ws hl => match ws, hl with | [_, _, _], _ => rfl) (fun f fd F => ok_compared F c_check_kind c_check_number c_number_order)
  have c_floor_of : Cl P w K mg base 4 "floor_of" ["kind", "p"] (spP K F_floor_of) := t_floor_of.cl (fun _ _ _ _ _ _ us hl => match us, hl with | [_, _], _ => rfl) (fun f fd F => ok_floor_of F c_check_kind c_check_number c_whole_floor)
  have ck_floor_of : ClK P w K mg base 4 "floor_of" ["kind", "p"] ["p", "kind"] [1, 0] (spP K F_floor_of) := t_floor_of.clK [1, 0] (by decide) (fun _ _ _ _ _ _ ws hl => match ws, hl with | [_, _], _ => rfl) (fun f fd F => ok_floor_of F c_check_kind c_check_number c_whole_floor)
  have c_about : Cl P w K mg base 4 "about" ["kind", "p", "n"] (spP K F_about) := t_about.cl (fun _ _ _ _ _ _ us hl => match us, hl with | [_, _, _], _ => rfl) (fun f fd F => ok_about F c_check_kind c_check_number c_is_integer c_whole_floor m_range)
  have ck_about : ClK P w K mg base 4 "about" ["kind", "p", "n"] ["n", "p", "kind"] [2, 1, 0] (spP K F_about) := t_about.clK [2, 1, 0] (by decide) (fun _ _ _ _ _ _ ws hl => match ws, hl with | [_, _, _], _ => rfl) (fun f fd F => ok_about F c_check_kind c_check_number c_is_integer c_whole_floor m_range)
  have c_unit : Cl P w K mg base 4 "unit" ["kind"] (spP K F_unit) := t_unit.cl (fun _ _ _ _ _ _ us hl => match us, hl with | [_], _ => rfl) (fun f fd F => ok_unit F c_check_kind (t_UNITS P w))
  have ck_unit : ClK P w K mg base 4 "unit" ["kind"] ["kind"] [0] (spP K F_unit) := t_unit.clK [0] (by decide) (fun _ _ _ _ _ _ ws hl => match ws, hl with | [_], _ => rfl) (fun f fd F => ok_unit F c_check_kind (t_UNITS P w))
  have c_stretch_unit : Cl P w K mg base 4 "stretch_unit" ["kind"] (spP K F_stretch_unit) := t_stretch_unit.cl (fun _ _ _ _ _ _ us hl => match us, hl with | [_], _ => rfl) (fun f fd F => ok_stretch_unit F c_check_kind (t_STRETCH_UNITS P w))
  have ck_stretch_unit : ClK P w K mg base 4 "stretch_unit" ["kind"] ["kind"] [0] (spP K F_stretch_unit) := t_stretch_unit.clK [0] (by decide) (fun _ _ _ _ _ _ ws hl => match ws, hl with | [_], _ => rfl) (fun f fd F => ok_stretch_unit F c_check_kind (t_STRETCH_UNITS P w))
  have c__law_deck : Cl P w K mg base 1 "_law_deck" ["script", "at"] (spN K F__law_deck) := t__law_deck.cl (fun _ _ _ _ _ _ us hl => match us, hl with | [_, _], _ => rfl) (fun f fd F => ok__law_deck F m_len m_int)
  have c__law_take : Cl P w K mg base 1 "_law_take" ["deck", "many"] (spD K F__law_take) := t__law_take.cl (fun _ _ _ _ _ _ us hl => match us, hl with | [_, _], _ => rfl) (fun f fd F => ok__law_take F m_int)
  have c__law_gcd : Cl P w K mg base 1 "_law_gcd" ["u", "v"] (spP K F__law_gcd) := t__law_gcd.cl (fun _ _ _ _ _ _ us hl => match us, hl with | [_, _], _ => rfl) (fun f fd F => ok__law_gcd F m_int)
  have c__law_num : Cl P w K mg base 2 "_law_num" ["x", "y", "m"] (spP K F__law_num) := t__law_num.cl (fun _ _ _ _ _ _ us hl => match us, hl with | [_, _, _], _ => rfl) (fun f fd F => ok__law_num F c__law_gcd m_abs)
  have c__law_plus : Cl P w K mg base 3 "_law_plus" ["u", "v"] (spP K F__law_plus) := t__law_plus.cl (fun _ _ _ _ _ _ us hl => match us, hl with | [_, _], _ => rfl) (fun f fd F => ok__law_plus F c__law_num)
  have c__law_minus : Cl P w K mg base 3 "_law_minus" ["u", "v"] (spP K F__law_minus) := t__law_minus.cl (fun _ _ _ _ _ _ us hl => match us, hl with | [_, _], _ => rfl) (fun f fd F => ok__law_minus F c__law_num)
  have c__law_times : Cl P w K mg base 3 "_law_times" ["field", "u", "v"] (spP K F__law_times) := t__law_times.cl (fun _ _ _ _ _ _ us hl => match us, hl with | [_, _, _], _ => rfl) (fun f fd F => ok__law_times F c__law_num)
  have c__law_sign : Cl P w K mg base 1 "_law_sign" ["field", "u"] (spP K F__law_sign) := t__law_sign.cl (fun _ _ _ _ _ _ us hl => match us, hl with | [_, _], _ => rfl) (fun f fd F => ok__law_sign F m_int)
  have c__law_same : Cl P w K mg base 3 "_law_same" ["found", "due"] (spP K (F__law_same 2)) := by
    obtain ⟨f, fd, hm, F⟩ := t__law_same.ex
    have hb : Binds K fd ["found", "due"] [] := F.binds (fun _ _ _ _ _ _ us hl => match us, hl with | [_, _], _ => rfl)
    exact ⟨f, fd, hm, F.kp, hb, ok__law_same F hm F.kp hb m_isinstance m_bool m_int m_str m_tuple m_list m_len m_range 2⟩
  have c__law_number : Cl P w K mg base 3 "_law_number" ["deck"] (spD K F__law_number) := t__law_number.cl (fun _ _ _ _ _ _ us hl => match us, hl with | [_], _ => rfl) (fun f fd F => ok__law_number F c__law_take c__law_num)
  have c__law_near : Cl P w K mg base 4 "_law_near" ["deck", "field"] (spD K F__law_near) := t__law_near.cl (fun _ _ _ _ _ _ us hl => match us, hl with | [_, _], _ => rfl) (fun f fd F => ok__law_near F c__law_number c__law_take c__law_times c__law_num m_range)
  have c__law_drawn : Cl P w K mg base 5 "_law_drawn" ["deck", "field"] (spD K F__law_drawn) := t__law_drawn.cl (fun _ _ _ _ _ _ us hl => match us, hl with | [_, _], _ => rfl) (fun f fd F => ok__law_drawn F c__law_take c__law_number c__law_num c__law_near c__law_plus)
  have c__law_is_floor : Cl P w K mg base 4 "_law_is_floor" ["field", "u", "whole"] (spP K F__law_is_floor) := t__law_is_floor.cl (fun _ _ _ _ _ _ us hl => match us, hl with | [_, _, _], _ => rfl) (fun f fd F => ok__law_is_floor F c__law_sign c__law_minus m_isinstance m_int m_bool)
  have c__law_units : Cl P w K mg base 4 "_law_units" ["field"] (spN K F__law_units) := t__law_units.cl (fun _ _ _ _ _ _ us hl => match us, hl with | [_], _ => rfl) (fun f fd F => ok__law_units F c__law_times c__law_sign c__law_minus m_range m_abs)
  have c__law_right : Cl P w K mg base 6 "_law_right" ["deck", "field"] (spD K F__law_right) := t__law_right.cl (fun _ _ _ _ _ _ us hl => match us, hl with | [_, _], _ => rfl) (fun f fd F => ok__law_right F c__law_drawn c__law_take c__law_plus c__law_near c__law_same c_sign c__law_sign c__law_minus c_compared c_floor_of c__law_is_floor c_about c__law_num ck_sign ck_compared ck_floor_of ck_about m_range)
  exact ok_law FL c__law_deck c__law_take c__law_right c__law_units c__law_same c_unit c_stretch_unit ck_unit ck_stretch_unit m_range m_max m_min m_len
theorem law_pre {K : PySem.W.Frag} {H : Hp} {a : Addr} {ns : List Int} (hl : ns.length ≤ 63) (hS : SqL K H a (ns.map V.int)) : spP K F_law [.ref a] H (fun v _ => v = .bl true) (fun _ _ _ => False) :=
  ⟨[.lst (ns.map Dat.int)], fun d => d = .bl true, DTs.cons (.v (.lstS (LS.of hS) (dvs_ints ns))) DTs.nil, ⟨ns, rfl, hl, rfl⟩, fun d hd v H' _ h => by cases hd; cases h; rfl⟩
theorem law_done {P : Program} {w : World} {K : PySem.W.Frag} {h : Heap} {mg : Str → Option Value} {fa f : Addr} (X : K.In h) (G : h.Ns mainGlobals mg) (hfa : mg "law" = some (.ref fa))
    (t_is_integer : Top K mg "is_integer" s_is_integer) (t_is_kind : Top K mg "is_kind" s_is_kind) (t_check_kind : Top K mg "check_kind" s_check_kind) (t_whole_sign : Top K mg "whole_sign" s_whole_sign) (t_whole_floor : Top K mg "whole_floor" s_whole_floor) (t_number_order : Top K mg "number_order" s_number_order) (t_is_number : Top K mg "is_number" s_is_number) (t_check_number : Top K mg "check_number" s_check_number) (t_sign : Top K mg "sign" s_sign) (t_compared : Top K mg "compared" s_compared) (t_floor_of : Top K mg "floor_of" s_floor_of) (t_about : Top K mg "about" s_about) (t_unit : Top K mg "unit" s_unit) (t_stretch_unit : Top K mg "stretch_unit" s_stretch_unit) (t__law_deck : Top K mg "_law_deck" s__law_deck) (t__law_take : Top K mg "_law_take" s__law_take) (t__law_gcd : Top K mg "_law_gcd" s__law_gcd) (t__law_num : Top K mg "_law_num" s__law_num) (t__law_plus : Top K mg "_law_plus" s__law_plus) (t__law_minus : Top K mg "_law_minus" s__law_minus) (t__law_times : Top K mg "_law_times" s__law_times) (t__law_sign : Top K mg "_law_sign" s__law_sign) (t__law_same : Top K mg "_law_same" s__law_same) (t__law_number : Top K mg "_law_number" s__law_number) (t__law_near : Top K mg "_law_near" s__law_near) (t__law_drawn : Top K mg "_law_drawn" s__law_drawn) (t__law_is_floor : Top K mg "_law_is_floor" s__law_is_floor) (t__law_units : Top K mg "_law_units" s__law_units) (t__law_right : Top K mg "_law_right" s__law_right) (m_isinstance : mg "isinstance" = none) (m_int : mg "int" = none) (m_bool : mg "bool" = none) (m_tuple : mg "tuple" = none) (m_len : mg "len" = none) (m_range : mg "range" = none) (m_abs : mg "abs" = none) (m_str : mg "str" = none) (m_list : mg "list" = none) (m_max : mg "max" = none) (m_min : mg "min" = none) (m_isqrt : mg "isqrt" = some (.builtin "math.isqrt")) (m_gcd : mg "gcd" = some (.builtin "math.gcd")) (t_KINDS : KT K mg "KINDS" [.int 2, .int 3, .int 5]) (t_UNITS : ∀ (P : Program) (w : World), KDI P w K mg "UNITS" unF) (t_STRETCH_UNITS : ∀ (P : Program) (w : World), KDI P w K mg "STRETCH_UNITS" suF)
    {oc : Value} {od an : Option Addr} {osl : Array (Option Value)} {kV doc pm cdv ct : Value}
    (a : PySem.W.nsIn K mainGlobals "law" = some (some (.ref f))) (l : K.lookup f = some ⟨oc, od, .func (PySem.W.fnOf "law" "law" (defArgs s_law) (defBody s_law) (defScope s_law) .none kV doc pm an cdv ct), osl⟩) (c : PySem.W.codeIn K cdv "law" = true) (k : PySem.W.keepIn K (.ref f) = true) :
    ∃ fd : FuncData, (∀ (s : Shared) (v : Value), BindsTo s fd ⟨[v], []⟩ [("script", v)]) ∧ ∀ base : Heap, K.In base → base.Ns mainGlobals mg → FnOk P w K mg base CX0 7 fa fd ["script"] (spP K F_law) := by
  have e := hfa.symm.trans (PySem.W.mg_of X G a)
  cases e
  exact ⟨_, fun s v => .of_eq rfl, fun base _ _ => law_all t_is_integer t_is_kind t_check_kind t_whole_sign t_whole_floor t_number_order t_is_number t_check_number t_sign t_compared t_floor_of t_about t_unit t_stretch_unit t__law_deck t__law_take t__law_gcd t__law_num t__law_plus t__law_minus t__law_times t__law_sign t__law_same t__law_number t__law_near t__law_drawn t__law_is_floor t__law_units t__law_right m_isinstance m_int m_bool m_tuple m_len m_range m_abs m_str m_list m_max m_min m_isqrt m_gcd t_KINDS t_UNITS t_STRETCH_UNITS (fun_mk (st := s_law) l c k)⟩
end Y02
set_option Elab.async false
set_option linter.all false
open PySem PySem.W PyProof.Rows
set_option maxRecDepth 100000 in
set_option maxHeartbeats 0 in
theorem PySem.Challenge.cw_wholefloors_k02_whole_signs_and_floors_holds : PySem.Challenge.rw_wholefloors_k02_whole_signs_and_floors.Holds := by
  w_on; o_law; k_head; (case hw => w_witness2)
  k_fill
  refine L2.walk_ofK (l := PySem.Challenge.rw_wholefloors_k02_whole_signs_and_floors) (n := 63) (k := 7) (x := "script") (CX := L2.CX0) (sp := fun K => Wz.spP K Y02.F_law) rfl (by decide) rfl ⟨rfl, by decide, by decide⟩ (fun w h Y => PySem.W.kIn_of Y) ?F (fun K H a ns hl _ hS => Y02.law_pre hl hS) (fun _ _ _ _ h => h)
  case F =>
    intro w mg fa h KX G hmg
    have t_is_integer := by
      refine' Y02.top_mk (x := "is_integer") (st := Y02.s_is_integer) KX G ?a ?l ?c ?k
      (case a => k_is); (case l => k_is); (case c => k_is); (case k => k_is)
    have t_is_kind := by
      refine' Y02.top_mk (x := "is_kind") (st := Y02.s_is_kind) KX G ?a ?l ?c ?k
      (case a => k_is); (case l => k_is); (case c => k_is); (case k => k_is)
    have t_check_kind := by
      refine' Y02.top_mk (x := "check_kind") (st := Y02.s_check_kind) KX G ?a ?l ?c ?k
      (case a => k_is); (case l => k_is); (case c => k_is); (case k => k_is)
    have t_whole_sign := by
      refine' Y02.top_mk (x := "whole_sign") (st := Y02.s_whole_sign) KX G ?a ?l ?c ?k
      (case a => k_is); (case l => k_is); (case c => k_is); (case k => k_is)
    have t_whole_floor := by
      refine' Y02.top_mk (x := "whole_floor") (st := Y02.s_whole_floor) KX G ?a ?l ?c ?k
      (case a => k_is); (case l => k_is); (case c => k_is); (case k => k_is)
    have t_number_order := by
      refine' Y02.top_mk (x := "number_order") (st := Y02.s_number_order) KX G ?a ?l ?c ?k
      (case a => k_is); (case l => k_is); (case c => k_is); (case k => k_is)
    have t_is_number := by
      refine' Y02.top_mk (x := "is_number") (st := Y02.s_is_number) KX G ?a ?l ?c ?k
      (case a => k_is); (case l => k_is); (case c => k_is); (case k => k_is)
    have t_check_number := by
      refine' Y02.top_mk (x := "check_number") (st := Y02.s_check_number) KX G ?a ?l ?c ?k
      (case a => k_is); (case l => k_is); (case c => k_is); (case k => k_is)
    have t_sign := by
      refine' Y02.top_mk (x := "sign") (st := Y02.s_sign) KX G ?a ?l ?c ?k
      (case a => k_is); (case l => k_is); (case c => k_is); (case k => k_is)
    have t_compared := by
      refine' Y02.top_mk (x := "compared") (st := Y02.s_compared) KX G ?a ?l ?c ?k
      (case a => k_is); (case l => k_is); (case c => k_is); (case k => k_is)
    have t_floor_of := by
      refine' Y02.top_mk (x := "floor_of") (st := Y02.s_floor_of) KX G ?a ?l ?c ?k
      (case a => k_is); (case l => k_is); (case c => k_is); (case k => k_is)
    have t_about := by
      refine' Y02.top_mk (x := "about") (st := Y02.s_about) KX G ?a ?l ?c ?k
      (case a => k_is); (case l => k_is); (case c => k_is); (case k => k_is)
    have t_unit := by
      refine' Y02.top_mk (x := "unit") (st := Y02.s_unit) KX G ?a ?l ?c ?k
      (case a => k_is); (case l => k_is); (case c => k_is); (case k => k_is)
    have t_stretch_unit := by
      refine' Y02.top_mk (x := "stretch_unit") (st := Y02.s_stretch_unit) KX G ?a ?l ?c ?k
      (case a => k_is); (case l => k_is); (case c => k_is); (case k => k_is)
    have t__law_deck := by
      refine' Y02.top_mk (x := "_law_deck") (st := Y02.s__law_deck) KX G ?a ?l ?c ?k
      (case a => k_is); (case l => k_is); (case c => k_is); (case k => k_is)
    have t__law_take := by
      refine' Y02.top_mk (x := "_law_take") (st := Y02.s__law_take) KX G ?a ?l ?c ?k
      (case a => k_is); (case l => k_is); (case c => k_is); (case k => k_is)
    have t__law_gcd := by
      refine' Y02.top_mk (x := "_law_gcd") (st := Y02.s__law_gcd) KX G ?a ?l ?c ?k
      (case a => k_is); (case l => k_is); (case c => k_is); (case k => k_is)
    have t__law_num := by
      refine' Y02.top_mk (x := "_law_num") (st := Y02.s__law_num) KX G ?a ?l ?c ?k
      (case a => k_is); (case l => k_is); (case c => k_is); (case k => k_is)
    have t__law_plus := by
      refine' Y02.top_mk (x := "_law_plus") (st := Y02.s__law_plus) KX G ?a ?l ?c ?k
      (case a => k_is); (case l => k_is); (case c => k_is); (case k => k_is)
    have t__law_minus := by
      refine' Y02.top_mk (x := "_law_minus") (st := Y02.s__law_minus) KX G ?a ?l ?c ?k
      (case a => k_is); (case l => k_is); (case c => k_is); (case k => k_is)
    have t__law_times := by
      refine' Y02.top_mk (x := "_law_times") (st := Y02.s__law_times) KX G ?a ?l ?c ?k
      (case a => k_is); (case l => k_is); (case c => k_is); (case k => k_is)
    have t__law_sign := by
      refine' Y02.top_mk (x := "_law_sign") (st := Y02.s__law_sign) KX G ?a ?l ?c ?k
      (case a => k_is); (case l => k_is); (case c => k_is); (case k => k_is)
    have t__law_same := by
      refine' Y02.top_mk (x := "_law_same") (st := Y02.s__law_same) KX G ?a ?l ?c ?k
      (case a => k_is); (case l => k_is); (case c => k_is); (case k => k_is)
    have t__law_number := by
      refine' Y02.top_mk (x := "_law_number") (st := Y02.s__law_number) KX G ?a ?l ?c ?k
      (case a => k_is); (case l => k_is); (case c => k_is); (case k => k_is)
    have t__law_near := by
      refine' Y02.top_mk (x := "_law_near") (st := Y02.s__law_near) KX G ?a ?l ?c ?k
      (case a => k_is); (case l => k_is); (case c => k_is); (case k => k_is)
    have t__law_drawn := by
      refine' Y02.top_mk (x := "_law_drawn") (st := Y02.s__law_drawn) KX G ?a ?l ?c ?k
      (case a => k_is); (case l => k_is); (case c => k_is); (case k => k_is)
    have t__law_is_floor := by
      refine' Y02.top_mk (x := "_law_is_floor") (st := Y02.s__law_is_floor) KX G ?a ?l ?c ?k
      (case a => k_is); (case l => k_is); (case c => k_is); (case k => k_is)
    have t__law_units := by
      refine' Y02.top_mk (x := "_law_units") (st := Y02.s__law_units) KX G ?a ?l ?c ?k
      (case a => k_is); (case l => k_is); (case c => k_is); (case k => k_is)
    have t__law_right := by
      refine' Y02.top_mk (x := "_law_right") (st := Y02.s__law_right) KX G ?a ?l ?c ?k
      (case a => k_is); (case l => k_is); (case c => k_is); (case k => k_is)
    have m_isinstance := by
      refine' PySem.W.mg_none_of (n := "isinstance") KX G ?a
      (case a => k_is)
    have m_int := by
      refine' PySem.W.mg_none_of (n := "int") KX G ?a
      (case a => k_is)
    have m_bool := by
      refine' PySem.W.mg_none_of (n := "bool") KX G ?a
      (case a => k_is)
    have m_tuple := by
      refine' PySem.W.mg_none_of (n := "tuple") KX G ?a
      (case a => k_is)
    have m_len := by
      refine' PySem.W.mg_none_of (n := "len") KX G ?a
      (case a => k_is)
    have m_range := by
      refine' PySem.W.mg_none_of (n := "range") KX G ?a
      (case a => k_is)
    have m_abs := by
      refine' PySem.W.mg_none_of (n := "abs") KX G ?a
      (case a => k_is)
    have m_str := by
      refine' PySem.W.mg_none_of (n := "str") KX G ?a
      (case a => k_is)
    have m_list := by
      refine' PySem.W.mg_none_of (n := "list") KX G ?a
      (case a => k_is)
    have m_max := by
      refine' PySem.W.mg_none_of (n := "max") KX G ?a
      (case a => k_is)
    have m_min := by
      refine' PySem.W.mg_none_of (n := "min") KX G ?a
      (case a => k_is)
    have m_isqrt := by
      refine' PySem.W.mg_of (n := "isqrt") (v := .builtin "math.isqrt") KX G ?a
      (case a => k_is)
    have m_gcd := by
      refine' PySem.W.mg_of (n := "gcd") (v := .builtin "math.gcd") KX G ?a
      (case a => k_is)
    have t_KINDS := by
      refine' Y02.kt_mk (x := "KINDS") KX G ?a ?l
      (case a => k_is); (case l => k_is)
    have t_UNITS := by
      refine' Y02.kdi_mk (x := "UNITS") (f := Y02.unF) KX G ?a ?l ?l2 ?l3 ?l5 ?hh ?hf
      (case a => k_is); (case l => k_is); (case l2 => k_is); (case l3 => k_is); (case l5 => k_is); (case hh => exact ⟨rfl, rfl, rfl⟩); (case hf => exact ⟨rfl, rfl, rfl⟩)
    have t_STRETCH_UNITS := by
      refine' Y02.kdi_mk (x := "STRETCH_UNITS") (f := Y02.suF) KX G ?a ?l ?l2 ?l3 ?l5 ?hh ?hf
      (case a => k_is); (case l => k_is); (case l2 => k_is); (case l3 => k_is); (case l5 => k_is); (case hh => exact ⟨rfl, rfl, rfl⟩); (case hf => exact ⟨rfl, rfl, rfl⟩)
    refine' Y02.law_done KX G hmg t_is_integer t_is_kind t_check_kind t_whole_sign t_whole_floor t_number_order t_is_number t_check_number t_sign t_compared t_floor_of t_about t_unit t_stretch_unit t__law_deck t__law_take t__law_gcd t__law_num t__law_plus t__law_minus t__law_times t__law_sign t__law_same t__law_number t__law_near t__law_drawn t__law_is_floor t__law_units t__law_right m_isinstance m_int m_bool m_tuple m_len m_range m_abs m_str m_list m_max m_min m_isqrt m_gcd t_KINDS t_UNITS t_STRETCH_UNITS ?a ?l2 ?c2 ?k2
    (case a => k_is); (case l2 => k_is); (case c2 => k_is); (case k2 => k_is)

