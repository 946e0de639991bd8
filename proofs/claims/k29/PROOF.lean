import PyProof.Rows.All
import Wide.All
import OpenK.AllK
import Wide.FinOn
import PyProof.EqAt
import PyProof.EqKinds
import PyProof.TupleCall
import PyProof.NoPylong
import PyProof.Fits
import HandS.ForMost
import HandS.ForExc
import HandS.Wide
import HandS.Gcd
import HandS.ExcInit
import HandS.ExcField
import HandS.TryMany
import HandS.IsInst
import HandS.Flow
import HandS.Evl
import HandS.Style
import HandS.More
import HandS.TupAny
import HandS.Zip
import HandS.Deep
import HandS.NoneIn
import HandS.Walk
import PyProof.P3In
import Flt.RightSqrt
import PySem.Challenge.RW_wholefloors_k29_whole_units_and_matrices
set_option Elab.async false
set_option linter.all false
set_option maxRecDepth 100000
set_option maxHeartbeats 4000000
/-! Lz: what a piece of a def does, by data; some lists (the cells) may be written; what is wanted of an outcome is told behind it. -/
namespace Wz
open PySem PySem.Spec PyProof.Rows L2 Evl

/-! ### the least that is asked -/
def WE (X : Cx) (e : Expr) (st : L2.St) (H : Hp) (Q : VK) : Prop :=
  ∀ (pins : List (Addr × Obj)) (s : Shared), Inv X pins st H s → wpAny (model X.prog X.w) X.A (eval e X.env) (EP X pins st Q) X.xe s
def WT (X : Cx) (e : Expr) (st : L2.St) (H : Hp) (Q : Bool → Hp → Prop) : Prop :=
  ∀ (pins : List (Addr × Obj)) (s : Shared), Inv X pins st H s → wpAny (model X.prog X.w) X.A (isTrue e X.env (eval e X.env)) (TP X pins st Q) X.xe s
def WW (X : Cx) (e : Expr) (st : L2.St) (H : Hp) (Q : Bool → Hp → Prop) : Prop :=
  ∀ (wh : Sem Value) (pins : List (Addr × Obj)) (s : Shared), Inv X pins st H s → wpAny (model X.prog X.w) X.A (isTrue e X.env wh) (TP X pins st Q) X.xe s
def WA (X : Cx) (es : List Expr) (st : L2.St) (H : Hp) (Q : List V → Hp → Prop) : Prop :=
  ∀ (pos : Pos) (pins : List (Addr × Obj)) (s : Shared), Inv X pins st H s → wpAny (model X.prog X.w) X.A (spliced (backTo pos (starEach es X.env))) (AP X pins st Q) X.xe s
def WK (X : Cx) (ks : List Keyword) (st : L2.St) (H : Hp) (Q : List V → Hp → Prop) : Prop :=
  ∀ (pos : Pos) (pins : List (Addr × Obj)) (s : Shared), Inv X pins st H s → wpAny (model X.prog X.w) X.A (evalAll ((backToKw pos (keywordEach ks X.env)).map (·.2))) (AP X pins st Q) X.xe s
def WS (X : Cx) (e : Stmt) (D : Ends) (st : L2.St) (H : Hp) : Prop :=
  ∀ (pins : List (Addr × Obj)) (s : Shared), Inv X pins st H s → wpAny (model X.prog X.w) X.A (exec e X.env) (SP X pins D) X.xe s
def WB (X : Cx) (es : List Stmt) (D : Ends) (st : L2.St) (H : Hp) : Prop :=
  ∀ (pins : List (Addr × Obj)) (s : Shared), Inv X pins st H s → wpAny (model X.prog X.w) X.A (execs es X.env) (SP X pins D) X.xe s
section
variable {X : Cx}
theorem pe_w {e : Expr} : PE X e (WE X e) := ⟨fun pins s _ _ _ I h => h pins s I⟩
theorem pt_w {e : Expr} : PT X e (WT X e) := ⟨fun pins s _ _ _ I h => h pins s I⟩
theorem pw_w {e : Expr} : PW X e (WW X e) := ⟨fun wh pins s _ _ _ I h => h wh pins s I⟩
theorem pa_w {es : List Expr} : PA X es (WA X es) := ⟨fun pos pins s _ _ _ I h => h pos pins s I⟩
theorem pk_w {es : List Keyword} : PK X es (WK X es) := ⟨fun pos pins s _ _ _ I h => h pos pins s I⟩
theorem ps_w {e : Stmt} : PS X e (WS X e) := ⟨fun pins s _ _ _ I h => h pins s I⟩
theorem pss_w {es : List Stmt} : PSs X es (WB X es) := ⟨fun pins s _ _ _ I h => h pins s I⟩
theorem we {e : Expr} {t : TE} (h : PE X e t) {st : L2.St} {H : Hp} {Q : VK} (q : t st H Q) : WE X e st H Q := fun pins s I => h.run pins s st H Q I q
theorem wt {e : Expr} {t : TT} (h : PT X e t) {st : L2.St} {H : Hp} {Q : Bool → Hp → Prop} (q : t st H Q) : WT X e st H Q := fun pins s I => h.run pins s st H Q I q
theorem ww {e : Expr} {t : TT} (h : PW X e t) {st : L2.St} {H : Hp} {Q : Bool → Hp → Prop} (q : t st H Q) : WW X e st H Q := fun wh pins s I => h.run wh pins s st H Q I q
theorem wa {es : List Expr} {t : TA} (h : PA X es t) {st : L2.St} {H : Hp} {Q : List V → Hp → Prop} (q : t st H Q) : WA X es st H Q := fun pos pins s I => h.run pos pins s st H Q I q
theorem wk {es : List Keyword} {t : TA} (h : PK X es t) {st : L2.St} {H : Hp} {Q : List V → Hp → Prop} (q : t st H Q) : WK X es st H Q := fun pos pins s I => h.run pos pins s st H Q I q
theorem wss {e : Stmt} {t : TS} (h : PS X e t) {st : L2.St} {H : Hp} {D : Ends} (q : t D st H) : WS X e D st H := fun pins s I => h.run pins s st H D I q
theorem wb {es : List Stmt} {t : TS} (h : PSs X es t) {st : L2.St} {H : Hp} {D : Ends} (q : t D st H) : WB X es D st H := fun pins s I => h.run pins s st H D I q
end

/-! ### data -/
inductive Dat where
  | non | bl (b : Bool) | int (i : Int) | str (x : Str) | tup (xs : List Dat) | lst (xs : List Dat) | cel (i : Nat) | raw (v : V)
abbrev Cs := List (List Dat)
abbrev Os := List Addr

/-- there is no list in it, and no cell -/
def noL : Dat → Bool
  | .lst _ => false
  | .cel _ => false
  | .raw _ => false
  | .tup xs => noLs xs
  | _ => true
where noLs : List Dat → Bool
  | [] => true
  | d :: ds => noL d && noLs ds
/-- all but the cells is kept -/
def Kp (o : Os) (H H' : Hp) : Prop := ∀ b u, b ∉ o → H b = some u → H' b = some u
theorem Kp.refl (o : Os) (H : Hp) : Kp o H H := fun _ _ _ h => h
theorem Kp.trans {o : Os} {H H1 H2 : Hp} (a : Kp o H H1) (b : Kp o H1 H2) : Kp o H H2 := fun x u n h => b x u n (a x u n h)
theorem Kp.of_ex {o : Os} {H H1 : Hp} (a : Ex H H1) : Kp o H H1 := fun x u _ h => a x u h
theorem Kp.ex {H H1 : Hp} (a : Kp [] H H1) : Ex H H1 := fun x u h => a x u (fun z => by cases z) h
theorem Kp.more {o o' : Os} {H H1 : Hp} (a : Kp o H H1) (h : ∀ b, b ∈ o → b ∈ o') : Kp o' H H1 := fun x u n g => a x u (fun z => n (h x z)) g

/-- a list that is read: no cell, or one of the module's own -/
def LS (K : PySem.W.Frag) (o : Os) (H : Hp) (a : Addr) (xs : List V) : Prop :=
  (Rd H a (.lst xs) ∧ a ∉ o) ∨ ∃ (ob : Obj) (its : Array Value) (n : Nat), K.lookup a = some ob ∧ ob.cls = .type "list" ∧ ob.dict = none ∧ ob.data = .seq its n ∧ its.size ≤ sizeLine ∧ Vals xs its.toList
theorem LS.sq {K : PySem.W.Frag} {o : Os} {H : Hp} {a : Addr} {xs : List V} (h : LS K o H a xs) : SqL K H a xs := by
  rcases h with h | h
  · exact .inl h.1
  · exact .inr h
theorem LS.of {K : PySem.W.Frag} {H : Hp} {a : Addr} {xs : List V} (h : SqL K H a xs) : LS K [] H a xs := by
  rcases h with h | h
  · exact .inl ⟨h, fun z => by cases z⟩
  · exact .inr h
theorem LS.less {K : PySem.W.Frag} {o o' : Os} {H : Hp} {a : Addr} {xs : List V} (w : ∀ b, b ∈ o' → b ∈ o) (h : LS K o H a xs) : LS K o' H a xs := by
  rcases h with h | h
  · exact .inl ⟨h.1, fun z => h.2 (w _ z)⟩
  · exact .inr h
theorem LS.plus {K : PySem.W.Frag} {o : Os} {H : Hp} {a p : Addr} {xs : List V} (n : H p = none) (h : LS K o H a xs) : LS K (o ++ [p]) H a xs := by
  rcases h with ⟨s, m⟩ | h
  · refine .inl ⟨s, fun z => ?_⟩
    rcases List.mem_append.mp z with z | z
    · exact m z
    · have e := List.mem_singleton.mp z
      subst e
      rcases s with s | ⟨ob, s⟩
      · rw [n] at s; cases s
      · rw [n] at s; cases s
  · exact .inr h
/-- v is d, of what stands in H, and no list of it is a cell -/
inductive DV (K : PySem.W.Frag) (o : Os) (H : Hp) : V → Dat → Prop
  | non : DV K o H .non .non
  | bl (b : Bool) : DV K o H (.bl b) (.bl b)
  | int (i : Int) : DV K o H (.int i) (.int i)
  | str (x : Str) : DV K o H (.str x) (.str x)
  | tup {a : Addr} {xs : List V} {ds : List Dat} : SqT K H a xs → xs.length = ds.length → (∀ (i : Nat) (v : V) (d : Dat), xs[i]? = some v → ds[i]? = some d → DV K o H v d) → DV K o H (.ref a) (.tup ds)
  | lst {a : Addr} {xs : List V} {ds : List Dat} : LS K o H a xs → xs.length = ds.length → (∀ (i : Nat) (v : V) (d : Dat), xs[i]? = some v → ds[i]? = some d → DV K o H v d) → DV K o H (.ref a) (.lst ds)
  | raw (v : V) : DV K o H v (.raw v)
def DVs (K : PySem.W.Frag) (o : Os) (H : Hp) (vs : List V) (ds : List Dat) : Prop := vs.length = ds.length ∧ ∀ (i : Nat) (v : V) (d : Dat), vs[i]? = some v → ds[i]? = some d → DV K o H v d
/-- v is d, a cell too -/
inductive DT (K : PySem.W.Frag) (o : Os) (H : Hp) : V → Dat → Prop
  | v {v : V} {d : Dat} : DV K o H v d → DT K o H v d
  | cel {a : Addr} {i : Nat} : o[i]? = some a → DT K o H (.ref a) (.cel i)
def DTs (K : PySem.W.Frag) (o : Os) (H : Hp) (vs : List V) (ds : List Dat) : Prop := vs.length = ds.length ∧ ∀ (i : Nat) (v : V) (d : Dat), vs[i]? = some v → ds[i]? = some d → DT K o H v d
/-- the cells -/
structure DK (K : PySem.W.Frag) (o : Os) (k : Cs) (H : Hp) : Prop where
  len : o.length = k.length
  nd : o.Nodup
  nl : ∀ s ∈ k, s.all noL = true
  at_ : ∀ (i : Nat) (a : Addr) (as : List Dat), o[i]? = some a → k[i]? = some as → ∃ xs, H a = some (.lst xs) ∧ DVs K o H xs as
theorem kp_rd {o : Os} {H H' : Hp} {a : Addr} {u : HO} (e : Kp o H H') (n : a ∉ o) (h : Rd H a u) : Rd H' a u := by
  rcases h with h | ⟨ob, h⟩
  · exact Or.inl (e a _ n h)
  · exact Or.inr ⟨ob, e a _ n h⟩
variable {K : PySem.W.Frag} {o : Os} {k : Cs} {H H' : Hp} {v : V} {d : Dat} {vs : List V} {ds as : List Dat} {a : Addr} {xs : List V}
theorem DK.cell (h : DK K o k H) (m : a ∈ o) : ∃ xs, H a = some (.lst xs) := by
  obtain ⟨i, hi⟩ := List.getElem?_of_mem m
  have hl : i < k.length := by rw [← h.len]; exact (List.getElem?_eq_some_iff.mp hi).1
  obtain ⟨xs, hx, _⟩ := h.at_ i a _ hi (List.getElem?_eq_getElem hl)
  exact ⟨xs, hx⟩
/-- what stands at a tuple's address is no cell -/
theorem LS.kp {K : PySem.W.Frag} {o o' : Os} {H H' : Hp} {a : Addr} {xs : List V} (h : LS K o' H a xs) (e : Kp o H H') (w : ∀ b, b ∈ o → b ∈ o') : LS K o' H' a xs := by
  rcases h with h | h
  · exact .inl ⟨kp_rd e (fun z => h.2 (w _ z)) h.1, h.2⟩
  · exact .inr h
theorem dk_tup (h : DK K o k H) (r : Rd H a (.tup xs)) : a ∉ o := fun m => by
  obtain ⟨ys, hy⟩ := h.cell m
  rcases r with r | ⟨ob, r⟩
  · rw [hy] at r; cases r
  · rw [hy] at r; cases r
theorem DK.ne (h : DK K o k H) (n : H a = none) : a ∉ o := fun m => by
  obtain ⟨ys, hy⟩ := h.cell m
  rw [n] at hy; cases hy
theorem kp_t (e : Kp o H H') (h0 : DK K o k H) (h : SqT K H a xs) : SqT K H' a xs := by
  rcases h with h | h
  · exact Or.inl (kp_rd e (dk_tup h0 h) h)
  · exact Or.inr h
theorem DV.kp (e : Kp o H H') (h0 : DK K o k H) (h : DV K o H v d) : DV K o H' v d := by
  induction h with
  | non => exact .non
  | bl b => exact .bl b
  | int i => exact .int i
  | str x => exact .str x
  | tup s l _ ih => exact .tup (kp_t e h0 s) l ih
  | lst s l _ ih => exact .lst (s.kp e fun _ z => z) l ih
  | raw v => exact .raw v
theorem DV.kp' {o' : Os} (e : Kp o H H') (h0 : DK K o k H) (w : ∀ b, b ∈ o → b ∈ o') (h : DV K o' H v d) : DV K o' H' v d := by
  induction h with
  | non => exact .non
  | bl b => exact .bl b
  | int i => exact .int i
  | str x => exact .str x
  | tup s l _ ih => exact .tup (kp_t e h0 s) l ih
  | lst s l _ ih => exact .lst (s.kp e w) l ih
  | raw v => exact .raw v
theorem DVs.kp (e : Kp o H H') (h0 : DK K o k H) (h : DVs K o H vs ds) : DVs K o H' vs ds := ⟨h.1, fun i v d a b => (h.2 i v d a b).kp e h0⟩
theorem DT.kp (e : Kp o H H') (h0 : DK K o k H) (h : DT K o H v d) : DT K o H' v d := by
  cases h with
  | v h => exact .v (h.kp e h0)
  | cel h => exact .cel h
theorem DTs.kp (e : Kp o H H') (h0 : DK K o k H) (h : DTs K o H vs ds) : DTs K o H' vs ds := ⟨h.1, fun i v d a b => (h.2 i v d a b).kp e h0⟩
theorem DVs.dts (h : DVs K o H vs ds) : DTs K o H vs ds := ⟨h.1, fun i v d a b => .v (h.2 i v d a b)⟩
/-- what stands new -/
theorem DK.ex (h : DK K o k H) (e : Ex H H') : DK K o k H' := ⟨h.len, h.nd, h.nl, fun i a as hi ha => by
  obtain ⟨xs, hx, hd⟩ := h.at_ i a as hi ha
  exact ⟨xs, e a _ hx, hd.kp (Kp.of_ex e) h⟩⟩
/-- fewer cells -/
theorem DV.less {o o' : Os} (h : ∀ b, b ∈ o' → b ∈ o) (q : DV K o H v d) : DV K o' H v d := by
  induction q with
  | non => exact .non
  | bl b => exact .bl b
  | int i => exact .int i
  | str x => exact .str x
  | tup s l _ ih => exact .tup s l ih
  | lst s l _ ih => exact .lst (s.less h) l ih
  | raw v => exact .raw v
theorem DVs.less {o o' : Os} (h : ∀ b, b ∈ o' → b ∈ o) (q : DVs K o H vs ds) : DVs K o' H vs ds := ⟨q.1, fun i v d a b => (q.2 i v d a b).less h⟩
/-- a new cell -/
theorem DV.plus {p : Addr} (n : H p = none) (h : DV K o H v d) : DV K (o ++ [p]) H v d := by
  induction h with
  | non => exact .non
  | bl b => exact .bl b
  | int i => exact .int i
  | str x => exact .str x
  | tup s l _ ih => exact .tup s l ih
  | lst s l _ ih => exact .lst (s.plus n) l ih
  | raw v => exact .raw v
theorem DVs.plus {p : Addr} (n : H p = none) (h : DVs K o H vs ds) : DVs K (o ++ [p]) H vs ds := ⟨h.1, fun i v d a b => (h.2 i v d a b).plus n⟩
theorem DT.plus {p : Addr} (n : H p = none) (h : DT K o H v d) : DT K (o ++ [p]) H v d := by
  cases h with
  | v h => exact .v (h.plus n)
  | cel h => exact .cel (by rw [List.getElem?_append_left (List.getElem?_eq_some_iff.mp h).1]; exact h)
theorem noLs_at : ∀ {ds : List Dat} {i : Nat} {d : Dat}, noL.noLs ds = true → ds[i]? = some d → noL d = true
  | [], _, _, _, h => by simp at h
  | d :: ds, 0, e, h, q => by
    rw [noL.noLs, Bool.and_eq_true] at h
    have : d = e := by simpa using q
    rw [← this]; exact h.1
  | d :: ds, i + 1, e, h, q => by
    rw [noL.noLs, Bool.and_eq_true] at h
    exact noLs_at h.2 (by simpa using q)
theorem DV.back (h : DV K o H v d) : noL d = true → ∀ o', DV K o' H v d := by
  induction h with
  | non => exact fun _ _ => .non
  | bl b => exact fun _ _ => .bl b
  | int i => exact fun _ _ => .int i
  | str x => exact fun _ _ => .str x
  | tup s l _ ih =>
    intro h o'
    rw [noL] at h
    exact .tup s l fun i v d a b => ih i v d a b (noLs_at h b) o'
  | lst s l _ ih => intro h; rw [noL] at h; cases h
  | raw v => intro h; rw [noL] at h; cases h
/-- no cell at the top -/
def noC : Dat → Bool
  | .cel _ => false
  | _ => true
theorem DT.unc (h : DT K o H v d) (n : noC d = true) : DV K o H v d := by
  cases h with
  | v h => exact h
  | cel h => cases n
theorem DTs.unc (h : DTs K o H vs ds) (n : ds.all noC = true) : DVs K o H vs ds := ⟨h.1, fun i v d a b => (h.2 i v d a b).unc (List.all_eq_true.mp n d (List.mem_of_getElem? b))⟩
theorem DVs.at (h : DVs K o H vs ds) {i : Nat} (e : ds[i]? = some d) : ∃ v, vs[i]? = some v ∧ DV K o H v d := by
  have hi : i < ds.length := (List.getElem?_eq_some_iff.mp e).1
  have hv : vs[i]? = some (vs[i]'(by rw [h.1]; exact hi)) := List.getElem?_eq_getElem _
  exact ⟨_, hv, h.2 i _ d hv e⟩
theorem DTs.at (h : DTs K o H vs ds) {i : Nat} (e : ds[i]? = some d) : ∃ v, vs[i]? = some v ∧ DT K o H v d := by
  have hi : i < ds.length := (List.getElem?_eq_some_iff.mp e).1
  have hv : vs[i]? = some (vs[i]'(by rw [h.1]; exact hi)) := List.getElem?_eq_getElem _
  exact ⟨_, hv, h.2 i _ d hv e⟩
theorem DVs.nil : DVs K o H [] [] := ⟨rfl, fun i v d a _ => by simp at a⟩
theorem DVs.cons (h : DV K o H v d) (r : DVs K o H vs ds) : DVs K o H (v :: vs) (d :: ds) :=
  ⟨congrArg Nat.succ r.1, fun i => match i with
    | 0 => fun w e a b => by simp at a b; subst a b; exact h
    | i + 1 => fun w e a b => r.2 i w e (by simpa using a) (by simpa using b)⟩
theorem DTs.nil : DTs K o H [] [] := ⟨rfl, fun i v d a _ => by simp at a⟩
theorem DTs.cons (h : DT K o H v d) (r : DTs K o H vs ds) : DTs K o H (v :: vs) (d :: ds) :=
  ⟨congrArg Nat.succ r.1, fun i => match i with
    | 0 => fun w e a b => by simp at a b; subst a b; exact h
    | i + 1 => fun w e a b => r.2 i w e (by simpa using a) (by simpa using b)⟩
theorem DVs.append {us : List V} {es : List Dat} (h : DVs K o H vs ds) (r : DVs K o H us es) : DVs K o H (vs ++ us) (ds ++ es) := by
  refine ⟨by rw [List.length_append, List.length_append, h.1, r.1], fun i v d ga gb => ?_⟩
  by_cases hi : i < vs.length
  · rw [List.getElem?_append_left hi] at ga
    rw [List.getElem?_append_left (by rw [← h.1]; exact hi)] at gb
    exact h.2 i v d ga gb
  · rw [List.getElem?_append_right (by omega)] at ga
    rw [List.getElem?_append_right (by rw [← h.1]; omega), ← h.1] at gb
    exact r.2 _ v d ga gb
theorem DTs.uncons {v0 : V} {d0 : Dat} (h : DTs K o H (v0 :: vs) (d0 :: ds)) : DT K o H v0 d0 ∧ DTs K o H vs ds := ⟨h.2 0 _ _ rfl rfl, by simpa using h.1, fun i v d a b => h.2 (i + 1) v d (by simpa using a) (by simpa using b)⟩
theorem DVs.uncons {v0 : V} {d0 : Dat} (h : DVs K o H (v0 :: vs) (d0 :: ds)) : DV K o H v0 d0 ∧ DVs K o H vs ds := ⟨h.2 0 _ _ rfl rfl, by simpa using h.1, fun i v d a b => h.2 (i + 1) v d (by simpa using a) (by simpa using b)⟩
theorem DT.unint {i : Int} (h : DT K o H v (.int i)) : v = .int i := by cases h with | v h => cases h; rfl
theorem DT.unbl {i : Bool} (h : DT K o H v (.bl i)) : v = .bl i := by cases h with | v h => cases h; rfl
theorem DT.unraw {w : V} (h : DT K o H v (.raw w)) : v = w := by cases h with | v h => cases h; rfl
theorem DT.uncel {i : Nat} (h : DT K o H v (.cel i)) : ∃ a, v = .ref a ∧ o[i]? = some a := by
  cases h with
  | v h => cases h
  | cel h => exact ⟨_, rfl, h⟩
theorem DV.untup (h : DV K o H v (.tup ds)) : ∃ a xs, v = .ref a ∧ SqT K H a xs ∧ DVs K o H xs ds := by
  cases h with
  | tup s l r => exact ⟨_, _, rfl, s, l, r⟩
theorem DV.unlst (h : DV K o H v (.lst ds)) : ∃ a xs, v = .ref a ∧ LS K o H a xs ∧ DVs K o H xs ds := by
  cases h with
  | lst s l r => exact ⟨_, _, rfl, s, l, r⟩
theorem DT.untup (h : DT K o H v (.tup ds)) : ∃ a xs, v = .ref a ∧ SqT K H a xs ∧ DVs K o H xs ds := (h.unc rfl).untup
theorem DT.unlst (h : DT K o H v (.lst ds)) : ∃ a xs, v = .ref a ∧ LS K o H a xs ∧ DVs K o H xs ds := (h.unc rfl).unlst
theorem DV.tup' (s : SqT K H a xs) (r : DVs K o H xs ds) : DV K o H (.ref a) (.tup ds) := .tup s r.1 r.2
theorem DV.lst' (s : Rd H a (.lst xs)) (n : a ∉ o) (r : DVs K o H xs ds) : DV K o H (.ref a) (.lst ds) := .lst (.inl ⟨s, n⟩) r.1 r.2
theorem DV.lstS (s : LS K o H a xs) (r : DVs K o H xs ds) : DV K o H (.ref a) (.lst ds) := .lst s r.1 r.2
/-- a cell is written -/
theorem noLs_all {ds : List Dat} (h : ds.all noL = true) {i : Nat} {d : Dat} (e : ds[i]? = some d) : noL d = true := List.all_eq_true.mp h d (List.mem_of_getElem? e)
theorem DVs.back (h : DVs K o H vs ds) (n : ds.all noL = true) (o' : Os) : DVs K o' H vs ds := ⟨h.1, fun i v d a b => (h.2 i v d a b).back (noLs_all n b) o'⟩
theorem dk_set {i : Nat} {ys : List V} {bs : List Dat} (h : DK K o k H) (hi : o[i]? = some a) (hy : DVs K o H ys bs) (nb : bs.all noL = true) : DK K o (k.set i bs) (upd H a (.lst ys)) ∧ Kp o H (upd H a (.lst ys)) := by
  have hm : a ∈ o := List.mem_of_getElem? hi
  have kp : Kp o H (upd H a (.lst ys)) := fun b u nb hb => by
    rw [upd_ne (fun z => nb (by rw [z]; exact hm))]
    exact hb
  refine ⟨⟨by rw [List.length_set]; exact h.len, h.nd, fun s hs => ?_, fun j b cs hj hc => ?_⟩, kp⟩
  · rcases List.mem_or_eq_of_mem_set hs with hs | rfl
    · exact h.nl s hs
    · exact nb
  by_cases e : i = j
  · subst e
    rw [hi] at hj
    cases hj
    have hl : i < k.length := by rw [← h.len]; exact (List.getElem?_eq_some_iff.mp hi).1
    rw [List.getElem?_set_self hl] at hc
    cases hc
    exact ⟨ys, upd_same, hy.kp kp h⟩
  · rw [List.getElem?_set_ne e] at hc
    obtain ⟨xs, hx, hd⟩ := h.at_ j b cs hj hc
    refine ⟨xs, ?_, hd.kp kp h⟩
    rw [upd_ne (fun z => ?_)]
    · exact hx
    · subst z
      have l1 := (List.getElem?_eq_some_iff.mp hi).1
      have l2 := (List.getElem?_eq_some_iff.mp hj).1
      exact e ((List.getElem?_inj l1 h.nd).mp (by rw [hi, hj]))
/-- a cell more -/
theorem dk_plus {p : Addr} (h : DK K o k H) (np : p ∉ o) (hp : H p = some (.lst xs)) (hd : DVs K o H xs as) (nb : as.all noL = true) : DK K (o ++ [p]) (k ++ [as]) H := by
  refine ⟨by rw [List.length_append, List.length_append, h.len]; rfl, ?_, fun s hs => ?_, fun i b bs hi hb => ?_⟩
  · exact List.nodup_append.mpr ⟨h.nd, by simp, fun x hx y hy z => np (by rw [List.mem_singleton] at hy; rw [← hy, ← z]; exact hx)⟩
  · rcases List.mem_append.mp hs with hs | hs
    · exact h.nl s hs
    · rw [List.mem_singleton] at hs
      rw [hs]
      exact nb
  · by_cases e : i < o.length
    · rw [List.getElem?_append_left e] at hi
      rw [List.getElem?_append_left (by rw [← h.len]; exact e)] at hb
      obtain ⟨ys, h1, h2⟩ := h.at_ i b bs hi hb
      exact ⟨ys, h1, h2.back (h.nl bs (List.mem_of_getElem? hb)) _⟩
    · rw [List.getElem?_append_right (by omega)] at hi
      rw [List.getElem?_append_right (by rw [← h.len]; omega), ← h.len] at hb
      cases hz : i - o.length with
      | zero =>
        rw [hz] at hi hb
        cases hi
        cases hb
        exact ⟨xs, hp, hd.back nb _⟩
      | succ q =>
        rw [hz] at hi
        simp at hi
/-- fewer cells -/
theorem dk_take {l : Os} (h : DK K (o ++ l) k H) : DK K o (k.take o.length) H := by
  refine ⟨?_, (List.nodup_append.mp h.nd).1, fun s hs => h.nl s (List.mem_of_mem_take hs), fun i b bs hi hb => ?_⟩
  · have := h.len
    rw [List.length_append] at this
    rw [List.length_take]
    omega
  · have hl := (List.getElem?_eq_some_iff.mp hi).1
    rw [List.getElem?_take] at hb
    rw [if_pos hl] at hb
    obtain ⟨ys, h1, h2⟩ := h.at_ i b bs (by rw [List.getElem?_append_left hl]; exact hi) hb
    exact ⟨ys, h1, h2.back (h.nl bs (List.mem_of_getElem? hb)) _⟩

/-- the names hold ds (none: not told) -/
def Sat (K : PySem.W.Frag) (o : Os) (st : L2.St) (H : Hp) (ds : List (Option Dat)) : Prop :=
  st.length = ds.length ∧ ∀ (i : Nat) (d : Dat), ds[i]? = some (some d) → ∃ v, st[i]? = some (some v) ∧ DT K o H v d
variable {st : L2.St} {es fs : List (Option Dat)}
theorem Sat.kp (h : Sat K o st H es) (e : Kp o H H') (h0 : DK K o k H) : Sat K o st H' es := ⟨h.1, fun i d hd => let ⟨v, a, b⟩ := h.2 i d hd; ⟨v, a, b.kp e h0⟩⟩
theorem Sat.set (h : Sat K o st H es) {i : Nat} (hv : DT K o H v d) : Sat K o (st.set i (some v)) H (es.set i (some d)) := by
  refine ⟨by rw [List.length_set, List.length_set]; exact h.1, fun j e he => ?_⟩
  by_cases hj : i = j
  · subst hj
    rw [List.getElem?_set] at he
    rw [if_pos rfl] at he
    by_cases hl : i < es.length
    · rw [if_pos hl] at he
      cases he
      refine ⟨v, ?_, hv⟩
      rw [List.getElem?_set_self (by rw [h.1]; exact hl)]
    · rw [if_neg hl] at he
      cases he
  · rw [List.getElem?_set_ne hj] at he
    obtain ⟨w, a, b⟩ := h.2 j e he
    exact ⟨w, by rw [List.getElem?_set_ne hj]; exact a, b⟩
/-- knowing less -/
theorem Sat.weak (h : Sat K o st H es) (hl : fs.length = es.length) (w : ∀ (i : Nat) (d : Dat), fs[i]? = some (some d) → es[i]? = some (some d)) : Sat K o st H fs :=
  ⟨h.1.trans hl.symm, fun i d hd => h.2 i d (w i d hd)⟩
/-- a slot without the cells from n on -/
@[reducible] def lowC (n : Nat) : Option Dat → Option Dat
  | some (.cel j) => if j < n then some (.cel j) else none
  | x => x
theorem Sat.low {l : Os} (h : Sat K (o ++ l) st H es) : Sat K o st H (es.map (lowC o.length)) := by
  refine ⟨by rw [List.length_map]; exact h.1, fun i d hd => ?_⟩
  rw [List.getElem?_map] at hd
  cases he : es[i]? with
  | none => rw [he] at hd; cases hd
  | some x =>
    rw [he] at hd
    have hd' : lowC o.length x = some d := by simpa using hd
    cases x with
    | none => cases hd'
    | some d0 =>
      obtain ⟨v, h1, h2⟩ := h.2 i d0 he
      cases h2 with
      | v h2 =>
        have e : lowC o.length (some d0) = some d0 := by cases h2 <;> rfl
        rw [e] at hd'
        cases hd'
        exact ⟨v, h1, .v (h2.less fun b hb => List.mem_append_left _ hb)⟩
      | cel h2 =>
        rename_i a j
        have hd2 : (if j < o.length then some (Dat.cel j) else none) = some d := hd'
        by_cases hj : j < o.length
        · rw [if_pos hj] at hd2
          cases hd2
          rw [List.getElem?_append_left hj] at h2
          exact ⟨_, h1, .cel h2⟩
        · rw [if_neg hj] at hd2
          cases hd2
theorem Sat.plus {p : Addr} (n : H p = none) (h : Sat K o st H es) : Sat K (o ++ [p]) st H es := ⟨h.1, fun i d hd => let ⟨v, a, b⟩ := h.2 i d hd; ⟨v, a, b.plus n⟩⟩

/-! ### judgements -/
def EvC (X : Cx) (o : Os) (e : Expr) (ds : List (Option Dat)) (k : Cs) (R : Dat → Cs → Prop) : Prop :=
  ∀ st H Q, Sat X.K o st H ds → DK X.K o k H → (∀ d k' v H', R d k' → Kp o H H' → DK X.K o k' H' → DT X.K o H' v d → Q v H') → WE X e st H Q
/-- a new list -/
def EvN (X : Cx) (o : Os) (e : Expr) (ds : List (Option Dat)) (k : Cs) (R : List Dat → Cs → Prop) : Prop :=
  ∀ st H Q, Sat X.K o st H ds → DK X.K o k H → (∀ as k' p xs H', R as k' → H p = none → Kp o H H' → DK X.K o k' H' → H' p = some (.lst xs) → DVs X.K o H' xs as → Q (.ref p) H') → WE X e st H Q
def EvT (X : Cx) (o : Os) (e : Expr) (ds : List (Option Dat)) (k : Cs) (R : Bool → Cs → Prop) : Prop :=
  ∀ st H Q, Sat X.K o st H ds → DK X.K o k H → (∀ b k' H', R b k' → Kp o H H' → DK X.K o k' H' → Q b H') → WT X e st H Q
def EvW (X : Cx) (o : Os) (e : Expr) (ds : List (Option Dat)) (k : Cs) (R : Bool → Cs → Prop) : Prop :=
  ∀ st H Q, Sat X.K o st H ds → DK X.K o k H → (∀ b k' H', R b k' → Kp o H H' → DK X.K o k' H' → Q b H') → WW X e st H Q
def EvA (X : Cx) (o : Os) (es : List Expr) (ds : List (Option Dat)) (k : Cs) (R : List Dat → Cs → Prop) : Prop :=
  ∀ st H Q, Sat X.K o st H ds → DK X.K o k H → (∀ as k' vs H', R as k' → Kp o H H' → DK X.K o k' H' → DTs X.K o H' vs as → Q vs H') → WA X es st H Q
def EvK (X : Cx) (o : Os) (es : List Keyword) (ds : List (Option Dat)) (k : Cs) (R : List Dat → Cs → Prop) : Prop :=
  ∀ st H Q, Sat X.K o st H ds → DK X.K o k H → (∀ as k' vs H', R as k' → Kp o H H' → DK X.K o k' H' → DTs X.K o H' vs as → Q vs H') → WK X es st H Q
/-- one outcome alone -/
def Ev (X : Cx) (o : Os) (e : Expr) (ds : List (Option Dat)) (k : Cs) (d : Dat) (k' : Cs) : Prop := ∀ R : Dat → Cs → Prop, R d k' → EvC X o e ds k R
def Et (X : Cx) (o : Os) (e : Expr) (ds : List (Option Dat)) (k : Cs) (b : Bool) (k' : Cs) : Prop := ∀ R : Bool → Cs → Prop, R b k' → EvT X o e ds k R
end Wz

set_option Elab.async false
set_option linter.all false
set_option maxRecDepth 100000
set_option maxHeartbeats 4000000
namespace Wz
open PySem PySem.Spec PyProof.Rows L2 Evl
@[reducible] def onI (x : Dat) (C : Int → Prop) : Prop := match x with | .int i => C i | _ => False
@[reducible] def onB (x : Dat) (C : Bool → Prop) : Prop := match x with | .bl i => C i | _ => False
@[reducible] def onT (x : Dat) (C : List Dat → Prop) : Prop := match x with | .tup i => C i | _ => False
@[reducible] def bc (b : Bool) (p q : Prop) : Prop := match b with | true => p | false => q
/-- what a list holds, a cell too -/
@[reducible] def onL (k : Cs) (x : Dat) (C : List Dat → Prop) : Prop := match x with
  | .lst as => C as
  | .cel i => match k[i]? with | some as => C as | none => False
  | _ => False
section
variable {X : Cx} {o : Os} {ds : List (Option Dat)} {k k1 k2 k3 k0 : Cs} {e a b c e1 e2 e3 : Expr} {es : List Expr} {d d1 d2 d3 : Dat} {as : List Dat} {pos p p2 p3 : Pos} {R : Dat → Cs → Prop} {RT : Bool → Cs → Prop} {x : Str}
theorem onI_ex {d : Dat} {C : Int → Prop} (h : onI d C) : ∃ i, d = .int i ∧ C i := by
  cases d <;> first | exact ⟨_, rfl, h⟩ | exact h.elim
theorem onB_ex {d : Dat} {C : Bool → Prop} (h : onB d C) : ∃ i, d = .bl i ∧ C i := by
  cases d <;> first | exact ⟨_, rfl, h⟩ | exact h.elim
theorem onT_ex {d : Dat} {C : List Dat → Prop} (h : onT d C) : ∃ i, d = .tup i ∧ C i := by
  cases d <;> first | exact ⟨_, rfl, h⟩ | exact h.elim
theorem onII_ex {d e : Dat} {C : Int → Int → Prop} (h : onI d fun i => onI e (C i)) : ∃ i j, d = .int i ∧ e = .int j ∧ C i j := by
  cases d with
  | int i =>
    cases e with
    | int j => exact ⟨i, j, rfl, rfl, h⟩
    | _ => exact h.elim
  | _ => exact h.elim
/-- a list that is read: its place, its items -/
theorem onL_ex {K : PySem.W.Frag} {H : Hp} {v : V} {C : List Dat → Prop} (hk : DK K o k H) (h : onL k d C) (hd : DT K o H v d) : ∃ p xs as, v = .ref p ∧ SqL K H p xs ∧ DVs K o H xs as ∧ C as := by
  cases d with
  | lst as =>
    obtain ⟨p, xs, rfl, h1, h2⟩ := hd.unlst
    exact ⟨p, xs, as, rfl, h1.sq, h2, h⟩
  | cel i =>
    obtain ⟨p, rfl, hp⟩ := hd.uncel
    cases hi : k[i]? with
    | none => simp only [onL, hi] at h
    | some as =>
      simp only [onL, hi] at h
      obtain ⟨xs, h1, h2⟩ := hk.at_ i p as hp hi
      exact ⟨p, xs, as, rfl, .inl (.inl h1), h2, h⟩
  | _ => exact h.elim

theorem c_name {i : Nat} (h : ds[i]? = some (some d)) (hR : R d k) (hN : X.N[i]? = some x := by rfl) (hv : Vis X.env.scope x := by first | exact Or.inl rfl | exact Or.inr (Or.inl rfl) | exact Or.inr (Or.inr rfl)) (hd : (x == ("__debug__" : Str)) = false := by decide) (hcd : (x == ("__classdict__" : Str)) = false := by decide) : EvC X o (.Name x pos) ds k R := by
  intro st H Q S hk q
  obtain ⟨v, h1, h2⟩ := S.2 i d h
  exact we (pe_var hN hv hd hcd) ⟨v, h1, q d k v H hR (Kp.refl _ _) hk h2⟩
/-- a name by its slot -/
theorem nm (i : Nat) (h : ds[i]? = some (some d)) (hR : R d k) (hN : X.N[i]? = some x := by rfl) (hv : Vis X.env.scope x := by first | exact Or.inl rfl | exact Or.inr (Or.inl rfl) | exact Or.inr (Or.inr rfl)) (hd : (x == ("__debug__" : Str)) = false := by decide) (hcd : (x == ("__classdict__" : Str)) = false := by decide) : EvC X o (.Name x pos) ds k R := c_name h hR hN hv hd hcd
theorem c_int {i : Int} {j} (hR : R (.int i) k) : EvC X o (.Constant (.int i) j pos) ds k R := fun _ H _ _ hk q => we pe_int (q _ _ _ H hR (Kp.refl _ _) hk (.v (.int _)))
theorem c_bl {i : Bool} {j} (hR : R (.bl i) k) : EvC X o (.Constant (.bool i) j pos) ds k R := fun _ H _ _ hk q => we pe_bl (q _ _ _ H hR (Kp.refl _ _) hk (.v (.bl _)))
theorem c_non {j} (hR : R .non k) : EvC X o (.Constant .none j pos) ds k R := fun _ H _ _ hk q => we pe_non (q _ _ _ H hR (Kp.refl _ _) hk (.v .non))
theorem c_str {z : Str} {j} (hR : R (.str z) k) : EvC X o (.Constant (.str z) j pos) ds k R := fun _ H _ _ hk q => we pe_str (q _ _ _ H hR (Kp.refl _ _) hk (.v (.str _)))
theorem c_raw {v : V} (h : PE X e (fun _ H Q => Q v H)) (hR : R (.raw v) k) : EvC X o e ds k R := fun _ H _ _ hk q => we h (q _ _ _ H hR (Kp.refl _ _) hk (.v (.raw _)))
theorem EvC.mono {R' : Dat → Cs → Prop} (h : EvC X o e ds k R) (w : ∀ d k, R d k → R' d k) : EvC X o e ds k R' := fun st H Q S hk q => h st H Q S hk fun d k' v H' r => q d k' v H' (w d k' r)
/-- a new list as a value -/
theorem c_ofN (h : EvN X o e ds k fun as k1 => R (.lst as) k1) : EvC X o e ds k R := fun st H Q S hk q => h st H Q S hk fun as k' p xs H' r np kp hk' hp hd => q _ k' _ H' r kp hk' (.v (.lst' (.inl hp) (hk.ne np) hd))
theorem c_det (h : Ev X o e ds k d k1) (r : R d k1) : EvC X o e ds k R := h R r
theorem det (h : ∀ R : Dat → Cs → Prop, R d k1 → EvC X o e ds k R) : Ev X o e ds k d k1 := h

/-! operators of ints -/
theorem c_opI {op : Operator} {C : Int → Int → Prop} {g : Int → Int → V} {z : Int → Int → Dat} (ho : OpR X (binaryOp op) (rI C g)) (hz : ∀ H i j, DT X.K o H (g i j) (z i j))
    (ha : EvC X o a ds k fun x k1 => EvC X o b ds k1 fun y k2 => onI x fun i => onI y fun j => C i j ∧ R (z i j) k2) : EvC X o (.BinOp a op b pos) ds k R := fun st H Q S hk q =>
  we (pe_op ho pe_w pe_w) (ha st H _ S hk fun x k1 v H1 hx e1 hk1 h1 => hx st H1 _ (S.kp e1 hk) hk1 fun y k2 w H2 hy e2 hk2 h2 => by
    obtain ⟨i, j, rfl, rfl, hc, hr⟩ := onII_ex hy
    exact ⟨i, j, h1.unint, h2.unint, hc, q _ k2 _ H2 hr (e1.trans e2) hk2 (hz _ _ _)⟩)
theorem c_opI0 {op : Operator} {g : Int → Int → V} {z : Int → Int → Dat} (ho : OpR X (binaryOp op) (rI0 g)) (hz : ∀ H i j, DT X.K o H (g i j) (z i j))
    (ha : EvC X o a ds k fun x k1 => EvC X o b ds k1 fun y k2 => onI x fun i => onI y fun j => R (z i j) k2) : EvC X o (.BinOp a op b pos) ds k R := fun st H Q S hk q =>
  we (pe_op ho pe_w pe_w) (ha st H _ S hk fun x k1 v H1 hx e1 hk1 h1 => hx st H1 _ (S.kp e1 hk) hk1 fun y k2 w H2 hy e2 hk2 h2 => by
    obtain ⟨i, j, rfl, rfl, hr⟩ := onII_ex hy
    exact ⟨i, j, h1.unint, h2.unint, q _ k2 _ H2 hr (e1.trans e2) hk2 (hz _ _ _)⟩)
theorem c_add (h : EvC X o a ds k fun x k1 => EvC X o b ds k1 fun y k2 => onI x fun i => onI y fun j => R (.int (i + j)) k2) : EvC X o (.BinOp a .Add b pos) ds k R := c_opI0 op_add (fun _ _ _ => .v (.int _)) h
theorem c_sub (h : EvC X o a ds k fun x k1 => EvC X o b ds k1 fun y k2 => onI x fun i => onI y fun j => R (.int (i - j)) k2) : EvC X o (.BinOp a .Sub b pos) ds k R := c_opI0 op_sub (fun _ _ _ => .v (.int _)) h
theorem c_mul (h : EvC X o a ds k fun x k1 => EvC X o b ds k1 fun y k2 => onI x fun i => onI y fun j => CMulW i j ∧ R (.int (i * j)) k2) : EvC X o (.BinOp a .Mult b pos) ds k R := c_opI op_mulW (fun _ _ _ => .v (.int _)) h
theorem c_mod (h : EvC X o a ds k fun x k1 => EvC X o b ds k1 fun y k2 => onI x fun i => onI y fun j => 0 < j ∧ R (.int (i % j)) k2) : EvC X o (.BinOp a .Mod b pos) ds k R := c_opI op_mod (fun _ _ _ => .v (.int _)) h
theorem c_fdiv (h : EvC X o a ds k fun x k1 => EvC X o b ds k1 fun y k2 => onI x fun i => onI y fun j => CDivW i j ∧ R (.int (i / j)) k2) : EvC X o (.BinOp a .FloorDiv b pos) ds k R := c_opI op_fdivW (fun _ _ _ => .v (.int _)) h
/-- // by any divisor but 0 below 2 ^ 9000 -/
def CDivX (_ j : Int) : Prop := j ≠ 0 ∧ j.natAbs.log2 < 9000
theorem op_fdivX : OpR X (binaryOp .FloorDiv) (rI CDivX fun i j => .int (i.fdiv j)) := opI fun i j _ _ _ _ _ hc q => floordiv_int hc.1 q (.inl (PyProof.noPylong_of_log2 hc.2))
theorem c_fdivX (h : EvC X o a ds k fun x k1 => EvC X o b ds k1 fun y k2 => onI x fun i => onI y fun j => CDivX i j ∧ R (.int (i.fdiv j)) k2) : EvC X o (.BinOp a .FloorDiv b pos) ds k R := c_opI op_fdivX (fun _ _ _ => .v (.int _)) h
theorem c_pow (h : EvC X o a ds k fun x k1 => EvC X o b ds k1 fun y k2 => onI x fun i => onI y fun j => CPow i j ∧ R (.int (i ^ j.toNat)) k2) : EvC X o (.BinOp a .Pow b pos) ds k R := c_opI op_pow (fun _ _ _ => .v (.int _)) h
theorem c_neg (h : EvC X o a ds k fun x k1 => onI x fun i => R (.int (-i)) k1) : EvC X o (.UnaryOp .USub a pos) ds k R := fun st H Q S hk q =>
  we (pe_un un_neg pe_w) (h st H _ S hk fun x k1 v H1 hx e1 hk1 h1 => by
    obtain ⟨i, rfl, hr⟩ := onI_ex hx
    exact ⟨i, h1.unint, q _ k1 _ H1 hr e1 hk1 (.v (.int _))⟩)
/-! comparisons -/
theorem c_cmp {op : CmpOp} {r : R2} (ho : OpR X (compareOp op) r) (hm : behindInMarks op b = false) {C : Dat → Dat → Cs → Bool → Prop} (hc : ∀ x y k2 v w H Q, (∃ z, C x y k2 z) → DK X.K o k2 H → DT X.K o H v x → DT X.K o H w y → (∀ z, C x y k2 z → Q (V.bl z) H) → r v w H Q)
    (h : EvC X o a ds k fun x k1 => EvC X o b ds k1 fun y k2 => (∃ z, C x y k2 z) ∧ ∀ z, C x y k2 z → R (.bl z) k2) : EvC X o (.Compare a [op] [b] pos) ds k R := fun st H Q S hk q =>
  we (pe_cmpR ho pe_w pe_w hm) (h st H _ S hk fun x k1 v H1 hx e1 hk1 h1 => hx st H1 _ (S.kp e1 hk) hk1 fun y k2 w H2 hy e2 hk2 h2 =>
    hc x y k2 v w H2 _ hy.1 hk2 (h1.kp e2 hk1) h2 fun z hz => q _ k2 _ H2 (hy.2 z hz) (e1.trans e2) hk2 (.v (.bl _)))
theorem tc_cmp {op : CmpOp} {r : R2} (ho : OpR X (compareOp op) r) (hm : behindInMarks op b = false) {C : Dat → Dat → Cs → Bool → Prop} (hc : ∀ x y k2 v w H Q, (∃ z, C x y k2 z) → DK X.K o k2 H → DT X.K o H v x → DT X.K o H w y → (∀ z, C x y k2 z → Q (V.bl z) H) → r v w H Q)
    (h : EvC X o a ds k fun x k1 => EvC X o b ds k1 fun y k2 => (∃ z, C x y k2 z) ∧ ∀ z, C x y k2 z → RT z k2) : EvT X o (.Compare a [op] [b] pos) ds k RT := fun st H Q S hk q =>
  wt (pt_cmpR ho pe_w pe_w hm) (h st H _ S hk fun x k1 v H1 hx e1 hk1 h1 => hx st H1 _ (S.kp e1 hk) hk1 fun y k2 w H2 hy e2 hk2 h2 =>
    hc x y k2 v w H2 _ hy.1 hk2 (h1.kp e2 hk1) h2 fun z hz => ⟨z, rfl, q _ k2 H2 (hy.2 z hz) (e1.trans e2) hk2⟩)
/-- two ints compared -/
def CI (g : Int → Int → Bool) (x y : Dat) (_ : Cs) (z : Bool) : Prop := onI x fun i => onI y fun j => z = g i j
theorem ci_r {g : Int → Int → Bool} (x y : Dat) (k2 : Cs) (v w : V) (H : Hp) (Q : VK) (h : ∃ z, CI g x y k2 z) (_ : DK X.K o k2 H) (h1 : DT X.K o H v x) (h2 : DT X.K o H w y) (q : ∀ z, CI g x y k2 z → Q (V.bl z) H) : rI0 (fun i j => .bl (g i j)) v w H Q := by
  obtain ⟨z, hz⟩ := h
  obtain ⟨i, j, rfl, rfl, hz⟩ := onII_ex hz
  exact ⟨i, j, h1.unint, h2.unint, q _ rfl⟩
theorem c_cmpI {op : CmpOp} {g : Int → Int → Bool} (ho : OpR X (compareOp op) (rI0 fun i j => .bl (g i j))) (hm : behindInMarks op b = false)
    (h : EvC X o a ds k fun x k1 => EvC X o b ds k1 fun y k2 => onI x fun i => onI y fun j => R (.bl (g i j)) k2) : EvC X o (.Compare a [op] [b] pos) ds k R :=
  c_cmp ho hm (C := CI g) ci_r (h.mono fun x k1 hx => hx.mono fun y k2 hy => by
    obtain ⟨i, j, rfl, rfl, hy⟩ := onII_ex hy
    exact ⟨⟨_, rfl⟩, fun z hz => by rw [show z = g i j from hz]; exact hy⟩)
theorem tc_cmpI {op : CmpOp} {P : Int → Int → Prop} [∀ i j, Decidable (P i j)] (ho : OpR X (compareOp op) (rI0 fun i j => .bl (decide (P i j)))) (hm : behindInMarks op b = false)
    (h : EvC X o a ds k fun x k1 => EvC X o b ds k1 fun y k2 => onI x fun i => onI y fun j => (P i j → RT true k2) ∧ (¬ P i j → RT false k2)) : EvT X o (.Compare a [op] [b] pos) ds k RT :=
  tc_cmp ho hm (C := CI fun i j => decide (P i j)) ci_r (h.mono fun x k1 hx => hx.mono fun y k2 hy => by
    obtain ⟨i, j, rfl, rfl, hy⟩ := onII_ex hy
    refine ⟨⟨_, rfl⟩, fun z hz => ?_⟩
    rw [show z = decide (P i j) from hz]
    by_cases hp : P i j
    · rw [decide_eq_true hp]; exact hy.1 hp
    · rw [decide_eq_false hp]; exact hy.2 hp)
theorem c_lt (h : EvC X o a ds k fun x k1 => EvC X o b ds k1 fun y k2 => onI x fun i => onI y fun j => R (.bl (decide (i < j))) k2) : EvC X o (.Compare a [.Lt] [b] pos) ds k R := c_cmpI op_lt (nobehind _ (by decide) (by decide)) h
theorem c_le (h : EvC X o a ds k fun x k1 => EvC X o b ds k1 fun y k2 => onI x fun i => onI y fun j => R (.bl (decide (i ≤ j))) k2) : EvC X o (.Compare a [.LtE] [b] pos) ds k R := c_cmpI op_le (nobehind _ (by decide) (by decide)) h
theorem c_gt (h : EvC X o a ds k fun x k1 => EvC X o b ds k1 fun y k2 => onI x fun i => onI y fun j => R (.bl (decide (j < i))) k2) : EvC X o (.Compare a [.Gt] [b] pos) ds k R := c_cmpI op_gt (nobehind _ (by decide) (by decide)) h
theorem c_ge (h : EvC X o a ds k fun x k1 => EvC X o b ds k1 fun y k2 => onI x fun i => onI y fun j => R (.bl (decide (j ≤ i))) k2) : EvC X o (.Compare a [.GtE] [b] pos) ds k R := c_cmpI op_ge (nobehind _ (by decide) (by decide)) h
theorem t_lt (h : EvC X o a ds k fun x k1 => EvC X o b ds k1 fun y k2 => onI x fun i => onI y fun j => (i < j → RT true k2) ∧ (¬ i < j → RT false k2)) : EvT X o (.Compare a [.Lt] [b] pos) ds k RT := tc_cmpI op_lt (nobehind _ (by decide) (by decide)) h
theorem t_le (h : EvC X o a ds k fun x k1 => EvC X o b ds k1 fun y k2 => onI x fun i => onI y fun j => (i ≤ j → RT true k2) ∧ (¬ i ≤ j → RT false k2)) : EvT X o (.Compare a [.LtE] [b] pos) ds k RT := tc_cmpI op_le (nobehind _ (by decide) (by decide)) h
theorem t_gt (h : EvC X o a ds k fun x k1 => EvC X o b ds k1 fun y k2 => onI x fun i => onI y fun j => (j < i → RT true k2) ∧ (¬ j < i → RT false k2)) : EvT X o (.Compare a [.Gt] [b] pos) ds k RT := tc_cmpI (P := fun i j => j < i) op_gt (nobehind _ (by decide) (by decide)) h
theorem t_ge (h : EvC X o a ds k fun x k1 => EvC X o b ds k1 fun y k2 => onI x fun i => onI y fun j => (j ≤ i → RT true k2) ∧ (¬ j ≤ i → RT false k2)) : EvT X o (.Compare a [.GtE] [b] pos) ds k RT := tc_cmpI (P := fun i j => j ≤ i) op_ge (nobehind _ (by decide) (by decide)) h
/-! == and != of plain things: what they are is told by scal -/
@[reducible] def fl : Dat → Option V
  | .non => some .non
  | .bl b => some (.bl b)
  | .int i => some (.int i)
  | .str x => some (.str x)
  | _ => none
theorem fl_is {K : PySem.W.Frag} {H : Hp} {v w : V} (f : fl d = some v) (h : DT K o H w d) : w = v := by
  cases h with
  | cel h => cases f
  | v h => cases h <;> first | (cases f; rfl) | cases f
/-- flat things compared -/
def CF (n : Bool) (x y : Dat) (_ : Cs) (z : Bool) : Prop := ∃ u w, fl x = some u ∧ fl y = some w ∧ scal u w = true ∧ z = (if n = true then !decide (u = w) else decide (u = w))
theorem bl_int (i j : Int) : decide (V.int i = V.int j) = decide (i = j) := by
  by_cases h : i = j
  · subst h
    simp
  · rw [decide_eq_false h, decide_eq_false (fun z => h (V.int.inj z))]
theorem c_eqF {u w : V} (h : EvC X o a ds k fun x k1 => EvC X o b ds k1 fun y k2 => fl x = some u ∧ fl y = some w ∧ scal u w = true ∧ R (.bl (decide (u = w))) k2) : EvC X o (.Compare a [.Eq] [b] pos) ds k R :=
  c_cmp op_eq (nobehind _ (by decide) (by decide)) (C := CF false) (fun x y k2 v w' H Q hz _ h1 h2 q => by
    obtain ⟨z, u, w, f1, f2, hs, rfl⟩ := hz
    have q1 := fl_is f1 h1
    have q2 := fl_is f2 h2
    subst q1 q2
    exact ⟨hs, q _ ⟨_, _, f1, f2, hs, rfl⟩⟩) (h.mono fun x k1 hx => hx.mono fun y k2 ⟨f1, f2, hs, hy⟩ => ⟨⟨_, _, _, f1, f2, hs, rfl⟩, fun z ⟨u', w', g1, g2, hs', e⟩ => by
      rw [f1] at g1; rw [f2] at g2
      cases g1; cases g2
      rw [e]
      exact hy⟩)
theorem t_eqF {u w : V} (h : EvC X o a ds k fun x k1 => EvC X o b ds k1 fun y k2 => fl x = some u ∧ fl y = some w ∧ scal u w = true ∧ RT (decide (u = w)) k2) : EvT X o (.Compare a [.Eq] [b] pos) ds k RT :=
  tc_cmp op_eq (nobehind _ (by decide) (by decide)) (C := CF false) (fun x y k2 v w' H Q hz _ h1 h2 q => by
    obtain ⟨z, u, w, f1, f2, hs, rfl⟩ := hz
    have q1 := fl_is f1 h1
    have q2 := fl_is f2 h2
    subst q1 q2
    exact ⟨hs, q _ ⟨_, _, f1, f2, hs, rfl⟩⟩) (h.mono fun x k1 hx => hx.mono fun y k2 ⟨f1, f2, hs, hy⟩ => ⟨⟨_, _, _, f1, f2, hs, rfl⟩, fun z ⟨u', w', g1, g2, hs', e⟩ => by
      rw [f1] at g1; rw [f2] at g2
      cases g1; cases g2
      rw [e]
      exact hy⟩)
theorem ci_eq (x y : Dat) (k2 : Cs) (v w : V) (H : Hp) (Q : VK) (h : ∃ z, CI (fun i j => decide (i = j)) x y k2 z) (_ : DK X.K o k2 H) (h1 : DT X.K o H v x) (h2 : DT X.K o H w y) (q : ∀ z, CI (fun i j => decide (i = j)) x y k2 z → Q (V.bl z) H) : scal v w = true ∧ Q (.bl (decide (v = w))) H := by
  obtain ⟨z, hz⟩ := h
  obtain ⟨i, j, rfl, rfl, hz⟩ := onII_ex hz
  have q1 := h1.unint
  have q2 := h2.unint
  subst q1 q2
  exact ⟨rfl, by rw [bl_int]; exact q _ rfl⟩
theorem ci_ne (x y : Dat) (k2 : Cs) (v w : V) (H : Hp) (Q : VK) (h : ∃ z, CI (fun i j => !decide (i = j)) x y k2 z) (_ : DK X.K o k2 H) (h1 : DT X.K o H v x) (h2 : DT X.K o H w y) (q : ∀ z, CI (fun i j => !decide (i = j)) x y k2 z → Q (V.bl z) H) : scal v w = true ∧ Q (.bl (!decide (v = w))) H := by
  obtain ⟨z, hz⟩ := h
  obtain ⟨i, j, rfl, rfl, hz⟩ := onII_ex hz
  have q1 := h1.unint
  have q2 := h2.unint
  subst q1 q2
  exact ⟨rfl, by rw [bl_int]; exact q _ rfl⟩
theorem c_eqI (h : EvC X o a ds k fun x k1 => EvC X o b ds k1 fun y k2 => onI x fun i => onI y fun j => R (.bl (decide (i = j))) k2) : EvC X o (.Compare a [.Eq] [b] pos) ds k R :=
  c_cmp op_eq (nobehind _ (by decide) (by decide)) (C := CI fun i j => decide (i = j)) ci_eq (h.mono fun x k1 hx => hx.mono fun y k2 hy => by
    obtain ⟨i, j, rfl, rfl, hy⟩ := onII_ex hy
    exact ⟨⟨_, rfl⟩, fun z hz => by rw [show z = decide (i = j) from hz]; exact hy⟩)
theorem t_eqI (h : EvC X o a ds k fun x k1 => EvC X o b ds k1 fun y k2 => onI x fun i => onI y fun j => (i = j → RT true k2) ∧ (¬ i = j → RT false k2)) : EvT X o (.Compare a [.Eq] [b] pos) ds k RT :=
  tc_cmp op_eq (nobehind _ (by decide) (by decide)) (C := CI fun i j => decide (i = j)) ci_eq (h.mono fun x k1 hx => hx.mono fun y k2 hy => by
    obtain ⟨i, j, rfl, rfl, hy⟩ := onII_ex hy
    refine ⟨⟨_, rfl⟩, fun z hz => ?_⟩
    rw [show z = decide (i = j) from hz]
    by_cases hp : i = j
    · rw [decide_eq_true hp]; exact hy.1 hp
    · rw [decide_eq_false hp]; exact hy.2 hp)
theorem c_neI (h : EvC X o a ds k fun x k1 => EvC X o b ds k1 fun y k2 => onI x fun i => onI y fun j => R (.bl (!decide (i = j))) k2) : EvC X o (.Compare a [.NotEq] [b] pos) ds k R :=
  c_cmp op_ne (nobehind _ (by decide) (by decide)) (C := CI fun i j => !decide (i = j)) ci_ne (h.mono fun x k1 hx => hx.mono fun y k2 hy => by
    obtain ⟨i, j, rfl, rfl, hy⟩ := onII_ex hy
    exact ⟨⟨_, rfl⟩, fun z hz => by rw [show z = !decide (i = j) from hz]; exact hy⟩)
theorem t_neI (h : EvC X o a ds k fun x k1 => EvC X o b ds k1 fun y k2 => onI x fun i => onI y fun j => (¬ i = j → RT true k2) ∧ (i = j → RT false k2)) : EvT X o (.Compare a [.NotEq] [b] pos) ds k RT :=
  tc_cmp op_ne (nobehind _ (by decide) (by decide)) (C := CI fun i j => !decide (i = j)) ci_ne (h.mono fun x k1 hx => hx.mono fun y k2 hy => by
    obtain ⟨i, j, rfl, rfl, hy⟩ := onII_ex hy
    refine ⟨⟨_, rfl⟩, fun z hz => ?_⟩
    rw [show z = !decide (i = j) from hz]
    by_cases hp : i = j
    · rw [decide_eq_true hp]; exact hy.2 hp
    · rw [decide_eq_false hp]; exact hy.1 hp)
/-! is None -/
@[reducible] def isN : Dat → Option Bool
  | .non => some true
  | .raw _ => none
  | _ => some false
theorem isN_is {K : PySem.W.Frag} {H : Hp} {v : V} {b : Bool} (f : isN d = some b) (h : DT K o H v d) : decide (v = .non) = b := by
  cases h with
  | cel h => cases f; exact decide_eq_false (fun z => by cases z)
  | v h => cases h <;> first | (cases f; rfl) | (cases f; exact decide_eq_false (fun z => by cases z)) | cases f
theorem t_isN {j pos'} (h : EvC X o a ds k fun x k1 => match isN x with | some b => RT b k1 | none => False) : EvT X o (.Compare a [.Is] [.Constant .none j pos'] pos) ds k RT := fun st H Q S hk q =>
  wt (pt_cmp (pc_isN pe_w)) (h st H _ S hk fun x k1 v H1 hx e1 hk1 h1 => by
    cases hb : isN x with
    | none => simp only [hb] at hx
    | some b =>
      simp only [hb] at hx
      exact ⟨_, rfl, by rw [isN_is hb h1]; exact q _ k1 H1 hx e1 hk1⟩)
theorem c_isN {j pos'} (h : EvC X o a ds k fun x k1 => match isN x with | some b => R (.bl b) k1 | none => False) : EvC X o (.Compare a [.Is] [.Constant .none j pos'] pos) ds k R := fun st H Q S hk q =>
  we (pe_cmp (pc_isN pe_w)) (h st H _ S hk fun x k1 v H1 hx e1 hk1 h1 => by
    cases hb : isN x with
    | none => simp only [hb] at hx
    | some b =>
      simp only [hb] at hx
      rw [isN_is hb h1]
      exact q _ k1 _ H1 hx e1 hk1 (.v (.bl _)))
/-! and, or, not of bools, as values -/
theorem c_one {op : BoolOp} (h : EvC X o a ds k R) : EvC X o (.BoolOp op [a] pos) ds k R := fun st H Q S hk q => we (pe_one pe_w) (h st H Q S hk q)
theorem c_and {rest : List Expr} (h : EvC X o a ds k fun x k1 => onB x fun z => bc z (EvC X o (.BoolOp .And (b :: rest) pos) ds k1 R) (R (.bl false) k1)) : EvC X o (.BoolOp .And (a :: b :: rest) pos) ds k R := fun st H Q S hk q =>
  we (pe_and pe_w pe_w) (h st H _ S hk fun x k1 v H1 hx e1 hk1 h1 => by
    obtain ⟨z, rfl, hx⟩ := onB_ex hx
    refine ⟨z, h1.unbl, ?_⟩
    cases z with
    | true => exact hx st H1 Q (S.kp e1 hk) hk1 fun y k2 w H2 hy e2 hk2 h2 => q y k2 w H2 hy (e1.trans e2) hk2 h2
    | false => exact q _ k1 _ H1 hx e1 hk1 (.v (.bl _)))
theorem c_or {rest : List Expr} (h : EvC X o a ds k fun x k1 => onB x fun z => bc z (R (.bl true) k1) (EvC X o (.BoolOp .Or (b :: rest) pos) ds k1 R)) : EvC X o (.BoolOp .Or (a :: b :: rest) pos) ds k R := fun st H Q S hk q =>
  we (pe_or pe_w pe_w) (h st H _ S hk fun x k1 v H1 hx e1 hk1 h1 => by
    obtain ⟨z, rfl, hx⟩ := onB_ex hx
    refine ⟨z, h1.unbl, ?_⟩
    cases z with
    | false => exact hx st H1 Q (S.kp e1 hk) hk1 fun y k2 w H2 hy e2 hk2 h2 => q y k2 w H2 hy (e1.trans e2) hk2 h2
    | true => exact q _ k1 _ H1 hx e1 hk1 (.v (.bl _)))
theorem c_not (h : EvC X o a ds k fun x k1 => onB x fun z => R (.bl (!z)) k1) : EvC X o (.UnaryOp .Not a pos) ds k R := fun st H Q S hk q =>
  we (pe_not pe_w) (h st H _ S hk fun x k1 v H1 hx e1 hk1 h1 => by
    obtain ⟨z, rfl, hx⟩ := onB_ex hx
    exact ⟨z, h1.unbl, q _ k1 _ H1 hx e1 hk1 (.v (.bl _))⟩)
/-! tests -/
theorem t_val (h : EvC X o e ds k fun x k1 => onB x fun z => RT z k1) (he : ∀ whole, isTrue e X.env whole = (do let v ← whole; standAt e.pos; holding [v] (truthy v)) := by intro _; rfl) : EvT X o e ds k RT := fun st H Q S hk q =>
  wt (pt_val pe_w he) (h st H _ S hk fun x k1 v H1 hx e1 hk1 h1 => by
    obtain ⟨z, rfl, hx⟩ := onB_ex hx
    exact ⟨z, h1.unbl, q _ k1 H1 hx e1 hk1⟩)
/-- the truth of an int -/
theorem t_tru (h : EvC X o e ds k fun x k1 => onI x fun i => (i ≠ 0 → RT true k1) ∧ (i = 0 → RT false k1)) (he : ∀ whole, isTrue e X.env whole = (do let v ← whole; standAt e.pos; holding [v] (truthy v)) := by intro _; rfl) : EvT X o e ds k RT := fun st H Q S hk q =>
  wt (pt_truth pe_w he) (h st H _ S hk fun x k1 v H1 hx e1 hk1 h1 => by
    obtain ⟨i, rfl, hx⟩ := onI_ex hx
    have := h1.unint
    subst this
    by_cases z : i = 0
    · exact ⟨_, rfl, by rw [show (i != 0) = false by simp [z]]; exact q _ k1 H1 (hx.2 z) e1 hk1⟩
    · exact ⟨_, rfl, by rw [show (i != 0) = true by simp [z]]; exact q _ k1 H1 (hx.1 z) e1 hk1⟩)
theorem EvT.mono {RT' : Bool → Cs → Prop} (h : EvT X o e ds k RT) (w : ∀ d k, RT d k → RT' d k) : EvT X o e ds k RT' := fun st H Q S hk q => h st H Q S hk fun d k' H' r => q d k' H' (w d k' r)
theorem t_w (h : EvW X o e ds k RT) : EvT X o e ds k RT := fun st H Q S hk q => wt pw_w.pt (h st H Q S hk q)
theorem w_and1 (h : EvT X o a ds k RT) : EvW X o (.BoolOp .And [a] pos) ds k RT := fun st H Q S hk q => ww (pw_and1 pt_w) (h st H Q S hk q)
theorem w_or1 (h : EvT X o a ds k RT) : EvW X o (.BoolOp .Or [a] pos) ds k RT := fun st H Q S hk q => ww (pw_or1 pt_w) (h st H Q S hk q)
theorem w_and {rest : List Expr} (h : EvT X o a ds k fun x k1 => bc x (EvW X o (.BoolOp .And (b :: rest) pos) ds k1 RT) (RT false k1)) : EvW X o (.BoolOp .And (a :: b :: rest) pos) ds k RT := fun st H Q S hk q =>
  ww (pw_and pt_w pw_w) (h st H _ S hk fun x k1 H1 hx e1 hk1 => by
    cases x with
    | true => exact hx st H1 Q (S.kp e1 hk) hk1 fun y k2 H2 hy e2 hk2 => q y k2 H2 hy (e1.trans e2) hk2
    | false => exact q _ k1 H1 hx e1 hk1)
theorem w_or {rest : List Expr} (h : EvT X o a ds k fun x k1 => bc x (RT true k1) (EvW X o (.BoolOp .Or (b :: rest) pos) ds k1 RT)) : EvW X o (.BoolOp .Or (a :: b :: rest) pos) ds k RT := fun st H Q S hk q =>
  ww (pw_or pt_w pw_w) (h st H _ S hk fun x k1 H1 hx e1 hk1 => by
    cases x with
    | false => exact hx st H1 Q (S.kp e1 hk) hk1 fun y k2 H2 hy e2 hk2 => q y k2 H2 hy (e1.trans e2) hk2
    | true => exact q _ k1 H1 hx e1 hk1)
theorem t_not (h : EvT X o a ds k fun x k1 => RT (!x) k1) : EvT X o (.UnaryOp .Not a pos) ds k RT := fun st H Q S hk q => wt (pt_not pt_w) (h st H _ S hk fun x k1 H1 hx e1 hk1 => q _ k1 H1 hx e1 hk1)
theorem c_if (h : EvT X o c ds k fun x k1 => bc x (EvC X o a ds k1 R) (EvC X o b ds k1 R)) : EvC X o (.IfExp c a b pos) ds k R := fun st H Q S hk q =>
  we (pe_ifExp pt_w pe_w pe_w) (h st H _ S hk fun x k1 H1 hx e1 hk1 => by
    cases x with
    | true => exact hx st H1 Q (S.kp e1 hk) hk1 fun y k2 v H2 hy e2 hk2 h2 => q y k2 v H2 hy (e1.trans e2) hk2 h2
    | false => exact hx st H1 Q (S.kp e1 hk) hk1 fun y k2 v H2 hy e2 hk2 h2 => q y k2 v H2 hy (e1.trans e2) hk2 h2)
/-- both ways joined -/
theorem c_ifJ {J : Dat → Cs → Prop} (h : EvT X o c ds k fun x k1 => bc x (EvC X o a ds k1 J) (EvC X o b ds k1 J)) (hJ : ∀ d k', J d k' → R d k') : EvC X o (.IfExp c a b pos) ds k R := (c_if h).mono hJ
/-! arguments, displays -/
theorem ca_nil {RA : List Dat → Cs → Prop} (h : RA [] k) : EvA X o [] ds k RA := fun st H Q S hk q => wa pa_nil (q [] k [] H h (Kp.refl _ _) hk DTs.nil)
theorem ca_cons {RA : List Dat → Cs → Prop} (h : EvC X o e ds k fun x k1 => EvA X o es ds k1 fun xs k2 => RA (x :: xs) k2) (hs : starEach (e :: es) X.env = (false, eval e X.env) :: starEach es X.env := by rfl) : EvA X o (e :: es) ds k RA := fun st H Q S hk q =>
  wa (pa_cons pe_w pa_w hs) (h st H _ S hk fun x k1 v H1 hx e1 hk1 h1 => hx st H1 _ (S.kp e1 hk) hk1 fun xs k2 vs H2 hy e2 hk2 h2 => q _ k2 _ H2 hy (e1.trans e2) hk2 (DTs.cons (h1.kp e2 hk1) h2))
theorem EvA.mono {RA RA' : List Dat → Cs → Prop} (h : EvA X o es ds k RA) (w : ∀ d k, RA d k → RA' d k) : EvA X o es ds k RA' := fun st H Q S hk q => h st H Q S hk fun d k' v H' r => q d k' v H' (w d k' r)
theorem ck_nil {RA : List Dat → Cs → Prop} (h : RA [] k) : EvK X o [] ds k RA := fun st H Q S hk q => wk pk_nil (q [] k [] H h (Kp.refl _ _) hk DTs.nil)
theorem ck_cons {RA : List Dat → Cs → Prop} {nm : Option Str} {kpos : Pos} {ks : List Keyword} (h : EvC X o e ds k fun x k1 => EvK X o ks ds k1 fun xs k2 => RA (x :: xs) k2) : EvK X o (⟨nm, e, kpos⟩ :: ks) ds k RA := fun st H Q S hk q =>
  wk (pk_cons pe_w pk_w) (h st H _ S hk fun x k1 v H1 hx e1 hk1 h1 => hx st H1 _ (S.kp e1 hk) hk1 fun xs k2 vs H2 hy e2 hk2 h2 => q _ k2 _ H2 hy (e1.trans e2) hk2 (DTs.cons (h1.kp e2 hk1) h2))
theorem c_tup {cx : Nat} (h : EvA X o es ds k fun xs k1 => (xs.all noC = true ∧ xs.length ≤ 1000) ∧ R (.tup xs) k1) : EvC X o (.Tuple es cx pos) ds k R := fun st H Q S hk q =>
  we (pe_tup pa_w) (h st H _ S hk fun xs k1 vs H1 hx e1 hk1 h1 => ⟨by rw [h1.1]; exact Nat.le_trans hx.1.2 (by decide), fun p np => q _ k1 _ _ hx.2 (e1.trans (Kp.of_ex (Ex.new np))) (hk1.ex (Ex.new np)) (.v (.tup' (.inl (.inl upd_same)) ((h1.unc hx.1.1).kp (Kp.of_ex (Ex.new np)) hk1)))⟩)
theorem ex_back {H H' : Hp} {q : Addr} (e : Kp o H H') (hk : DK X.K o k H) (np : H' q = none) : H q = none ∨ q ∈ o := by
  by_cases m : q ∈ o
  · exact .inr m
  · refine .inl ?_
    cases h : H q with
    | none => rfl
    | some u =>
      have := e q u m h
      rw [np] at this
      cases this
theorem fresh_back {H H' : Hp} {q : Addr} (e : Kp o H H') (hk' : DK X.K o k H') (np : H' q = none) : H q = none := by
  cases h : H q with
  | none => rfl
  | some u =>
    have := e q u (hk'.ne np) h
    rw [np] at this
    cases this
theorem n_disp {RN : List Dat → Cs → Prop} (h : EvA X o es ds k fun xs k1 => (xs.all noC = true ∧ xs.length ≤ 1000) ∧ RN xs k1) : EvN X o (.List es pos) ds k RN := fun st H Q S hk q =>
  we (pe_lst pa_w) (h st H _ S hk fun xs k1 vs H1 hx e1 hk1 h1 => ⟨by rw [h1.1]; exact Nat.le_trans hx.1.2 (by decide), fun p np => q _ k1 p vs _ hx.2 (fresh_back e1 hk1 np) (e1.trans (Kp.of_ex (Ex.new np))) (hk1.ex (Ex.new np)) upd_same ((h1.unc hx.1.1).kp (Kp.of_ex (Ex.new np)) hk1)⟩)
theorem c_lst (h : EvA X o es ds k fun xs k1 => (xs.all noC = true ∧ xs.length ≤ 1000) ∧ R (.lst xs) k1) : EvC X o (.List es pos) ds k R := c_ofN (n_disp h)
/-! t[i], xs[i] -/
@[reducible] def onAt (as : List Dat) (i : Int) (C : Dat → Prop) : Prop := ∃ (j : Nat) (d : Dat), i = (j : Int) ∧ as[j]? = some d ∧ C d
theorem c_ixT (h : EvC X o a ds k fun x k1 => EvC X o b ds k1 fun y k2 => onT x fun as => onI y fun i => onAt as i fun d => R d k2) (hp : PlainIx b := by exact fun _ _ => rfl) : EvC X o (.Subscript a b pos) ds k R := fun st H Q S hk q =>
  we (pe_ix ix_tup pe_w pe_w hp) (h st H _ S hk fun x k1 v H1 hx e1 hk1 h1 => hx st H1 _ (S.kp e1 hk) hk1 fun y k2 w H2 hy e2 hk2 h2 => by
    obtain ⟨as, rfl, hy⟩ := onT_ex hy
    obtain ⟨i, rfl, j, d, rfl, hj, hr⟩ := onI_ex hy
    have h1' := h1.kp e2 hk1
    obtain ⟨p, xs, rfl, hs, hd⟩ := h1'.untup
    obtain ⟨v, g1, g2⟩ := hd.at hj
    exact ⟨_, _, _, v, rfl, h2.unint, hs, atI_nat g1, q _ k2 v H2 hr (e1.trans e2) hk2 (.v g2)⟩)
theorem c_ixL (h : EvC X o a ds k fun x k1 => EvC X o b ds k1 fun y k2 => onL k2 x fun as => onI y fun i => onAt as i fun d => R d k2) (hp : PlainIx b := by exact fun _ _ => rfl) : EvC X o (.Subscript a b pos) ds k R := fun st H Q S hk q =>
  we (pe_ix ix_list pe_w pe_w hp) (h st H _ S hk fun x k1 v H1 hx e1 hk1 h1 => hx st H1 _ (S.kp e1 hk) hk1 fun y k2 w H2 hy e2 hk2 h2 => by
    obtain ⟨p, xs, as, rfl, hs, hd, hy⟩ := onL_ex hk2 hy (h1.kp e2 hk1)
    obtain ⟨i, rfl, j, d, rfl, hj, hr⟩ := onI_ex hy
    obtain ⟨v, g1, g2⟩ := hd.at hj
    exact ⟨_, _, _, v, rfl, h2.unint, hs, atI_nat g1, q _ k2 v H2 hr (e1.trans e2) hk2 (.v g2)⟩)
end
end Wz

set_option Elab.async false
set_option linter.all false
set_option maxRecDepth 100000
set_option maxHeartbeats 4000000
namespace Wz
open PySem PySem.Spec PyProof.Rows L2 Evl

/-! ### defs -/
abbrev FP := List Dat → (Dat → Prop) → Prop
abbrev FN := List Dat → (List Dat → Prop) → Prop
abbrev FD := List Dat → List Dat → (Dat → List Dat → Prop) → Prop
abbrev FE := List Dat → List Dat → (List Dat → List Dat → Prop) → Prop
/-- a def without side -/
def spP (K : PySem.W.Frag) (F : FP) : Sp := fun vs H Q _ => ∃ ds G, DTs K [] H vs ds ∧ F ds G ∧ ∀ d, G d → ∀ v H', Kp [] H H' → DV K [] H' v d → Q v H'
/-- one that tells a new list -/
def spN (K : PySem.W.Frag) (F : FN) : Sp := fun vs H Q _ => ∃ ds G, DTs K [] H vs ds ∧ F ds G ∧ ∀ as, G as → ∀ p xs H', H p = none → Kp [] H H' → H' p = some (.lst xs) → DVs K [] H' xs as → Q (.ref p) H'
/-- one whose first argument is a cell -/
def spD (K : PySem.W.Frag) (F : FD) : Sp := fun vs H Q _ => ∃ (a : Addr) (ws : List V) (ds s : List Dat) (G : Dat → List Dat → Prop), vs = .ref a :: ws ∧ DK K [a] [s] H ∧ DVs K [a] H ws ds ∧ F ds s G ∧ ∀ d s', G d s' → ∀ v H', Kp [a] H H' → DK K [a] [s'] H' → DV K [a] H' v d → Q v H'
/-- such a one that tells a new list -/
def spE (K : PySem.W.Frag) (F : FE) : Sp := fun vs H Q _ => ∃ (a : Addr) (ws : List V) (ds s : List Dat) (G : List Dat → List Dat → Prop), vs = .ref a :: ws ∧ DK K [a] [s] H ∧ DVs K [a] H ws ds ∧ F ds s G ∧ ∀ as s', G as s' → ∀ p xs H', H p = none → Kp [a] H H' → DK K [a] [s'] H' → H' p = some (.lst xs) → DVs K [a] H' xs as → Q (.ref p) H'
structure Cl (P : Program) (w : World) (K : PySem.W.Frag) (mg : Str → Option Value) (base : Heap) (k : Nat) (x : Str) (ps : List Str) (sp : Sp) : Prop where
  ex : ∃ (f : Addr) (fd : FuncData), mg x = some (.ref f) ∧ PySem.W.keepIn K (.ref f) = true ∧ Binds K fd ps [] ∧ FnOk P w K mg base CX0 k f fd ps sp
theorem Cl.mono {P : Program} {w : World} {K : PySem.W.Frag} {mg : Str → Option Value} {base : Heap} {j k : Nat} {x : Str} {ps : List Str} {sp : Sp} (c : Cl P w K mg base j x ps sp) (h : j ≤ k) : Cl P w K mg base k x ps sp := by
  obtain ⟨f, fd, a, b, c1, F⟩ := c.ex
  exact ⟨f, fd, a, b, c1, F.mono h⟩
/-- an argument as what is read -/
@[reducible] def rd (k : Cs) : Dat → Dat
  | .cel i => .lst (k.getD i [])
  | d => d
theorem rd_dt {K : PySem.W.Frag} {o : Os} {k : Cs} {H : Hp} {v : V} {d : Dat} (hk : DK K o k H) (h : DT K o H v d) : DT K [] H v (rd k d) := by
  cases h with
  | v h =>
    have h' : DV K [] H v d := h.less (fun b z => by cases z)
    have e : rd k d = d := by cases h <;> rfl
    rw [e]
    exact .v h'
  | cel hi =>
    rename_i a i
    have hl : i < k.length := by rw [← hk.len]; exact (List.getElem?_eq_some_iff.mp hi).1
    have hki : k[i]? = some (k.getD i []) := by rw [List.getD_eq_getElem?_getD, List.getElem?_eq_getElem hl]; rfl
    obtain ⟨xs, hx, hd⟩ := hk.at_ i a _ hi hki
    exact .v (.lst' (.inl hx) (fun z => by cases z) (hd.less fun b z => by cases z))
theorem rd_dts {K : PySem.W.Frag} {o : Os} {k : Cs} {H : Hp} {vs : List V} {ds : List Dat} (hk : DK K o k H) (h : DTs K o H vs ds) : DTs K [] H vs (ds.map (rd k)) := by
  refine ⟨by rw [List.length_map]; exact h.1, fun i v d a b => ?_⟩
  rw [List.getElem?_map] at b
  cases hd : ds[i]? with
  | none => rw [hd] at b; cases b
  | some d0 =>
    rw [hd] at b
    cases b
    exact rd_dt hk (h.2 i v d0 a hd)
/-- the first argument is a cell -/
@[reducible] def onD (k : Cs) (as : List Dat) (C : Nat → List Dat → List Dat → Prop) : Prop := match as with
  | .cel i :: bs => match k[i]? with
    | some s => C i s bs
    | none => False
  | _ => False
theorem onD_ex {k : Cs} {as : List Dat} {C : Nat → List Dat → List Dat → Prop} (h : onD k as C) : ∃ i s bs, as = .cel i :: bs ∧ k[i]? = some s ∧ C i s bs := by
  cases as with
  | nil => exact h.elim
  | cons a bs =>
    cases a with
    | cel i =>
      cases hi : k[i]? with
      | none => simp only [onD, hi] at h
      | some s =>
        simp only [onD, hi] at h
        exact ⟨i, s, bs, rfl, hi, h⟩
    | _ => exact h.elim
/-- the one cell alone -/
theorem dk_one {K : PySem.W.Frag} {o : Os} {k : Cs} {H : Hp} {i : Nat} {a : Addr} {s : List Dat} (hk : DK K o k H) (hi : o[i]? = some a) (hs : k[i]? = some s) : DK K [a] [s] H := by
  refine ⟨rfl, by simp, fun z hz => by rw [List.mem_singleton] at hz; rw [hz]; exact hk.nl s (List.mem_of_getElem? hs), fun j b cs hj hc => ?_⟩
  cases j with
  | zero =>
    cases hj
    cases hc
    obtain ⟨xs, h1, h2⟩ := hk.at_ i _ _ hi hs
    exact ⟨xs, h1, h2.less fun b hb => by rw [List.mem_singleton] at hb; rw [hb]; exact List.mem_of_getElem? hi⟩
  | succ j => cases hj
theorem dk_back {K : PySem.W.Frag} {o : Os} {k : Cs} {H H' : Hp} {i : Nat} {a : Addr} {s : List Dat} (hk : DK K o k H) (hi : o[i]? = some a) (e : Kp [a] H H') (h : DK K [a] [s] H') : DK K o (k.set i s) H' ∧ Kp o H H' := by
  have n : s.all noL = true := h.nl _ (List.mem_singleton.mpr rfl)
  have hm : a ∈ o := List.mem_of_getElem? hi
  have kp : Kp o H H' := e.more fun b hb => by rw [List.mem_singleton] at hb; rw [hb]; exact hm
  refine ⟨⟨by rw [List.length_set]; exact hk.len, hk.nd, fun z hz => ?_, fun j b cs hj hc => ?_⟩, kp⟩
  · rcases List.mem_or_eq_of_mem_set hz with hz | rfl
    · exact hk.nl z hz
    · exact h.nl _ (List.mem_singleton.mpr rfl)
  by_cases z : i = j
  · subst z
    rw [hi] at hj
    cases hj
    have hl : i < k.length := by rw [← hk.len]; exact (List.getElem?_eq_some_iff.mp hi).1
    rw [List.getElem?_set_self hl] at hc
    cases hc
    obtain ⟨xs, h1, h2⟩ := h.at_ 0 _ _ rfl rfl
    exact ⟨xs, h1, h2.back n o⟩
  · rw [List.getElem?_set_ne z] at hc
    obtain ⟨xs, hx, hd⟩ := hk.at_ j b cs hj hc
    refine ⟨xs, e b _ (fun hb => ?_) hx, hd.kp kp hk⟩
    rw [List.mem_singleton] at hb
    subst hb
    have l1 := (List.getElem?_eq_some_iff.mp hi).1
    exact z ((List.getElem?_inj l1 hk.nd).mp (by rw [hi, hj]))
section
variable {X : Cx} {o : Os} {ds : List (Option Dat)} {k k1 k2 : Cs} {e : Expr} {es : List Expr} {p pos : Pos} {R : Dat → Cs → Prop} {RN : List Dat → Cs → Prop} {x : Str} {ps : List Str} {k' : Nat}
theorem c_call {F : FP} (c : Cl X.prog X.w X.K X.mg X.base k' x ps (spP X.K F)) (hr : Room k' X.A) (h : EvA X o (e :: es) ds k fun as k1 => F (as.map (rd k1)) fun d => noL d = true ∧ R d k1) (hg : Gl X x := by rfl) (hdb : (x == ("__debug__" : Str)) = false := by decide)
    (he : starEach (e :: es) X.env = (false, eval e X.env) :: starEach es X.env := by rfl) (hpl : (backTo pos (starEach es X.env)).any (·.1) = false := by rfl) : EvC X o (.Call (.Name x p) (e :: es) [] pos) ds k R := fun st H Q St hk q => by
  obtain ⟨f, fd, a, b, c1, F1⟩ := c.ex
  refine we (pe_call F1 hr hg a b c1 .nil pass0 pa_w hdb he hpl) (h st H _ St hk fun as k1 vs H1 hx e1 hk1 h1 => ?_)
  refine ⟨as.map (rd k1), _, by rw [List.append_nil]; exact rd_dts hk1 h1, hx, fun d hd v H' e' h' => ?_⟩
  have e2 : Ex H1 H' := e'.ex
  exact q d k1 v H' hd.2 (e1.trans (Kp.of_ex e2)) (hk1.ex e2) (.v (h'.back hd.1 o))
theorem n_call {F : FN} (c : Cl X.prog X.w X.K X.mg X.base k' x ps (spN X.K F)) (hr : Room k' X.A) (h : EvA X o (e :: es) ds k fun as k1 => F (as.map (rd k1)) fun bs => bs.all noL = true ∧ RN bs k1) (hg : Gl X x := by rfl) (hdb : (x == ("__debug__" : Str)) = false := by decide)
    (he : starEach (e :: es) X.env = (false, eval e X.env) :: starEach es X.env := by rfl) (hpl : (backTo pos (starEach es X.env)).any (·.1) = false := by rfl) : EvN X o (.Call (.Name x p) (e :: es) [] pos) ds k RN := fun st H Q St hk q => by
  obtain ⟨f, fd, a, b, c1, F1⟩ := c.ex
  refine we (pe_call F1 hr hg a b c1 .nil pass0 pa_w hdb he hpl) (h st H _ St hk fun as k1 vs H1 hx e1 hk1 h1 => ?_)
  refine ⟨as.map (rd k1), _, by rw [List.append_nil]; exact rd_dts hk1 h1, hx, fun bs hd p xs H' np e' hp h' => ?_⟩
  have e2 : Ex H1 H' := e'.ex
  exact q bs k1 p xs H' hd.2 (fresh_back e1 hk1 np) (e1.trans (Kp.of_ex e2)) (hk1.ex e2) hp (h'.back hd.1 o)
/-- a cell handed on -/
theorem dts_cell {K : PySem.W.Frag} {o : Os} {k : Cs} {H : Hp} {vs : List V} {i : Nat} {s bs : List Dat} (hk : DK K o k H) (h : DTs K o H vs (.cel i :: bs)) (hs : k[i]? = some s) (n : bs.all noC = true) : ∃ a ws, vs = .ref a :: ws ∧ o[i]? = some a ∧ DK K [a] [s] H ∧ DVs K [a] H ws bs := by
  cases vs with
  | nil => exact absurd h.1 (by simp)
  | cons v ws =>
    obtain ⟨h1, h2⟩ := h.uncons
    obtain ⟨a, rfl, ha⟩ := h1.uncel
    exact ⟨a, ws, rfl, ha, dk_one hk ha hs, (h2.unc n).less fun b hb => by rw [List.mem_singleton] at hb; rw [hb]; exact List.mem_of_getElem? ha⟩
theorem c_callD {F : FD} (c : Cl X.prog X.w X.K X.mg X.base k' x ps (spD X.K F)) (hr : Room k' X.A) (h : EvA X o (e :: es) ds k fun as k1 => onD k1 as fun i s bs => bs.all noC = true ∧ F bs s fun d s' => noL d = true ∧ R d (k1.set i s')) (hg : Gl X x := by rfl) (hdb : (x == ("__debug__" : Str)) = false := by decide)
    (he : starEach (e :: es) X.env = (false, eval e X.env) :: starEach es X.env := by rfl) (hpl : (backTo pos (starEach es X.env)).any (·.1) = false := by rfl) : EvC X o (.Call (.Name x p) (e :: es) [] pos) ds k R := fun st H Q St hk q => by
  obtain ⟨f, fd, a, b, c1, F1⟩ := c.ex
  refine we (pe_call F1 hr hg a b c1 .nil pass0 pa_w hdb he hpl) (h st H _ St hk fun as k1 vs H1 hx e1 hk1 h1 => ?_)
  obtain ⟨i, s, bs, rfl, hs, hn, hx⟩ := onD_ex hx
  obtain ⟨aa, ws, rfl, ha, hk2, h2⟩ := dts_cell hk1 h1 hs hn
  refine ⟨aa, ws, bs, s, _, by rw [List.append_nil], hk2, h2, hx, fun d s' hd v H' e' hk' h' => ?_⟩
  obtain ⟨hk3, e3⟩ := dk_back hk1 ha e' hk'
  exact q d _ v H' hd.2 (e1.trans e3) hk3 (.v (h'.back hd.1 o))
theorem n_callD {F : FE} (c : Cl X.prog X.w X.K X.mg X.base k' x ps (spE X.K F)) (hr : Room k' X.A) (h : EvA X o (e :: es) ds k fun as k1 => onD k1 as fun i s bs => bs.all noC = true ∧ F bs s fun cs s' => cs.all noL = true ∧ RN cs (k1.set i s')) (hg : Gl X x := by rfl) (hdb : (x == ("__debug__" : Str)) = false := by decide)
    (he : starEach (e :: es) X.env = (false, eval e X.env) :: starEach es X.env := by rfl) (hpl : (backTo pos (starEach es X.env)).any (·.1) = false := by rfl) : EvN X o (.Call (.Name x p) (e :: es) [] pos) ds k RN := fun st H Q St hk q => by
  obtain ⟨f, fd, a, b, c1, F1⟩ := c.ex
  refine we (pe_call F1 hr hg a b c1 .nil pass0 pa_w hdb he hpl) (h st H _ St hk fun as k1 vs H1 hx e1 hk1 h1 => ?_)
  obtain ⟨i, s, bs, rfl, hs, hn, hx⟩ := onD_ex hx
  obtain ⟨aa, ws, rfl, ha, hk2, h2⟩ := dts_cell hk1 h1 hs hn
  refine ⟨aa, ws, bs, s, _, by rw [List.append_nil], hk2, h2, hx, fun cs s' hd p xs H' np e' hk' hp h' => ?_⟩
  obtain ⟨hk3, e3⟩ := dk_back hk1 ha e' hk'
  exact q cs _ p xs H' hd.2 (fresh_back e1 hk1 np) (e1.trans e3) hk3 hp (h'.back hd.1 o)
end
/-! keywords alone -/
def kperm (pi : List Nat) (n : Nat) {α : Type} (us ws : List α) : List α := match us with
  | [] => if ws.length = n then pi.filterMap (fun i => ws[i]?) else []
  | _ :: _ => []
theorem kperm_rel (pi : List Nat) (n : Nat) {vs : List V} {us : List Value} {zs : List V} {ws : List Value} (r : Vals vs us) (r2 : Vals zs ws) : Vals (kperm pi n vs zs) (kperm pi n us ws) := by
  cases r with
  | cons _ _ => exact .nil
  | nil =>
    unfold kperm
    by_cases hn : zs.length = n
    · have e2 : ws.length = n := by rw [← r2.length]; exact hn
      show Vals (if zs.length = n then pi.filterMap (fun i => zs[i]?) else []) (if ws.length = n then pi.filterMap (fun i => ws[i]?) else [])
      rw [if_pos hn, if_pos e2]
      induction pi with
      | nil => exact .nil
      | cons i pi ih =>
        rw [List.filterMap_cons, List.filterMap_cons]
        cases hz : zs[i]? with
        | none =>
          rw [r2.none_of hz]
          exact ih
        | some z =>
          obtain ⟨u, hu, ru⟩ := r2.get hz
          rw [hu]
          exact .cons ru ih
    · have e2 : ¬ ws.length = n := by rw [← r2.length]; exact hn
      show Vals (if zs.length = n then pi.filterMap (fun i => zs[i]?) else []) (if ws.length = n then pi.filterMap (fun i => ws[i]?) else [])
      rw [if_neg hn, if_neg e2]
      exact .nil
theorem Fun.kb {K : PySem.W.Frag} {x qual : Str} {st : Stmt} {f : Addr} {fd : FuncData} {ps ks : List Str} (F : Fun K x qual st f fd) (pi : List Nat) (n : Nat) (hp : 0 < ps.length)
    (h : ∀ (kV doc pm : Value) (an : Option Addr) (cdv ct : Value) (ws : List Value), ws.length = n → bindArgs (PySem.W.fnOf x qual (defArgs st) (defBody st) (defScope st) .none kV doc pm an cdv ct) ⟨[], ks.zip ws⟩ = pure (ps.zip (kperm pi n [] ws))) : KBinds K fd ps ks (kperm pi n) (kperm pi n) := by
  obtain ⟨oc, od, kV, doc, pm, an, cdv, ct, osl, rfl, lk, hcd⟩ := F.ex
  refine ⟨fun s us ws _ hl => ?_, fun r r2 => kperm_rel pi n r r2⟩
  cases us with
  | cons u us =>
    have hl' : (0 : Nat) = ps.length := hl
    omega
  | nil =>
    by_cases hw : ws.length = n
    · exact .of_eq (h kV doc pm an cdv ct ws hw)
    · have e : kperm pi n ([] : List Value) ws = [] := by
        unfold kperm
        rw [if_neg hw]
      rw [e] at hl
      have hl' : (0 : Nat) = ps.length := hl
      omega
@[reducible] def permD (pi : List Nat) (as : List Dat) : List Dat := pi.filterMap (fun i => as[i]?)
theorem DTs.perm {K : PySem.W.Frag} {o : Os} {H : Hp} {vs : List V} {as : List Dat} (h : DTs K o H vs as) (pi : List Nat) : DTs K o H (pi.filterMap fun i => vs[i]?) (permD pi as) := by
  unfold permD
  induction pi with
  | nil => exact DTs.nil
  | cons i pi ih =>
    rw [List.filterMap_cons, List.filterMap_cons]
    cases ha : as[i]? with
    | none =>
      have : vs[i]? = none := by
        rw [List.getElem?_eq_none_iff] at ha ⊢
        rw [h.1]
        exact ha
      rw [this]
      exact ih
    | some dd =>
      obtain ⟨v, hv, hd⟩ := h.at ha
      rw [hv]
      exact DTs.cons hd ih
structure ClK (P : Program) (w : World) (K : PySem.W.Frag) (mg : Str → Option Value) (base : Heap) (k : Nat) (x : Str) (ps ks : List Str) (pi : List Nat) (sp : Sp) : Prop where
  ex : ∃ (f : Addr) (fd : FuncData), mg x = some (.ref f) ∧ PySem.W.keepIn K (.ref f) = true ∧ KBinds K fd ps ks (kperm pi ks.length) (kperm pi ks.length) ∧ FnOk P w K mg base CX0 k f fd ps sp
section
variable {X : Cx} {o : Os} {ds : List (Option Dat)} {k k1 k2 : Cs} {e : Expr} {es : List Expr} {p pos : Pos} {R : Dat → Cs → Prop} {RN : List Dat → Cs → Prop} {x : Str} {ps ks : List Str} {k' : Nat} {pi : List Nat} {kws : List Keyword}
theorem c_callK {F : FP} (c : ClK X.prog X.w X.K X.mg X.base k' x ps ks pi (spP X.K F)) (hr : Room k' X.A) (h : EvK X o kws ds k fun as k1 => as.length = ks.length ∧ F (permD pi (as.map (rd k1))) fun d => noL d = true ∧ R d k1) (hg : Gl X x := by rfl)
    (hall : (backToKw pos (keywordEach kws X.env)).all (·.1.isSome) = true := by rfl) (hks : (backToKw pos (keywordEach kws X.env)).filterMap (·.1) = ks := by rfl) (hdb : (x == ("__debug__" : Str)) = false := by decide)
    (hpl : ((backTo pos (starEach [] X.env)).any (·.1) || (backToKw pos (keywordEach kws X.env)).any (·.1.isNone)) = false := by rfl) : EvC X o (.Call (.Name x p) [] kws pos) ds k R := fun st H Q St hk q => by
  obtain ⟨f, fd, hm, hkp, hb, F1⟩ := c.ex
  intro pins s I
  refine wpAny_Call_Name_kw (ld_glob I hg hm ?_ hdb)
  refine PySem.W.callWith_KW0 (h₀ := X.base) I.ok.mod.kin hkp hall (thn (h st H (fun zs H2 => spP X.K F (kperm pi ks.length [] zs) H2 Q E0) St hk (fun as k1 vs H1 hx e1 hk1 h1 => ?_) pos pins s I) fun ws s2 ⟨zs, H2, I2, rz, q2⟩ => ⟨I2.kIn, ?_⟩) hpl
  · refine ⟨permD pi (as.map (rd k1)), _, ?_, hx.2, fun d hd v H' e' h' => ?_⟩
    · unfold kperm
      rw [if_pos (by rw [h1.1]; exact hx.1)]
      exact (rd_dts hk1 h1).perm pi
    · exact q d k1 v H' hd.2 (e1.trans (Kp.of_ex e'.ex)) (hk1.ex e'.ex) (.v (h'.back hd.1 o))
  · rw [hks]
    exact run_fnk F1 hr hb pass0 I2 .nil rz q2
theorem n_callK {F : FN} (c : ClK X.prog X.w X.K X.mg X.base k' x ps ks pi (spN X.K F)) (hr : Room k' X.A) (h : EvK X o kws ds k fun as k1 => as.length = ks.length ∧ F (permD pi (as.map (rd k1))) fun bs => bs.all noL = true ∧ RN bs k1) (hg : Gl X x := by rfl)
    (hall : (backToKw pos (keywordEach kws X.env)).all (·.1.isSome) = true := by rfl) (hks : (backToKw pos (keywordEach kws X.env)).filterMap (·.1) = ks := by rfl) (hdb : (x == ("__debug__" : Str)) = false := by decide)
    (hpl : ((backTo pos (starEach [] X.env)).any (·.1) || (backToKw pos (keywordEach kws X.env)).any (·.1.isNone)) = false := by rfl) : EvN X o (.Call (.Name x p) [] kws pos) ds k RN := fun st H Q St hk q => by
  obtain ⟨f, fd, hm, hkp, hb, F1⟩ := c.ex
  intro pins s I
  refine wpAny_Call_Name_kw (ld_glob I hg hm ?_ hdb)
  refine PySem.W.callWith_KW0 (h₀ := X.base) I.ok.mod.kin hkp hall (thn (h st H (fun zs H2 => spN X.K F (kperm pi ks.length [] zs) H2 Q E0) St hk (fun as k1 vs H1 hx e1 hk1 h1 => ?_) pos pins s I) fun ws s2 ⟨zs, H2, I2, rz, q2⟩ => ⟨I2.kIn, ?_⟩) hpl
  · refine ⟨permD pi (as.map (rd k1)), _, ?_, hx.2, fun bs hd pp xs H' np e' hp h' => ?_⟩
    · unfold kperm
      rw [if_pos (by rw [h1.1]; exact hx.1)]
      exact (rd_dts hk1 h1).perm pi
    · exact q bs k1 pp xs H' hd.2 (fresh_back e1 hk1 np) (e1.trans (Kp.of_ex e'.ex)) (hk1.ex e'.ex) hp (h'.back hd.1 o)
  · rw [hks]
    exact run_fnk F1 hr hb pass0 I2 .nil rz q2
end

/-! ### blocks -/
/-- the cells are those of the entry, and new ones -/
structure Frs (o0 o : Os) (H0 : Hp) : Prop where
  pre : ∃ l, o = o0 ++ l
  new : ∀ b ∈ o, b ∉ o0 → H0 b = none
theorem Frs.kp {o0 o : Os} {H0 H H1 : Hp} (f : Frs o0 o H0) (e0 : Kp o0 H0 H) (e : Kp o H H1) : Kp o0 H0 H1 := fun b u nb hb => by
  refine e b u (fun m => ?_) (e0 b u nb hb)
  rw [f.new b m nb] at hb
  cases hb
/-- from any heap behind H0, where the names hold ds, the block does what D wants -/
def AS (X : Cx) (o0 o : Os) (sts : List Stmt) (D : Ends) (ds : List (Option Dat)) (k : Cs) (H0 : Hp) : Prop :=
  ∀ st H, Sat X.K o st H ds → DK X.K o k H → Kp o0 H0 H → Frs o0 o H0 → WB X sts D st H
/-- what a def's end wants -/
def RetC (K : PySem.W.Frag) (o0 : Os) (H0 : Hp) (rt : VK) (G : Dat → Cs → Prop) : Prop := ∀ d k' v H1, G d k' → Kp o0 H0 H1 → DK K o0 k' H1 → DV K o0 H1 v d → rt v H1
def RetN (K : PySem.W.Frag) (o0 : Os) (H0 : Hp) (rt : VK) (G : List Dat → Cs → Prop) : Prop := ∀ as k' p xs H1, G as k' → H0 p = none → p ∉ o0 → Kp o0 H0 H1 → DK K o0 k' H1 → H1 p = some (.lst xs) → DVs K o0 H1 xs as → rt (.ref p) H1
section
variable {X : Cx} {o0 o : Os} {ds : List (Option Dat)} {k k1 k2 : Cs} {e c : Expr} {d : Dat} {as : List Dat} {pos pos' : Pos} {rest body orelse : List Stmt} {D : Ends} {H0 : Hp} {G : Dat → Cs → Prop} {GN : List Dat → Cs → Prop}
theorem as_nil (h : ∀ st H, Sat X.K o st H ds → DK X.K o k H → Kp o0 H0 H → Frs o0 o H0 → D.nx st H) : AS X o0 o [] D ds k H0 := fun st H S hk e0 fr => wb pss_nil (h st H S hk e0 fr)
theorem wb_cons {s : Stmt} {st : L2.St} {H : Hp} (h : WS X s { D with nx := fun st' H' => WB X rest D st' H' } st H) : WB X (s :: rest) D st H := wb (pss_cons ps_w pss_w) h
theorem as_asg {i : Nat} {x : Str} (hN : X.N.Nodup) (h : EvC X o e ds k fun d k1 => AS X o0 o rest D (ds.set i (some d)) k1 H0) (hi : X.N[i]? = some x := by rfl) (hx : Loc X.env.scope x := by exact Or.inl rfl) (hs : swapsWith e (some (.Name x pos')) pos.line X.env = pure false := by rfl)
    (hf : X.fn x = true ∨ X.env.scope.names.lookup x = some .local := by exact .inl rfl) : AS X o0 o (.Assign [.Name x pos'] e pos :: rest) D ds k H0 := fun st H S hk e0 fr =>
  wb_cons (wss (ps_set hN hi hx pe_w hs hf) (h st H _ S hk fun d k1 v H1 hr e1 hk1 h1 => hr _ H1 ((S.kp e1 hk).set h1) hk1 (fr.kp e0 e1) fr))
/-- a new cell -/
theorem as_asgN {i : Nat} {x : Str} (hN : X.N.Nodup) (h : EvN X o e ds k fun as k1 => as.all noL = true ∧ ∀ p, AS X o0 (o ++ [p]) rest D (ds.set i (some (.cel k1.length))) (k1 ++ [as]) H0) (hi : X.N[i]? = some x := by rfl) (hx : Loc X.env.scope x := by exact Or.inl rfl) (hs : swapsWith e (some (.Name x pos')) pos.line X.env = pure false := by rfl)
    (hf : X.fn x = true ∨ X.env.scope.names.lookup x = some .local := by exact .inl rfl) : AS X o0 o (.Assign [.Name x pos'] e pos :: rest) D ds k H0 := fun st H S hk e0 fr =>
  wb_cons (wss (ps_set hN hi hx pe_w hs hf) (h st H _ S hk fun as k1 p xs H1 hr np e1 hk1 hp h1 => by
    have n1 := hk.ne np
    have hk2 := dk_plus hk1 n1 hp h1 hr.1
    have fit : ∀ (v : V) (d : Dat), DT X.K o H v d → DT X.K (o ++ [p]) H1 v d := fun v d q => by
      cases q with
      | v q => exact .v ((q.plus np).kp' e1 hk fun b hb => List.mem_append_left _ hb)
      | cel q => exact .cel (by rw [List.getElem?_append_left (List.getElem?_eq_some_iff.mp q).1]; exact q)
    have S1 : Sat X.K (o ++ [p]) st H1 ds := ⟨S.1, fun j d hd => let ⟨v, a, b⟩ := S.2 j d hd; ⟨v, a, fit v d b⟩⟩
    refine hr.2 p _ H1 (S1.set (.cel ?_)) hk2 (fr.kp e0 e1) ⟨?_, fun b hb nb => ?_⟩
    · rw [← hk1.len, List.getElem?_append_right (Nat.le_refl _), Nat.sub_self]
      rfl
    · obtain ⟨l, rfl⟩ := fr.pre
      exact ⟨l ++ [p], by rw [List.append_assoc]⟩
    · rcases List.mem_append.mp hb with hb | hb
      · exact fr.new b hb nb
      · rw [List.mem_singleton] at hb
        subst hb
        cases h0 : H0 b with
        | none => rfl
        | some u =>
          have := e0 b u nb h0
          rw [np] at this
          cases this))
theorem as_drop (h : EvC X o e ds k fun _ k1 => AS X o0 o rest D ds k1 H0) (hs : swapsWith e none pos.line X.env = pure false := by rfl) : AS X o0 o (.Expr e pos :: rest) D ds k H0 := fun st H S hk e0 fr =>
  wb_cons (wss (ps_expr pe_w hs) (h st H _ S hk fun d k1 v H1 hr e1 hk1 h1 => hr _ H1 (S.kp e1 hk) hk1 (fr.kp e0 e1) fr))
theorem as_ret (hq : RetC X.K o0 H0 D.rt G) (h : EvC X o e ds k fun d k1 => noC d = true ∧ G d (k1.take o0.length)) : AS X o0 o (.Return (some e) pos :: rest) D ds k H0 := fun st H S hk e0 fr =>
  wb_cons (wss (ps_ret pe_w) (h st H _ S hk fun d k1 v H1 hr e1 hk1 h1 => by
    obtain ⟨l, rfl⟩ := fr.pre
    exact hq d _ v H1 hr.2 (fr.kp e0 e1) (dk_take hk1) ((h1.unc hr.1).less fun b hb => List.mem_append_left _ hb)))
theorem as_retN (hq : RetN X.K o0 H0 D.rt GN) (h : EvN X o e ds k fun as k1 => GN as (k1.take o0.length)) : AS X o0 o (.Return (some e) pos :: rest) D ds k H0 := fun st H S hk e0 fr =>
  wb_cons (wss (ps_ret pe_w) (h st H _ S hk fun as k1 p xs H1 hr np e1 hk1 hp h1 => by
    have n1 := hk.ne np
    have h0 : H0 p = none := by
      cases h0 : H0 p with
      | none => rfl
      | some u =>
        obtain ⟨l, rfl⟩ := fr.pre
        have := e0 p u (fun z => n1 (List.mem_append_left _ z)) h0
        rw [np] at this
        cases this
    obtain ⟨l, rfl⟩ := fr.pre
    exact hq as _ p xs H1 hr h0 (fun z => n1 (List.mem_append_left _ z)) (fr.kp e0 e1) (dk_take hk1) hp (h1.less fun b hb => List.mem_append_left _ hb)))
/-- return x, x a cell of the def's own -/
theorem as_retC (hq : RetN X.K o0 H0 D.rt GN) (h : EvC X o e ds k fun d k1 => ∃ i s, d = .cel i ∧ o0.length ≤ i ∧ k1[i]? = some s ∧ GN s (k1.take o0.length)) : AS X o0 o (.Return (some e) pos :: rest) D ds k H0 := fun st H S hk e0 fr =>
  wb_cons (wss (ps_ret pe_w) (h st H _ S hk fun d k1 v H1 hr e1 hk1 h1 => by
    obtain ⟨i, s, rfl, hi, hs, hr⟩ := hr
    obtain ⟨a, rfl, ha⟩ := h1.uncel
    obtain ⟨xs, hx, hd⟩ := hk1.at_ i a s ha hs
    have nd := hk1.nd
    obtain ⟨l, rfl⟩ := fr.pre
    have na : a ∉ o0 := fun m => by
      rw [List.getElem?_append_right hi] at ha
      exact (List.nodup_append.mp nd).2.2 a m a (List.mem_of_getElem? ha) rfl
    exact hq s _ a xs H1 hr (fr.new a (List.mem_of_getElem? ha) na) na (fr.kp e0 e1) (dk_take hk1) hx (hd.less fun b hb => List.mem_append_left _ hb)))
theorem as_if (h : EvT X o c ds k fun b k1 => bc b (AS X o0 o body { D with nx := fun st' H' => WB X rest D st' H' } ds k1 H0) (AS X o0 o orelse { D with nx := fun st' H' => WB X rest D st' H' } ds k1 H0)) : AS X o0 o (.If c body orelse pos :: rest) D ds k H0 := fun st H S hk e0 fr =>
  wb_cons (wss (ps_if pt_w pss_w pss_w) (h st H _ S hk fun b k1 H1 hb e1 hk1 => by
    cases b with
    | true => exact hb st H1 (S.kp e1 hk) hk1 (fr.kp e0 e1) fr
    | false => exact hb st H1 (S.kp e1 hk) hk1 (fr.kp e0 e1) fr))
/-- the end of a branch: what follows the if -/
theorem as_go (h : AS X o0 o rest D ds k H0) : AS X o0 o [] { D with nx := fun st' H' => WB X rest D st' H' } ds k H0 := as_nil h
theorem as_ifn (h : EvT X o c ds k fun b k1 => bc b (AS X o0 o body { D with nx := fun st' H' => WB X rest D st' H' } ds k1 H0) (AS X o0 o rest D ds k1 H0)) : AS X o0 o (.If c body [] pos :: rest) D ds k H0 :=
  as_if (h.mono fun b k1 hb => by
    cases b with
    | true => exact hb
    | false => exact as_go hb)
/-- what is known of both branches' ends -/
theorem as_join {J : List (Option Dat) → Cs → Prop} (hJ : ∀ es q, J es q → AS X o0 o rest D es q H0) (h : AS X o0 o body { D with nx := fun st' H' => ∃ es q, J es q ∧ Sat X.K o st' H' es ∧ DK X.K o q H' ∧ Kp o0 H0 H' ∧ Frs o0 o H0 } ds k H0) : AS X o0 o body { D with nx := fun st' H' => WB X rest D st' H' } ds k H0 := fun st H S hk e0 fr => by
  have h1 := h st H S hk e0 fr
  intro pins s I
  refine thn (h1 pins s I) fun f s' hf => ?_
  cases f with
  | next =>
    obtain ⟨σ', H', I', es, q, j, S', hk', e', fr'⟩ := hf
    exact ⟨σ', H', I', hJ es q j σ' H' S' hk' e' fr'⟩
  | brk => exact hf
  | cont => exact hf
  | ret u => exact hf
theorem as_joined {J : List (Option Dat) → Cs → Prop} (j : J ds k) (hD : D.nx = fun st' H' => ∃ es q, J es q ∧ Sat X.K o st' H' es ∧ DK X.K o q H' ∧ Kp o0 H0 H' ∧ Frs o0 o H0) : AS X o0 o [] D ds k H0 := as_nil fun st H S hk e0 fr => by
  rw [hD]
  exact ⟨ds, k, j, S, hk, e0, fr⟩
/-- if .., both ways going on as J -/
theorem as_ifJ (J : List (Option Dat) → Cs → Prop) (h : EvT X o c ds k fun b k1 => bc b (AS X o0 o body { D with nx := fun st' H' => ∃ es q, J es q ∧ Sat X.K o st' H' es ∧ DK X.K o q H' ∧ Kp o0 H0 H' ∧ Frs o0 o H0 } ds k1 H0) (AS X o0 o orelse { D with nx := fun st' H' => ∃ es q, J es q ∧ Sat X.K o st' H' es ∧ DK X.K o q H' ∧ Kp o0 H0 H' ∧ Frs o0 o H0 } ds k1 H0)) (hJ : ∀ es q, J es q → AS X o0 o rest D es q H0) : AS X o0 o (.If c body orelse pos :: rest) D ds k H0 :=
  as_if (h.mono fun b k1 hb => by
    cases b with
    | true => exact as_join hJ hb
    | false => exact as_join hJ hb)
/-- a, b = t -/
theorem as_unp2 {i j : Nat} {x y : Str} {px py pt : Pos} {kt : Nat} (hN : X.N.Nodup) (hc : X.calm = true) (h : EvC X o e ds k fun d k1 => onT d fun as => ∃ d1 d2, as = [d1, d2] ∧ AS X o0 o rest D ((ds.set i (some d1)).set j (some d2)) k1 H0)
    (hi : X.N[i]? = some x := by rfl) (hj : X.N[j]? = some y := by rfl) (hx : Loc X.env.scope x := by exact Or.inl rfl) (hy : Loc X.env.scope y := by exact Or.inl rfl) (hfx : X.fn x = true ∨ X.env.scope.names.lookup x = some .local := by exact .inl rfl) (hfy : X.fn y = true ∨ X.env.scope.names.lookup y = some .local := by exact .inl rfl)
    (hs : swapsWithSole [.Tuple [.Name x px, .Name y py] kt pt] e pos.line X.env = pure false := by rfl) (hw : swappedStores [.Tuple [.Name x px, .Name y py] kt pt] e X.env = pure none := by rfl) :
    AS X o0 o (.Assign [.Tuple [.Name x px, .Name y py] kt pt] e pos :: rest) D ds k H0 := fun st H S hk e0 fr =>
  wb_cons (wss (ps_asg pe_w (pg_tup hc (pgs_cons (pg_name hN hi hx hfx) (pgs_cons (pg_name hN hj hy hfy) pgs_nil))) hs hw) (h st H _ S hk fun d k1 v H1 hr e1 hk1 h1 => by
    obtain ⟨as, rfl, hz⟩ := onT_ex hr
    obtain ⟨d1, d2, rfl, hy⟩ := hz
    obtain ⟨a, xs, rfl, hsq, hd⟩ := h1.untup
    match xs, hd with
    | [v1, v2], hd =>
      exact ⟨a, _, rfl, hsq, rfl, v1, _, rfl, v2, _, rfl, rfl, hy _ H1 (((S.kp e1 hk).set (.v (hd.2 0 _ _ rfl rfl))).set (.v (hd.2 1 _ _ rfl rfl))) hk1 (fr.kp e0 e1) fr⟩))
theorem as_unp3 {i j l : Nat} {x y z : Str} {px py pz pt : Pos} {kt : Nat} (hN : X.N.Nodup) (hc : X.calm = true) (h : EvC X o e ds k fun d k1 => onT d fun as => ∃ d1 d2 d3, as = [d1, d2, d3] ∧ AS X o0 o rest D (((ds.set i (some d1)).set j (some d2)).set l (some d3)) k1 H0)
    (hi : X.N[i]? = some x := by rfl) (hj : X.N[j]? = some y := by rfl) (hl : X.N[l]? = some z := by rfl) (hx : Loc X.env.scope x := by exact Or.inl rfl) (hy : Loc X.env.scope y := by exact Or.inl rfl) (hz : Loc X.env.scope z := by exact Or.inl rfl)
    (hfx : X.fn x = true ∨ X.env.scope.names.lookup x = some .local := by exact .inl rfl) (hfy : X.fn y = true ∨ X.env.scope.names.lookup y = some .local := by exact .inl rfl) (hfz : X.fn z = true ∨ X.env.scope.names.lookup z = some .local := by exact .inl rfl)
    (hs : swapsWithSole [.Tuple [.Name x px, .Name y py, .Name z pz] kt pt] e pos.line X.env = pure false := by rfl) (hw : swappedStores [.Tuple [.Name x px, .Name y py, .Name z pz] kt pt] e X.env = pure none := by rfl) :
    AS X o0 o (.Assign [.Tuple [.Name x px, .Name y py, .Name z pz] kt pt] e pos :: rest) D ds k H0 := fun st H S hk e0 fr =>
  wb_cons (wss (ps_asg pe_w (pg_tup hc (pgs_cons (pg_name hN hi hx hfx) (pgs_cons (pg_name hN hj hy hfy) (pgs_cons (pg_name hN hl hz hfz) pgs_nil)))) hs hw) (h st H _ S hk fun d k1 v H1 hr e1 hk1 h1 => by
    obtain ⟨as, rfl, hz⟩ := onT_ex hr
    obtain ⟨d1, d2, d3, rfl, hy⟩ := hz
    obtain ⟨a, xs, rfl, hsq, hd⟩ := h1.untup
    match xs, hd with
    | [v1, v2, v3], hd =>
      exact ⟨a, _, rfl, hsq, rfl, v1, _, rfl, v2, _, rfl, v3, _, rfl, rfl, hy _ H1 ((((S.kp e1 hk).set (.v (hd.2 0 _ _ rfl rfl))).set (.v (hd.2 1 _ _ rfl rfl))).set (.v (hd.2 2 _ _ rfl rfl))) hk1 (fr.kp e0 e1) fr⟩))
/-- a, b = e1, e2, both plain names -/
theorem as_par {i j : Nat} {x y : Str} {e1 e2 : Expr} {px py pt pt2 : Pos} {kt kt2 : Nat} (hN : X.N.Nodup) (hc : X.calm = true) (h : EvA X o [e1, e2] ds k fun as k1 => ∃ d1 d2, as = [d1, d2] ∧ AS X o0 o rest D ((ds.set i (some d1)).set j (some d2)) k1 H0)
    (hi : X.N[i]? = some x := by rfl) (hj : X.N[j]? = some y := by rfl) (hij : i ≠ j := by decide) (hx : X.env.scope.names.lookup x = some .local := by rfl) (hy : X.env.scope.names.lookup y = some .local := by rfl)
    (hw : swappedStores [.Tuple [.Name x px, .Name y py] kt pt] (.Tuple [e1, e2] kt2 pt2) X.env = pure (some [x, y]) := by rfl) (hs : swapsWithSole [.Tuple [.Name x px, .Name y py] kt pt] (.Tuple [e1, e2] kt2 pt2) pos.line X.env = pure false := by rfl) :
    AS X o0 o (.Assign [.Tuple [.Name x px, .Name y py] kt pt] (.Tuple [e1, e2] kt2 pt2) pos :: rest) D ds k H0 := fun st H S hk e0 fr =>
  wb_cons (wss (ps_par hc hN hi hj hij hx hy pa_w hw hs) (h st H _ S hk fun as k1 vs H1 hr e1 hk1 h1 => by
    obtain ⟨d1, d2, rfl, hr⟩ := hr
    match vs, h1 with
    | [v1, v2], h1 =>
      exact ⟨v1, v2, rfl, hr _ H1 (((S.kp e1 hk).set (h1.2 0 _ _ rfl rfl)).set (h1.2 1 _ _ rfl rfl)) hk1 (fr.kp e0 e1) fr⟩))
theorem as_par3 {i j l : Nat} {x y z : Str} {e1 e2 e3 : Expr} {px py pz pt pt2 : Pos} {kt kt2 : Nat} (hN : X.N.Nodup) (hc : X.calm = true) (h : EvA X o [e1, e2, e3] ds k fun as k1 => ∃ d1 d2 d3, as = [d1, d2, d3] ∧ AS X o0 o rest D (((ds.set i (some d1)).set j (some d2)).set l (some d3)) k1 H0)
    (hi : X.N[i]? = some x := by rfl) (hj : X.N[j]? = some y := by rfl) (hl : X.N[l]? = some z := by rfl) (hij : i ≠ j := by decide) (hil : i ≠ l := by decide) (hjl : j ≠ l := by decide) (hx : X.env.scope.names.lookup x = some .local := by rfl) (hy : X.env.scope.names.lookup y = some .local := by rfl) (hz : X.env.scope.names.lookup z = some .local := by rfl)
    (hw : swappedStores [.Tuple [.Name x px, .Name y py, .Name z pz] kt pt] (.Tuple [e1, e2, e3] kt2 pt2) X.env = pure (some [x, y, z]) := by rfl) (hs : swapsWithSole [.Tuple [.Name x px, .Name y py, .Name z pz] kt pt] (.Tuple [e1, e2, e3] kt2 pt2) pos.line X.env = pure false := by rfl) :
    AS X o0 o (.Assign [.Tuple [.Name x px, .Name y py, .Name z pz] kt pt] (.Tuple [e1, e2, e3] kt2 pt2) pos :: rest) D ds k H0 := fun st H S hk e0 fr =>
  wb_cons (wss (ps_par3 hc hN hi hj hl hij hil hjl hx hy hz pa_w hw hs) (h st H _ S hk fun as k1 vs H1 hr e1 hk1 h1 => by
    obtain ⟨d1, d2, d3, rfl, hr⟩ := hr
    match vs, h1 with
    | [v1, v2, v3], h1 =>
      exact ⟨v1, v2, v3, rfl, hr _ H1 ((((S.kp e1 hk).set (h1.2 0 _ _ rfl rfl)).set (h1.2 1 _ _ rfl rfl)).set (h1.2 2 _ _ rfl rfl)) hk1 (fr.kp e0 e1) fr⟩))
/-- cell[j] = e -/
theorem as_cell {eo ei : Expr} (h : EvC X o e ds k fun d k1 => EvC X o eo ds k1 fun dc k2 => EvC X o ei ds k2 fun di k3 => noL d = true ∧ ∃ (i j : Nat) (s : List Dat), dc = .cel i ∧ di = .int (j : Int) ∧ k3[i]? = some s ∧ j < s.length ∧ AS X o0 o rest D ds (k3.set i (s.set j d)) H0) {tpos : Pos}
    (hs : swapsWithSole [.Subscript eo ei tpos] e pos.line X.env = pure false := by rfl) (hw : swappedStores [.Subscript eo ei tpos] e X.env = pure none := by rfl)
    (hpg : PG X (.Subscript eo ei tpos) (gSub (WE X eo) (WE X ei) rSetL) := by exact pg_sub pe_w pe_w set_list) :
    AS X o0 o (.Assign [.Subscript eo ei tpos] e pos :: rest) D ds k H0 := fun st H S hk e0 fr =>
  wb_cons (wss (ps_asg pe_w hpg hs hw) (h st H _ S hk fun d k1 v H1 hr e1 hk1 h1 => hr st H1 _ (S.kp e1 hk) hk1 fun dc k2 u H2 hr e2 hk2 h2 => hr st H2 _ ((S.kp e1 hk).kp e2 hk1) hk2 fun di k3 w H3 hr e3 hk3 h3 => by
    obtain ⟨nd, i, j, s, rfl, rfl, hs', hj, hr⟩ := hr
    obtain ⟨a, rfl, ha⟩ := h2.uncel
    have hw' := h3.unint
    subst hw'
    obtain ⟨xs, hx, hd⟩ := hk3.at_ i a s ha hs'
    have hv := ((h1.kp e2 hk1).kp e3 hk2).unc (by cases d <;> first | rfl | cases nd)
    have S3 := ((S.kp e1 hk).kp e2 hk1).kp e3 hk2
    have hlx : j < xs.length := by rw [hd.1]; exact hj
    have hdv : DVs X.K o H3 (xs.set j v) (s.set j d) := by
      refine ⟨by rw [List.length_set, List.length_set]; exact hd.1, fun l y z ga gb => ?_⟩
      by_cases e : j = l
      · subst e
        rw [List.getElem?_set_self hlx] at ga
        rw [List.getElem?_set_self hj] at gb
        cases ga
        cases gb
        exact hv
      · rw [List.getElem?_set_ne e] at ga gb
        exact hd.2 l y z ga gb
    have nl : (s.set j d).all noL = true := List.all_eq_true.mpr fun z hz => by
      rcases List.mem_or_eq_of_mem_set hz with hz | rfl
      · exact List.all_eq_true.mp (hk3.nl s (List.mem_of_getElem? hs')) z hz
      · exact nd
    obtain ⟨hk4, e4⟩ := dk_set hk3 ha hdv nl
    exact ⟨a, xs, (j : Int), j, rfl, rfl, hx, ixN_nat hlx, hr st _ (S3.kp e4 hk3) hk4 (fr.kp (fr.kp (fr.kp (fr.kp e0 e1) e2) e3) e4) fr⟩))
end

/-! ### a def from its body -/
section
variable {P : Program} {w : World} {K : PySem.W.Frag} {mg : Str → Option Value} {base : Heap} {f : Addr} {fd : FuncData} {N ps : List Str} {k : Nat}
theorem sat_start {H : Hp} {o : Os} {vs : List V} {ds : List Dat} {m : Nat} (h : DTs K o H vs ds) (hm : N.length = ds.length + m) : Sat K o (L2.start N vs) H (ds.map some ++ List.replicate m none) := by
  refine ⟨?_, fun i d e => ?_⟩
  · unfold L2.start
    rw [List.length_append, List.length_map, List.length_replicate, List.length_append, List.length_map, List.length_replicate, h.1]
    omega
  · by_cases hi : i < ds.length
    · rw [List.getElem?_append_left (by rw [List.length_map]; exact hi), List.getElem?_map] at e
      cases q : ds[i]? with
      | none => rw [q] at e; cases e
      | some d' =>
        rw [q] at e
        have e' : d' = d := by simpa using e
        subst e'
        obtain ⟨v, h1, h2⟩ := h.at q
        refine ⟨v, ?_, h2⟩
        unfold L2.start
        rw [List.getElem?_append_left (by rw [List.length_map, h.1]; exact hi), List.getElem?_map, h1]
        rfl
    · rw [List.getElem?_append_right (by rw [List.length_map]; omega), List.getElem?_replicate] at e
      split at e <;> cases e
theorem dk_none {K : PySem.W.Frag} {H : Hp} : DK K [] [] H := DK.mk rfl (by simp) (fun s hs => absurd hs (by simp)) (fun i a as hi _ => absurd hi (by simp))
theorem frs_self {o : Os} {H : Hp} : Frs o o H := ⟨⟨[], by rw [List.append_nil]⟩, fun b hb nb => absurd hb nb⟩
theorem fn_P {x qual : Str} {st : Stmt} {F : FP} (Fn : Fun K x qual st f fd) (Sc : FnScope N ps (defScope st)) (len : ∀ ds G, F ds G → ds.length = ps.length)
    (hb : ∀ (cdv : Value) (A : Around) (outer : List Env) (s : Shared) (H : Hp) (Q : VK) (E : XK) (ds : List Dat) (G : Dat → Prop), Room k (A.deeper (envOfC qual (defScope st) s.heap.objs.size f cdv)) → F ds G → RetC K [] H Q (fun d _ => G d) →
      AS (cxOf CX0 P w K mg base N qual (defScope st) f cdv A outer s H E).nox [] [] (defBody st) { nx := fun _ H' => Q .non H', rt := Q } (ds.map some ++ List.replicate (N.length - ds.length) none) [] H) : FnOk P w K mg base CX0 (k + 1) f fd ps (spP K F) := by
  refine Fn.ok Sc (fun vs H Q E h => ?_) (fun cdv A outer s H vs Q E hr h => ⟨_, pss_w, ?_⟩)
  · obtain ⟨ds, G, h1, h2, _⟩ := h
    exact h1.1.trans (len ds G h2)
  · obtain ⟨ds, G, h1, h2, q⟩ := h
    have hN : ps.length ≤ N.length := by
      have e := congrArg List.length Sc.pre
      rw [List.length_take] at e
      omega
    refine hb cdv A outer s H Q E ds G hr h2 (fun d k' v H1 g e _ hv => q d g v H1 e hv) _ H (sat_start h1 ?_) dk_none (Kp.refl _ _) frs_self
    have := len ds G h2
    omega
theorem fn_N {x qual : Str} {st : Stmt} {F : FN} (Fn : Fun K x qual st f fd) (Sc : FnScope N ps (defScope st)) (len : ∀ ds G, F ds G → ds.length = ps.length)
    (hb : ∀ (cdv : Value) (A : Around) (outer : List Env) (s : Shared) (H : Hp) (Q : VK) (E : XK) (ds : List Dat) (G : List Dat → Prop), Room k (A.deeper (envOfC qual (defScope st) s.heap.objs.size f cdv)) → F ds G → RetN K [] H Q (fun d _ => G d) →
      AS (cxOf CX0 P w K mg base N qual (defScope st) f cdv A outer s H E).nox [] [] (defBody st) { nx := fun _ H' => Q .non H', rt := Q } (ds.map some ++ List.replicate (N.length - ds.length) none) [] H) : FnOk P w K mg base CX0 (k + 1) f fd ps (spN K F) := by
  refine Fn.ok Sc (fun vs H Q E h => ?_) (fun cdv A outer s H vs Q E hr h => ⟨_, pss_w, ?_⟩)
  · obtain ⟨ds, G, h1, h2, _⟩ := h
    exact h1.1.trans (len ds G h2)
  · obtain ⟨ds, G, h1, h2, q⟩ := h
    have hN : ps.length ≤ N.length := by
      have e := congrArg List.length Sc.pre
      rw [List.length_take] at e
      omega
    refine hb cdv A outer s H Q E ds G hr h2 (fun as k' p xs H1 g np _ e _ hp hv => q as g p xs H1 np e hp hv) _ H (sat_start h1 ?_) dk_none (Kp.refl _ _) frs_self
    have := len ds G h2
    omega
theorem fn_D {x qual : Str} {st : Stmt} {F : FD} (Fn : Fun K x qual st f fd) (Sc : FnScope N ps (defScope st)) (len : ∀ ds s G, F ds s G → ds.length + 1 = ps.length)
    (hb : ∀ (cdv : Value) (A : Around) (outer : List Env) (s : Shared) (H : Hp) (Q : VK) (E : XK) (a : Addr) (ds c : List Dat) (G : Dat → List Dat → Prop), Room k (A.deeper (envOfC qual (defScope st) s.heap.objs.size f cdv)) → F ds c G → RetC K [a] H Q (fun d k' => ∃ c', k' = [c'] ∧ G d c') →
      AS (cxOf CX0 P w K mg base N qual (defScope st) f cdv A outer s H E).nox [a] [a] (defBody st) { nx := fun _ H' => Q .non H', rt := Q } ((Dat.cel 0 :: ds).map some ++ List.replicate (N.length - (ds.length + 1)) none) [c] H) : FnOk P w K mg base CX0 (k + 1) f fd ps (spD K F) := by
  refine Fn.ok Sc (fun vs H Q E h => ?_) (fun cdv A outer s H vs Q E hr h => ⟨_, pss_w, ?_⟩)
  · obtain ⟨a, ws, ds, c, G, rfl, h0, h1, h2, _⟩ := h
    show ws.length + 1 = ps.length
    rw [h1.1]
    exact len ds c G h2
  · obtain ⟨a, ws, ds, c, G, rfl, h0, h1, h2, q⟩ := h
    have hN : ps.length ≤ N.length := by
      have e := congrArg List.length Sc.pre
      rw [List.length_take] at e
      omega
    refine hb cdv A outer s H Q E a ds c G hr h2 (fun d k' v H1 ⟨c', hc, g⟩ e hk hv => q d c' g v H1 e (hc ▸ hk) hv) _ H (sat_start (DTs.cons (.cel rfl) h1.dts) ?_) h0 (Kp.refl _ _) frs_self
    have := len ds c G h2
    show N.length = (ds.length + 1) + _
    omega
theorem fn_E {x qual : Str} {st : Stmt} {F : FE} (Fn : Fun K x qual st f fd) (Sc : FnScope N ps (defScope st)) (len : ∀ ds s G, F ds s G → ds.length + 1 = ps.length)
    (hb : ∀ (cdv : Value) (A : Around) (outer : List Env) (s : Shared) (H : Hp) (Q : VK) (E : XK) (a : Addr) (ds c : List Dat) (G : List Dat → List Dat → Prop), Room k (A.deeper (envOfC qual (defScope st) s.heap.objs.size f cdv)) → F ds c G → RetN K [a] H Q (fun d k' => ∃ c', k' = [c'] ∧ G d c') →
      AS (cxOf CX0 P w K mg base N qual (defScope st) f cdv A outer s H E).nox [a] [a] (defBody st) { nx := fun _ H' => Q .non H', rt := Q } ((Dat.cel 0 :: ds).map some ++ List.replicate (N.length - (ds.length + 1)) none) [c] H) : FnOk P w K mg base CX0 (k + 1) f fd ps (spE K F) := by
  refine Fn.ok Sc (fun vs H Q E h => ?_) (fun cdv A outer s H vs Q E hr h => ⟨_, pss_w, ?_⟩)
  · obtain ⟨a, ws, ds, c, G, rfl, h0, h1, h2, _⟩ := h
    show ws.length + 1 = ps.length
    rw [h1.1]
    exact len ds c G h2
  · obtain ⟨a, ws, ds, c, G, rfl, h0, h1, h2, q⟩ := h
    have hN : ps.length ≤ N.length := by
      have e := congrArg List.length Sc.pre
      rw [List.length_take] at e
      omega
    refine hb cdv A outer s H Q E a ds c G hr h2 (fun as k' p xs H1 ⟨c', hc, g⟩ np _ e hk hp hv => q as c' g p xs H1 np e (hc ▸ hk) hp hv) _ H (sat_start (DTs.cons (.cel rfl) h1.dts) ?_) h0 (Kp.refl _ _) frs_self
    have := len ds c G h2
    show N.length = (ds.length + 1) + _
    omega
end
end Wz

set_option Elab.async false
set_option linter.all false
set_option maxRecDepth 100000
set_option maxHeartbeats 4000000
namespace Wz
open PySem PySem.Spec PyProof.Rows L2 Evl
/-- a list that is no cell, or a tuple -/
@[reducible] def onL0 (d : Dat) (C : List Dat → Prop) : Prop := match d with | .lst as => C as | _ => False
theorem onL0_ex {d : Dat} {C : List Dat → Prop} (h : onL0 d C) : ∃ i, d = .lst i ∧ C i := by
  cases d <;> first | exact ⟨_, rfl, h⟩ | exact h.elim
/-- the end of a piece: J holds of what the names hold -/
def NX (X : Cx) (o0 o : Os) (H0 : Hp) (J : List (Option Dat) → Cs → Prop) : L2.St → Hp → Prop := fun st' H' => ∃ es q, J es q ∧ Sat X.K o st' H' es ∧ DK X.K o q H' ∧ Kp o0 H0 H' ∧ Frs o0 o H0
section
variable {X : Cx} {o0 o : Os} {ds : List (Option Dat)} {k k1 k2 : Cs} {e c a b elt : Expr} {es : List Expr} {d : Dat} {as : List Dat} {pos pos' p p1 p2 p3 : Pos} {rest body orelse : List Stmt} {D : Ends} {H0 : Hp} {R : Dat → Cs → Prop} {RN : List Dat → Cs → Prop} {x : Str}
theorem as_end {J : List (Option Dat) → Cs → Prop} (hD : D.nx = NX X o0 o H0 J) (j : J ds k) : AS X o0 o [] D ds k H0 := as_nil fun st H S hk e0 fr => by
  rw [hD]
  exact ⟨ds, k, j, S, hk, e0, fr⟩
theorem as_endL {J : List (Option Dat) → Cs → Prop} {l : Os} (hD : D.nx = NX X o0 o H0 J) (hf : ∃ l', o = o0 ++ l') (j : J (ds.map (lowC o.length)) (k.take o.length)) : AS X o0 (o ++ l) [] D ds k H0 := as_nil fun st H S hk e0 fr => by
  rw [hD]
  exact ⟨_, _, j, S.low, dk_take hk, e0, hf, fun b hb nb => fr.new b (List.mem_append_left _ hb) nb⟩
theorem as_cont {J : List (Option Dat) → Cs → Prop} (hD : D.ct = NX X o0 o H0 J) (j : J ds k) : AS X o0 o (.Continue pos :: rest) D ds k H0 := fun st H S hk e0 fr =>
  wb_cons (wss ps_continue (show D.ct st H by rw [hD]; exact ⟨ds, k, j, S, hk, e0, fr⟩))
theorem as_brk {J : List (Option Dat) → Cs → Prop} (hD : D.bk = NX X o0 o H0 J) (j : J ds k) : AS X o0 o (.Break pos :: rest) D ds k H0 := fun st H S hk e0 fr =>
  wb_cons (wss ps_break (show D.bk st H by rw [hD]; exact ⟨ds, k, j, S, hk, e0, fr⟩))
/-- while; B: at a break -/
theorem as_while {W : Nat → List (Option Dat) → Cs → Prop} {B : List (Option Dat) → Cs → Prop} (hp : PassesOwn (model X.prog X.w) X.A X.env X.xe) (m : Nat) (h0 : W m ds k)
    (hs : ∀ m es q, W m es q → EvT X o c es q fun b q1 => bc b (AS X o0 o body { D with nx := NX X o0 o H0 (fun es q => ∃ m', m' < m ∧ W m' es q), ct := NX X o0 o H0 (fun es q => ∃ m', m' < m ∧ W m' es q), bk := NX X o0 o H0 B } es q1 H0) (AS X o0 o rest D es q1 H0))
    (hB : ∀ es q, B es q → AS X o0 o rest D es q H0) : AS X o0 o (.While c body [] pos :: rest) D ds k H0 := fun st H S hk e0 fr =>
  wb_cons (wss (ps_while hp pt_w pss_w) (by
    refine ⟨fun m st H => ∃ es q, W m es q ∧ Sat X.K o st H es ∧ DK X.K o q H ∧ Kp o0 H0 H, ⟨m, ds, k, h0, S, hk, e0⟩, ?_⟩
    rintro m st H ⟨es, q, w, S, hk, e0⟩
    refine hs m es q w st H _ S hk fun b q1 H1 hb e1 hk1 => ?_
    cases b with
    | true =>
      rw [if_pos rfl]
      refine ⟨NX X o0 o H0 (fun es q => ∃ m', m' < m ∧ W m' es q), ?_, ?_⟩
      · rintro st' H' ⟨es', q', ⟨m', l, w'⟩, S', hk', e', _⟩
        exact ⟨m', l, es', q', w', S', hk', e'⟩
      · refine fun pins s I => thn (hb st H1 (S.kp e1 hk) hk1 (fr.kp e0 e1) fr pins s I) fun f s' hf => ?_
        cases f with
        | next => exact hf
        | cont => exact hf
        | ret u => exact hf
        | brk =>
          obtain ⟨σ', H', I', es', q', j, S', hk', e', fr'⟩ := hf
          exact ⟨σ', H', I', hB es' q' j σ' H' S' hk' e' fr'⟩
    | false =>
      rw [if_neg Bool.false_ne_true]
      exact hb st H1 (S.kp e1 hk) hk1 (fr.kp e0 e1) fr))
/-- what a def's end wants, seen from within a loop -/
theorem RetC.sub {K : PySem.W.Frag} {o0 o : Os} {H0 H1 : Hp} {rt : VK} {G : Dat → Cs → Prop} (h : RetC K o0 H0 rt G) (e : Kp o0 H0 H1) (fr : Frs o0 o H0) : RetC K o H1 rt (fun d k' => G d (k'.take o0.length)) := fun d k' v H2 g e2 hk hv => by
  have e' := fr.kp e e2
  obtain ⟨l, rfl⟩ := fr.pre
  exact h d _ v H2 g e' (dk_take hk) (hv.less fun b hb => List.mem_append_left _ hb)
theorem RetN.sub {K : PySem.W.Frag} {o0 o : Os} {H0 H1 : Hp} {rt : VK} {G : List Dat → Cs → Prop} (h : RetN K o0 H0 rt G) (e : Kp o0 H0 H1) (fr : Frs o0 o H0) : RetN K o H1 rt (fun d k' => G d (k'.take o0.length)) := fun as k' p xs H2 g np no e2 hk hp hv => by
  have e' := fr.kp e e2
  obtain ⟨l, rfl⟩ := fr.pre
  have no' : p ∉ o0 := fun z => no (List.mem_append_left _ z)
  have n0 : H0 p = none := by
    cases h0 : H0 p with
    | none => rfl
    | some u =>
      have := e p u no' h0
      rw [np] at this
      cases this
  exact h as _ p xs H2 g n0 no' e' (dk_take hk) hp (hv.less fun b hb => List.mem_append_left _ hb)
/-- the body of a for: a break's heap made right -/
theorem for_bk {H1 : Hp} {W : List (Option Dat) → Cs → Prop} {B : List (Option Dat) → Cs → Prop} {st : L2.St} {H : Hp} (e01 : Kp o0 H0 H1) (fr : Frs o0 o H0) (hB : ∀ es q, B es q → AS X o0 o rest D es q H0)
    (h : WB X body { D with nx := NX X o o H1 W, ct := NX X o o H1 W, bk := NX X o o H1 B } st H) : WB X body { D with nx := NX X o o H1 W, ct := NX X o o H1 W, bk := fun st' H' => WB X rest D st' H' } st H := fun pins s I => thn (h pins s I) fun f s' hf => by
  cases f with
  | next => exact hf
  | cont => exact hf
  | ret u => exact hf
  | brk =>
    obtain ⟨σ', H', I', es', q', j, S', hk', e', fr'⟩ := hf
    exact ⟨σ', H', I', hB es' q' j σ' H' S' hk' (fr.kp e01 e') fr⟩
/-- what a for over items wants: W by the turn, B at a break; H1: the heap at its start -/
structure ForW (X : Cx) (o0 o : Os) (H0 : Hp) (body rest : List Stmt) (D : Ends) (n : Nat) (it : Nat → Option Dat) (sl : Dat → List (Option Dat) → List (Option Dat)) (W : Nat → List (Option Dat) → Cs → Prop) (B : List (Option Dat) → Cs → Prop) : Prop where
  turn : ∀ H1, Kp o0 H0 H1 → Frs o0 o H0 → ∀ j d es q, j < n → it j = some d → W j es q → AS X o o body { D with nx := NX X o o H1 (W (j + 1)), ct := NX X o o H1 (W (j + 1)), bk := NX X o o H1 B } (sl d es) q H1
  done : ∀ es q, W n es q → AS X o0 o rest D es q H0
  brk : ∀ es q, B es q → AS X o0 o rest D es q H0
/-- for x in range(a) -/
theorem as_forR1 {i : Nat} {pos2 pos3 : Pos} (hN : X.N.Nodup) (hcalm : X.calm = true) (hp : PassesOwn (model X.prog X.w) X.A X.env X.xe) (hm : X.mg "range" = none)
    (h : EvA X o [a] ds k fun as k1 => ∃ (n : Int) (W : Nat → List (Option Dat) → Cs → Prop) (B : List (Option Dat) → Cs → Prop), as = [.int n] ∧ (-(2 ^ 62) ≤ n ∧ n < 2 ^ 62) ∧ W 0 ds k1 ∧ ForW X o0 o H0 body rest D n.toNat (fun j => some (.int (j : Int))) (fun d es => es.set i (some d)) W B)
    (hg : Gl X "range" := by rfl) (hi : X.N[i]? = some x := by rfl) (hx : Loc X.env.scope x := by exact Or.inl rfl) (hf : X.fn x = true ∨ X.env.scope.names.lookup x = some .local := by exact .inl rfl)
    (hst : starEach [a] X.env = [(false, eval a X.env)] := by rfl) (hset : ∀ y, foldedSetIterable (.Call (.Name "range" p) [a] [] pos2) X.env y = pure y := by intro _; rfl) :
    AS X o0 o (.For (.Name x pos3) (.Call (.Name "range" p) [a] [] pos2) body [] pos :: rest) D ds k H0 := fun st H S hk e0 fr =>
  wb_cons (wss (ps_for hp hcalm (pi_range1 hg hm pa_w hst) (pg_name hN hi hx hf) pss_w hset) (h st H _ S hk fun as k1 vs H1 hr e1 hk1 h1 => by
    obtain ⟨n, W, B, rfl, hn, h0, F⟩ := hr
    match vs, h1 with
    | [v], h1 =>
      have hv := (h1.2 0 _ _ rfl rfl).unint
      subst hv
      have e01 := fr.kp e0 e1
      refine ⟨n, rfl, hn.1, hn.2, for_range (lo := 0) (n := n.toNat) (fun j => NX X o o H1 (W j)) ⟨ds, k1, h0, S.kp e1 hk, hk1, Kp.refl _ _, frs_self⟩ ?_ ?_⟩
      · rintro j st' H' hj ⟨es, q, w, S', hk', e', fr'⟩
        have e00 : (0 : Int) + (j : Int) = (j : Int) := Int.zero_add _
        show WB X body _ (st'.set i (some (.int ((0 : Int) + (j : Int))))) H'
        rw [e00]
        exact for_bk e01 fr F.brk (F.turn H1 e01 fr j _ es q hj rfl w _ H' (S'.set (.v (.int _))) hk' e' fr')
      · rintro st' H' ⟨es, q, w, S', hk', e', fr'⟩
        exact F.done es q w st' H' S' hk' (fr.kp e01 e') fr))
/-- for x in range(a, b) -/
theorem as_forR2 {i : Nat} {pos2 pos3 : Pos} (hN : X.N.Nodup) (hcalm : X.calm = true) (hp : PassesOwn (model X.prog X.w) X.A X.env X.xe) (hm : X.mg "range" = none)
    (h : EvA X o [a, b] ds k fun as k1 => ∃ (n m : Int) (W : Nat → List (Option Dat) → Cs → Prop) (B : List (Option Dat) → Cs → Prop), as = [.int n, .int m] ∧ (-(2 ^ 62) ≤ n ∧ n < 2 ^ 62 ∧ -(2 ^ 62) ≤ m ∧ m < 2 ^ 62) ∧ W 0 ds k1 ∧ ForW X o0 o H0 body rest D (m - n).toNat (fun j => some (.int (n + (j : Int)))) (fun d es => es.set i (some d)) W B)
    (hg : Gl X "range" := by rfl) (hi : X.N[i]? = some x := by rfl) (hx : Loc X.env.scope x := by exact Or.inl rfl) (hf : X.fn x = true ∨ X.env.scope.names.lookup x = some .local := by exact .inl rfl)
    (hst : starEach [a, b] X.env = [(false, eval a X.env), (false, eval b X.env)] := by rfl) (hst2 : starEach [b] X.env = [(false, eval b X.env)] := by rfl) (hset : ∀ y, foldedSetIterable (.Call (.Name "range" p) [a, b] [] pos2) X.env y = pure y := by intro _; rfl) :
    AS X o0 o (.For (.Name x pos3) (.Call (.Name "range" p) [a, b] [] pos2) body [] pos :: rest) D ds k H0 := fun st H S hk e0 fr =>
  wb_cons (wss (ps_for hp hcalm (pi_range2 hg hm pa_w hst hst2) (pg_name hN hi hx hf) pss_w hset) (h st H _ S hk fun as k1 vs H1 hr e1 hk1 h1 => by
    obtain ⟨n, m, W, B, rfl, hn, h0, F⟩ := hr
    match vs, h1 with
    | [v, v'], h1 =>
      have hv := (h1.2 0 _ _ rfl rfl).unint
      have hv' := (h1.2 1 _ _ rfl rfl).unint
      subst hv hv'
      have e01 := fr.kp e0 e1
      refine ⟨n, m, rfl, hn, for_range (lo := n) (n := (m - n).toNat) (fun j => NX X o o H1 (W j)) ⟨ds, k1, h0, S.kp e1 hk, hk1, Kp.refl _ _, frs_self⟩ ?_ ?_⟩
      · rintro j st' H' hj ⟨es, q, w, S', hk', e', fr'⟩
        exact for_bk e01 fr F.brk (F.turn H1 e01 fr j _ es q hj rfl w _ H' (S'.set (.v (.int _))) hk' e' fr')
      · rintro st' H' ⟨es, q, w, S', hk', e', fr'⟩
        exact F.done es q w st' H' S' hk' (fr.kp e01 e') fr))
/-- for x in t, t a tuple -/
theorem as_forT {i : Nat} {pos3 : Pos} (hN : X.N.Nodup) (hcalm : X.calm = true) (hp : PassesOwn (model X.prog X.w) X.A X.env X.xe)
    (h : EvC X o e ds k fun d k1 => onT d fun as => ∃ (W : Nat → List (Option Dat) → Cs → Prop) (B : List (Option Dat) → Cs → Prop), W 0 ds k1 ∧ ForW X o0 o H0 body rest D as.length (fun j => as[j]?) (fun d es => es.set i (some d)) W B)
    (hi : X.N[i]? = some x := by rfl) (hx : Loc X.env.scope x := by exact Or.inl rfl) (hf : X.fn x = true ∨ X.env.scope.names.lookup x = some .local := by exact .inl rfl) (hset : ∀ y, foldedSetIterable e X.env y = pure y := by intro _; rfl) :
    AS X o0 o (.For (.Name x pos3) e body [] pos :: rest) D ds k H0 := fun st H S hk e0 fr =>
  wb_cons (wss (ps_for hp hcalm (pi_tup pe_w) (pg_name hN hi hx hf) pss_w hset) (h st H _ S hk fun d k1 v H1 hr e1 hk1 h1 => by
    obtain ⟨as, rfl, W, B, h0, F⟩ := onT_ex hr
    obtain ⟨t, xs, rfl, hs, hd⟩ := h1.untup
    have e01 := fr.kp e0 e1
    refine ⟨t, rfl, ⟨xs, hs⟩, for_tup (xs := xs) (fun j => NX X o o H1 (W j)) ⟨ds, k1, h0, S.kp e1 hk, hk1, Kp.refl _ _, frs_self⟩ (fun _ _ H' _ ⟨_, _, _, _, _, e', _⟩ => kp_t e' hk1 hs) ?_ ?_⟩
    · rintro j y st' H' hy ⟨es, q, w, S', hk', e', fr'⟩
      have hj : j < as.length := by
        rw [← hd.1]
        exact (List.getElem?_eq_some_iff.mp hy).1
      have hda : as[j]? = some as[j] := List.getElem?_eq_getElem hj
      have hyd := (hd.2 j y _ hy hda).kp e' hk1
      exact for_bk e01 fr F.brk (F.turn H1 e01 fr j _ es q hj hda w _ H' (S'.set (.v hyd)) hk' e' fr')
    · rintro st' H' ⟨es, q, w, S', hk', e', fr'⟩
      exact F.done es q (by rw [hd.1] at w; exact w) st' H' S' hk' (fr.kp e01 e') fr))
/-- for x in xs, a list that is no cell -/
theorem as_forL {i : Nat} {pos3 : Pos} (hN : X.N.Nodup) (hcalm : X.calm = true) (hp : PassesOwn (model X.prog X.w) X.A X.env X.xe)
    (h : EvC X o e ds k fun d k1 => onL0 d fun as => ∃ (W : Nat → List (Option Dat) → Cs → Prop) (B : List (Option Dat) → Cs → Prop), W 0 ds k1 ∧ ForW X o0 o H0 body rest D as.length (fun j => as[j]?) (fun d es => es.set i (some d)) W B)
    (hi : X.N[i]? = some x := by rfl) (hx : Loc X.env.scope x := by exact Or.inl rfl) (hf : X.fn x = true ∨ X.env.scope.names.lookup x = some .local := by exact .inl rfl) (hset : ∀ y, foldedSetIterable e X.env y = pure y := by intro _; rfl) :
    AS X o0 o (.For (.Name x pos3) e body [] pos :: rest) D ds k H0 := fun st H S hk e0 fr =>
  wb_cons (wss (ps_for hp hcalm (pi_list pe_w) (pg_name hN hi hx hf) pss_w hset) (h st H _ S hk fun d k1 v H1 hr e1 hk1 h1 => by
    obtain ⟨as, rfl, W, B, h0, F⟩ := onL0_ex hr
    obtain ⟨t, xs, rfl, hs, hd⟩ := h1.unlst
    have e01 := fr.kp e0 e1
    refine ⟨t, rfl, ⟨xs, hs.sq⟩, for_list (xs := xs) (fun j => NX X o o H1 (W j)) ⟨ds, k1, h0, S.kp e1 hk, hk1, Kp.refl _ _, frs_self⟩ (fun _ _ H' _ ⟨_, _, _, _, _, e', _⟩ => (hs.kp e' fun _ z => z).sq) ?_ ?_⟩
    · rintro j y st' H' hy ⟨es, q, w, S', hk', e', fr'⟩
      have hj : j < as.length := by
        rw [← hd.1]
        exact (List.getElem?_eq_some_iff.mp hy).1
      have hda : as[j]? = some as[j] := List.getElem?_eq_getElem hj
      have hyd := (hd.2 j y _ hy hda).kp e' hk1
      exact for_bk e01 fr F.brk (F.turn H1 e01 fr j _ es q hj hda w _ H' (S'.set (.v hyd)) hk' e' fr')
    · rintro st' H' ⟨es, q, w, S', hk', e', fr'⟩
      exact F.done es q (by rw [hd.1] at w; exact w) st' H' S' hk' (fr.kp e01 e') fr))
end
end Wz

set_option Elab.async false
set_option linter.all false
set_option maxRecDepth 100000
set_option maxHeartbeats 4000000
namespace Wz
open PySem PySem.Spec PyProof.Rows L2 Evl
section
variable {X : Cx} {o0 o : Os} {ds : List (Option Dat)} {k k1 k2 : Cs} {e c a b elt e1 e2 e3 : Expr} {es : List Expr} {d : Dat} {as : List Dat} {pos pos' p p1 p2 p3 : Pos} {rest body orelse : List Stmt} {D : Ends} {H0 : Hp} {R : Dat → Cs → Prop} {RT : Bool → Cs → Prop} {RN : List Dat → Cs → Prop} {x : Str}
/-! built-ins by value -/
theorem c_bif {id : String} {r : List V → Hp → VK → Prop} (hc : CallR X (.builtin id) r) (hm : X.mg x = none) (hv : bootBuiltins x = some (.builtin id)) (h : EvA X o (e :: es) ds k fun as k1 => ∀ vs H Q, DTs X.K o H vs as → DK X.K o k1 H → (∀ d v H', R d k1 → Ex H H' → DT X.K o H' v d → Q v H') → r vs H Q)
    (hg : Gl X x := by rfl) (hn : x ≠ "__name__" := by decide) (hdb : (x == ("__debug__" : Str)) = false := by decide) (he : starEach (e :: es) X.env = (false, eval e X.env) :: starEach es X.env := by rfl) (hpl : (backTo pos (starEach es X.env)).any (·.1) = false := by rfl) :
    EvC X o (.Call (.Name x p) (e :: es) [] pos) ds k R := fun st H Q St hk q =>
  we (pe_callB hc hg hm hv pa_w hn hdb he hpl) (h st H _ St hk fun as k1 vs H1 hx e1 hk1 h1 => hx vs H1 Q h1 hk1 fun d v H2 hr ex h2 => q d k1 v H2 hr (e1.trans (Kp.of_ex ex)) (hk1.ex ex) h2)
theorem c_bty {T : String} {r : List V → Hp → VK → Prop} (hc : CallR X (.type T) r) (hm : X.mg x = none) (hv : bootBuiltins x = some (.type T)) (h : EvA X o (e :: es) ds k fun as k1 => ∀ vs H Q, DTs X.K o H vs as → DK X.K o k1 H → (∀ d v H', R d k1 → Ex H H' → DT X.K o H' v d → Q v H') → r vs H Q)
    (hg : Gl X x := by rfl) (hn : x ≠ "__name__" := by decide) (hdb : (x == ("__debug__" : Str)) = false := by decide) (he : starEach (e :: es) X.env = (false, eval e X.env) :: starEach es X.env := by rfl) (hpl : (backTo pos (starEach es X.env)).any (·.1) = false := by rfl) :
    EvC X o (.Call (.Name x p) (e :: es) [] pos) ds k R := fun st H Q St hk q =>
  we (pe_callTy hc hg hm hv pa_w hn hdb he hpl) (h st H _ St hk fun as k1 vs H1 hx e1 hk1 h1 => hx vs H1 Q h1 hk1 fun d v H2 hr ex h2 => q d k1 v H2 hr (e1.trans (Kp.of_ex ex)) (hk1.ex ex) h2)
theorem dts1 {K : PySem.W.Frag} {H : Hp} {vs : List V} {d1 : Dat} (h : DTs K o H vs [d1]) : ∃ v1, vs = [v1] ∧ DT K o H v1 d1 := by
  match vs, h with
  | [v1], h => exact ⟨v1, rfl, h.2 0 v1 d1 rfl rfl⟩
theorem dts2 {K : PySem.W.Frag} {H : Hp} {vs : List V} {d1 d2 : Dat} (h : DTs K o H vs [d1, d2]) : ∃ v1 v2, vs = [v1, v2] ∧ DT K o H v1 d1 ∧ DT K o H v2 d2 := by
  match vs, h with
  | [v1, v2], h => exact ⟨v1, v2, rfl, h.2 0 v1 d1 rfl rfl, h.2 1 v2 d2 rfl rfl⟩
theorem dts3 {K : PySem.W.Frag} {H : Hp} {vs : List V} {d1 d2 d3 : Dat} (h : DTs K o H vs [d1, d2, d3]) : ∃ v1 v2 v3, vs = [v1, v2, v3] ∧ DT K o H v1 d1 ∧ DT K o H v2 d2 ∧ DT K o H v3 d3 := by
  match vs, h with
  | [v1, v2, v3], h => exact ⟨v1, v2, v3, rfl, h.2 0 v1 d1 rfl rfl, h.2 1 v2 d2 rfl rfl, h.2 2 v3 d3 rfl rfl⟩
@[reducible] def on1 (as : List Dat) (C : Dat → Prop) : Prop := match as with | [d] => C d | _ => False
@[reducible] def on2 (as : List Dat) (C : Dat → Dat → Prop) : Prop := match as with | [d, e] => C d e | _ => False
theorem on1_ex {as : List Dat} {C : Dat → Prop} (h : on1 as C) : ∃ d, as = [d] ∧ C d := by
  match as, h with
  | [d], h => exact ⟨d, rfl, h⟩
theorem on2_ex {as : List Dat} {C : Dat → Dat → Prop} (h : on2 as C) : ∃ d e, as = [d, e] ∧ C d e := by
  match as, h with
  | [d, e], h => exact ⟨d, e, rfl, h⟩
theorem c_abs (hm : X.mg "abs" = none) (h : EvA X o [e] ds k fun as k1 => on1 as fun d => onI d fun i => R (.int (if i < 0 then -i else i)) k1) (hg : Gl X "abs" := by rfl) (he : starEach [e] X.env = (false, eval e X.env) :: starEach [] X.env := by rfl) : EvC X o (.Call (.Name "abs" p) [e] [] pos) ds k R :=
  c_bif call_abs hm (by decide +kernel) (h.mono fun as k1 ha vs H Q h1 _ q => by
    obtain ⟨d, rfl, ha⟩ := on1_ex ha
    obtain ⟨i, rfl, ha⟩ := onI_ex ha
    obtain ⟨v, rfl, g1⟩ := dts1 h1
    have q1 := g1.unint
    subst q1
    exact ⟨i, rfl, q _ _ H ha (Ex.refl _) (.v (.int _))⟩) hg (by decide) (by decide) he
theorem c_max (hc : X.calm = true) (hm : X.mg "max" = none) (h : EvA X o [e, e2] ds k fun as k1 => on2 as fun d1 d2 => onI d1 fun i => onI d2 fun j => R (.int (if j > i then j else i)) k1) (hg : Gl X "max" := by rfl) (he : starEach [e, e2] X.env = (false, eval e X.env) :: starEach [e2] X.env := by rfl) (hpl : (backTo pos (starEach [e2] X.env)).any (·.1) = false := by rfl) : EvC X o (.Call (.Name "max" p) [e, e2] [] pos) ds k R :=
  c_bif (call_max2 hc) hm (by decide +kernel) (h.mono fun as k1 ha vs H Q h1 _ q => by
    obtain ⟨d1, d2, rfl, ha⟩ := on2_ex ha
    obtain ⟨i, j, rfl, rfl, ha⟩ := onII_ex ha
    obtain ⟨v, w, rfl, g1, g2⟩ := dts2 h1
    have q1 := g1.unint
    have q2 := g2.unint
    subst q1 q2
    exact ⟨i, j, rfl, q _ _ H ha (Ex.refl _) (.v (.int _))⟩) hg (by decide) (by decide) he hpl
theorem c_min (hc : X.calm = true) (hm : X.mg "min" = none) (h : EvA X o [e, e2] ds k fun as k1 => on2 as fun d1 d2 => onI d1 fun i => onI d2 fun j => R (.int (if j < i then j else i)) k1) (hg : Gl X "min" := by rfl) (he : starEach [e, e2] X.env = (false, eval e X.env) :: starEach [e2] X.env := by rfl) (hpl : (backTo pos (starEach [e2] X.env)).any (·.1) = false := by rfl) : EvC X o (.Call (.Name "min" p) [e, e2] [] pos) ds k R :=
  c_bif (call_min2 hc) hm (by decide +kernel) (h.mono fun as k1 ha vs H Q h1 _ q => by
    obtain ⟨d1, d2, rfl, ha⟩ := on2_ex ha
    obtain ⟨i, j, rfl, rfl, ha⟩ := onII_ex ha
    obtain ⟨v, w, rfl, g1, g2⟩ := dts2 h1
    have q1 := g1.unint
    have q2 := g2.unint
    subst q1 q2
    exact ⟨i, j, rfl, q _ _ H ha (Ex.refl _) (.v (.int _))⟩) hg (by decide) (by decide) he hpl
theorem c_lenT (hm : X.mg "len" = none) (h : EvA X o [e] ds k fun as k1 => on1 as fun d => onT d fun xs => R (.int (xs.length : Int)) k1) (hg : Gl X "len" := by rfl) (he : starEach [e] X.env = (false, eval e X.env) :: starEach [] X.env := by rfl) : EvC X o (.Call (.Name "len" p) [e] [] pos) ds k R :=
  c_bif call_len_seq hm PySem.boot_len (h.mono fun as k1 ha vs H Q h1 _ q => by
    obtain ⟨d, rfl, ha⟩ := on1_ex ha
    obtain ⟨xs, rfl, ha⟩ := onT_ex ha
    obtain ⟨v, rfl, g1⟩ := dts1 h1
    obtain ⟨a, ys, rfl, hs, hl⟩ := g1.untup
    exact ⟨a, ys, rfl, .inr hs, by rw [hl.1]; exact q _ _ H ha (Ex.refl _) (.v (.int _))⟩) hg (by decide) (by decide) he
theorem c_lenL (hm : X.mg "len" = none) (h : EvA X o [e] ds k fun as k1 => on1 as fun d => onL k1 d fun xs => R (.int (xs.length : Int)) k1) (hg : Gl X "len" := by rfl) (he : starEach [e] X.env = (false, eval e X.env) :: starEach [] X.env := by rfl) : EvC X o (.Call (.Name "len" p) [e] [] pos) ds k R :=
  c_bif call_len_seq hm PySem.boot_len (h.mono fun as k1 ha vs H Q h1 hk q => by
    obtain ⟨d, rfl, ha⟩ := on1_ex ha
    obtain ⟨v, rfl, g1⟩ := dts1 h1
    obtain ⟨p, ys, xs, rfl, hs, hl, ha⟩ := onL_ex hk ha g1
    exact ⟨p, ys, rfl, .inl hs, by rw [hl.1]; exact q _ _ H ha (Ex.refl _) (.v (.int _))⟩) hg (by decide) (by decide) he
theorem c_intI (hm : X.mg "int" = none) (h : EvA X o [e] ds k fun as k1 => on1 as fun d => onI d fun i => R (.int i) k1) (hg : Gl X "int" := by rfl) (he : starEach [e] X.env = (false, eval e X.env) :: starEach [] X.env := by rfl) : EvC X o (.Call (.Name "int" p) [e] [] pos) ds k R :=
  c_bty call_int1 hm (by decide +kernel) (h.mono fun as k1 ha vs H Q h1 _ q => by
    obtain ⟨d, rfl, ha⟩ := on1_ex ha
    obtain ⟨i, rfl, ha⟩ := onI_ex ha
    obtain ⟨v, rfl, g1⟩ := dts1 h1
    have q1 := g1.unint
    subst q1
    exact Or.inl ⟨i, rfl, q _ _ H ha (Ex.refl _) (.v (.int _))⟩) hg (by decide) (by decide) he
theorem c_intB (hm : X.mg "int" = none) (h : EvA X o [e] ds k fun as k1 => on1 as fun d => onB d fun i => R (.int (if i then 1 else 0)) k1) (hg : Gl X "int" := by rfl) (he : starEach [e] X.env = (false, eval e X.env) :: starEach [] X.env := by rfl) : EvC X o (.Call (.Name "int" p) [e] [] pos) ds k R :=
  c_bty call_int1 hm (by decide +kernel) (h.mono fun as k1 ha vs H Q h1 _ q => by
    obtain ⟨d, rfl, ha⟩ := on1_ex ha
    obtain ⟨i, rfl, ha⟩ := onB_ex ha
    obtain ⟨v, rfl, g1⟩ := dts1 h1
    have q1 := g1.unbl
    subst q1
    exact Or.inr ⟨i, rfl, q _ _ H ha (Ex.refl _) (.v (.int _))⟩) hg (by decide) (by decide) he
/-- int of a comparison of ints -/
theorem c_ty {T : String} (hm : X.mg x = none) (hv : bootBuiltins x = some (.type T)) (hR : R (.raw (.ty T)) k) (hg : Gl X x := by rfl) (hn : x ≠ "__name__" := by decide) (hd : (x == ("__debug__" : Str)) = false := by decide) : EvC X o (.Name x pos) ds k R := fun st H Q St hk q =>
  we (pe_bltn hg hm hv (v := .ty T) rfl hn hd) (q _ _ _ H hR (Kp.refl _ _) hk (.v (.raw _)))
/-- a module's tuple -/
structure KT (K : PySem.W.Frag) (mg : Str → Option Value) (x : Str) (as : List Dat) : Prop where
  ex : ∃ (C : Addr) (xs : List V), mg x = some (.ref C) ∧ (∀ H, SqT K H C xs) ∧ ∀ o H, DVs K o H xs as
theorem c_kt (t : KT X.K X.mg x as) (hR : R (.tup as) k) (hg : Gl X x := by rfl) (hd : (x == ("__debug__" : Str)) = false := by decide) : EvC X o (.Name x pos) ds k R := fun st H Q St hk q => by
  obtain ⟨C, xs, hm, h1, h2⟩ := t.ex
  exact we (pe_glob hg hm (v := .ref C) rfl hd) (q _ _ _ H hR (Kp.refl _ _) hk (.v (.tup' (h1 H) (h2 o H))))
/-! isinstance -/
@[reducible] def tyN (k : Cs) : Dat → Option String
  | .non => some "NoneType"
  | .bl _ => some "bool"
  | .int _ => some "int"
  | .str _ => some "str"
  | .tup _ => some "tuple"
  | .lst _ => some "list"
  | .cel _ => some "list"
  | .raw _ => none
theorem ty_x {K : PySem.W.Frag} {H : Hp} {v : V} {T : String} (hk : DK K o k H) (t : tyN k d = some T) (h : DT K o H v d) : TyX K H v (.type T) := by
  cases h with
  | cel hi =>
    cases t
    have hm := List.mem_of_getElem? hi
    obtain ⟨xs, hx⟩ := hk.cell hm
    exact .base (.lst hx)
  | v h =>
    cases h with
    | non => cases t; exact .base .non
    | bl b => cases t; exact .base (.bl b)
    | int i => cases t; exact .base (.int i)
    | str z => cases t; exact .base (.str z)
    | tup hs _ _ =>
      cases t
      rcases hs with (hs | ⟨ob, hs⟩) | ⟨ob, its, n, h1, h2, _⟩
      · exact .base (.tup hs)
      · exact .fTuple hs
      · exact .kTuple h1 h2
    | lst hs _ _ =>
      cases t
      rcases hs with ⟨hs | ⟨ob, hs⟩, _⟩ | ⟨ob, its, n, h1, h2, _⟩
      · exact .base (.lst hs)
      · exact .base (.frz hs)
      · exact .kList h1 h2
    | raw v => cases t
theorem kit2 {K : PySem.W.Frag} {T U1 U2 : String} {b1 b2 : Bool} (h1 : kitB T U1 = some b1) (h2 : kitB T U2 = some b2) : PySem.W.kitAny K (.type T) [.type U1, .type U2] = some (b1 || b2) := by
  refine kitAny_cons (kit_ty h1) (fun e => ?_) (fun e => by rw [e]; rfl)
  rw [e, Bool.false_or]
  refine kitAny_cons (kit_ty h2) (fun e => ?_) (fun e => e)
  rw [kitAny_nil, e]
theorem kit3 {K : PySem.W.Frag} {T U1 U2 U3 : String} {b1 b2 b3 : Bool} (h1 : kitB T U1 = some b1) (h2 : kitB T U2 = some b2) (h3 : kitB T U3 = some b3) : PySem.W.kitAny K (.type T) [.type U1, .type U2, .type U3] = some (b1 || (b2 || b3)) := by
  refine kitAny_cons (kit_ty h1) (fun e => ?_) (fun e => by rw [e]; rfl)
  rw [e, Bool.false_or]
  exact kit2 h2 h3
/-- isinstance(e, T) -/
@[reducible] def isT (U : String) : Dat → Bool
  | .bl _ => U == "bool" || U == "int"
  | .int _ => U == "int"
  | .str _ => U == "str"
  | .tup _ => U == "tuple"
  | .lst _ => U == "list"
  | .cel _ => U == "list"
  | _ => false
theorem c_isi {U : String} (hm : X.mg "isinstance" = none) (h : EvA X o [e1, e2] ds k fun as k1 => on2 as fun d1 d2 => d2 = .raw (.ty U) ∧ ∃ T b, tyN k1 d1 = some T ∧ kitB T U = some b ∧ R (.bl b) k1) (hg : Gl X "isinstance" := by rfl) (he : starEach [e1, e2] X.env = (false, eval e1 X.env) :: starEach [e2] X.env := by rfl)
    (hpl : (backTo pos (starEach [e2] X.env)).any (·.1) = false := by rfl) : EvC X o (.Call (.Name "isinstance" p) [e1, e2] [] pos) ds k R :=
  c_bif call_isi hm (by decide +kernel) (h.mono fun as k1 ha vs H Q h1 hk q => by
    obtain ⟨d1, d2, rfl, rfl, T, b, hT, hb, ha⟩ := on2_ex ha
    obtain ⟨v, w, rfl, g1, g2⟩ := dts2 h1
    have q2 := g2.unraw
    subst q2
    exact ⟨v, .ty U, _, _, b, rfl, .ty U, ty_x hk hT g1, kit_ty hb, q _ _ H ha (Ex.refl _) (.v (.bl _))⟩) hg (by decide) (by decide) he hpl
/-- isinstance(e, (T1, T2)) -/
theorem c_isi2 {U1 U2 : String} {n1 n2 : Str} {p1 p2 p3 : Pos} {cx : Nat} (hm : X.mg "isinstance" = none) (hm1 : X.mg n1 = none) (hv1 : bootBuiltins n1 = some (.type U1)) (hm2 : X.mg n2 = none) (hv2 : bootBuiltins n2 = some (.type U2))
    (h : EvC X o e1 ds k fun d k1 => ∃ T b1 b2, tyN k1 d = some T ∧ kitB T U1 = some b1 ∧ kitB T U2 = some b2 ∧ R (.bl (b1 || b2)) k1) (hg : Gl X "isinstance" := by rfl) (hg1 : Gl X n1 := by rfl) (hg2 : Gl X n2 := by rfl) (hn1 : n1 ≠ "__name__" := by decide) (hn2 : n2 ≠ "__name__" := by decide) (hd1 : (n1 == ("__debug__" : Str)) = false := by decide) (hd2 : (n2 == ("__debug__" : Str)) = false := by decide)
    (he : starEach [e1, .Tuple [.Name n1 p1, .Name n2 p2] cx p3] X.env = (false, eval e1 X.env) :: starEach [.Tuple [.Name n1 p1, .Name n2 p2] cx p3] X.env := by rfl)
    (hpl : (backTo pos (starEach [.Tuple [.Name n1 p1, .Name n2 p2] cx p3] X.env)).any (·.1) = false := by rfl) : EvC X o (.Call (.Name "isinstance" p) [e1, .Tuple [.Name n1 p1, .Name n2 p2] cx p3] [] pos) ds k R := fun st H Q St hk q =>
  we (pe_callB call_isiT hg hm (by decide +kernel) (pa_cons pe_w (pa_cons (pe_tup (pa_cons (pe_bltn hg1 hm1 hv1 (v := .ty U1) rfl hn1 hd1) (pa_cons (pe_bltn hg2 hm2 hv2 (v := .ty U2) rfl hn2 hd2) pa_nil))) pa_nil) he) (by decide) (by decide) he hpl) (h st H _ St hk fun d k1 v H1 hr ex hk1 h1 => by
    refine ⟨by show 2 ≤ sizeLine; decide, fun tp np => ?_⟩
    obtain ⟨T, b1, b2, hT, hb1, hb2, hr⟩ := hr
    have e2 := Kp.of_ex (o := o) (Ex.new (o := .tup [.ty U1, .ty U2]) np)
    have hk2 := hk1.ex (Ex.new (o := .tup [.ty U1, .ty U2]) np)
    exact ⟨v, tp, [.ty U1, .ty U2], _, [.type U1, .type U2], _, rfl, upd_same, .cons (.ty U1) (.cons (.ty U2) .nil), ty_x hk2 hT (h1.kp e2 hk1), kit2 hb1 hb2, q _ k1 _ _ hr (ex.trans e2) hk2 (.v (.bl _))⟩)
/-! slices of tuples and lists, t + u, xs + ys -/
theorem cutV_map {α β : Type} (xs : List α) (lo hi : Option Int) : True := trivial
def cutD (xs : List Dat) (lo hi : Option Int) : List Dat := (xs.drop (HT.sIx xs.length 0 lo)).take (HT.sIx xs.length xs.length hi - HT.sIx xs.length 0 lo)
theorem DVs.cut {K : PySem.W.Frag} {H : Hp} {vs : List V} {ds : List Dat} (h : DVs K o H vs ds) (lo hi : Option Int) : DVs K o H (cutV vs lo hi) (cutD ds lo hi) := by
  unfold cutV cutD
  rw [h.1]
  refine ⟨by rw [List.length_take, List.length_drop, List.length_take, List.length_drop, h.1], fun i v d a b => ?_⟩
  rw [List.getElem?_take] at a b
  split at a
  · rename_i hi'
    rw [if_pos hi'] at b
    rw [List.getElem?_drop] at a b
    exact h.2 _ v d a b
  · cases a
def WO (X : Cx) (oe : Option Expr) (st : L2.St) (H : Hp) (Q : Option Int → Hp → Prop) : Prop := ∀ (pins : List (Addr × Obj)) (s : Shared), Inv X pins st H s →
    wpAny (model X.prog X.w) X.A (evalPart oe X.env) (fun u s' => ∃ o H', Inv X pins st H' s' ∧ IsPart u o ∧ Q o H') X.xe s
theorem po_w {oe : Option Expr} : PO X oe (WO X oe) := ⟨fun pins s _ _ _ I h => h pins s I⟩
theorem wo {oe : Option Expr} {t : TO} (h : PO X oe t) {st : L2.St} {H : Hp} {Q : Option Int → Hp → Prop} (q : t st H Q) : WO X oe st H Q := fun pins s I => h.run pins s st H Q I q
/-- a part of a slice -/
def EvO (X : Cx) (o : Os) (oe : Option Expr) (ds : List (Option Dat)) (k : Cs) (R : Option Int → Cs → Prop) : Prop :=
  ∀ st H Q, Sat X.K o st H ds → DK X.K o k H → (∀ l k' H', R l k' → Kp o H H' → DK X.K o k' H' → Q l H') → WO X oe st H Q
theorem o_none {RO : Option Int → Cs → Prop} (h : RO none k) : EvO X o none ds k RO := fun st H Q S hk q => wo po_none (q none k H h (Kp.refl _ _) hk)
theorem o_some {RO : Option Int → Cs → Prop} (h : EvC X o e ds k fun d k1 => onI d fun i => RO (some i) k1) : EvO X o (some e) ds k RO := fun st H Q S hk q => wo (po_some pe_w) (h st H _ S hk fun d k1 v H1 hr e1 hk1 h1 => by
  obtain ⟨i, rfl, hr⟩ := onI_ex hr
  exact ⟨i, h1.unint, q _ k1 H1 hr e1 hk1⟩)
theorem cutD_all {ds : List Dat} {lo hi : Option Int} (h : HT.sIx ds.length 0 lo = 0 ∧ HT.sIx ds.length ds.length hi = ds.length) : cutD ds lo hi = ds := by
  unfold cutD
  rw [h.1, h.2, List.drop_zero, Nat.sub_zero, List.take_length]
theorem c_cutT {lo hi : Option Expr} (h : EvC X o e ds k fun d k1 => EvO X o lo ds k1 fun l k2 => EvO X o hi ds k2 fun u k3 => onT d fun as => R (.tup (cutD as l u)) k3) : EvC X o (.Subscript e (.Slice lo hi none p2) pos) ds k R := fun st H Q S hk q =>
  we (pe_slice sl_tupA pe_w po_w po_w) (h st H _ S hk fun d k1 v H1 hr e1 hk1 h1 => hr st H1 _ (S.kp e1 hk) hk1 fun l k2 H2 hr e2 hk2 => hr st H2 _ ((S.kp e1 hk).kp e2 hk1) hk2 fun u k3 H3 hr e3 hk3 => by
    obtain ⟨as, rfl, hr'⟩ := onT_ex hr
    obtain ⟨a, xs, rfl, hs, hd⟩ := ((h1.kp e2 hk1).kp e3 hk2).untup
    refine ⟨a, xs, rfl, hs, fun hw => ?_, fun hw p np => ?_⟩
    · rw [hd.1] at hw
      rw [cutD_all hw] at hr'
      exact q _ k3 _ H3 hr' ((e1.trans e2).trans e3) hk3 (.v (.tup' hs hd))
    · have e4 := Kp.of_ex (o := o) (Ex.new (o := .tup (cutV xs l u)) np)
      exact q _ k3 _ _ hr' (((e1.trans e2).trans e3).trans e4) (hk3.ex (Ex.new np)) (.v (.tup' (.inl (.inl upd_same)) ((hd.cut l u).kp e4 hk3))))
theorem n_cutL {lo hi : Option Expr} (h : EvC X o e ds k fun d k1 => EvO X o lo ds k1 fun l k2 => EvO X o hi ds k2 fun u k3 => onL k3 d fun as => RN (cutD as l u) k3) : EvN X o (.Subscript e (.Slice lo hi none p2) pos) ds k RN := fun st H Q S hk q =>
  we (pe_slice sl_list pe_w po_w po_w) (h st H _ S hk fun d k1 v H1 hr e1 hk1 h1 => hr st H1 _ (S.kp e1 hk) hk1 fun l k2 H2 hr e2 hk2 => hr st H2 _ ((S.kp e1 hk).kp e2 hk1) hk2 fun u k3 H3 hr e3 hk3 => by
    obtain ⟨a, xs, as, rfl, hs, hd, hr⟩ := onL_ex hk3 hr ((h1.kp e2 hk1).kp e3 hk2)
    refine ⟨a, xs, rfl, hs, fun p np => ?_⟩
    have e4 := Kp.of_ex (o := o) (Ex.new (o := .lst (cutV xs l u)) np)
    exact q _ k3 _ _ _ hr (fresh_back ((e1.trans e2).trans e3) hk3 np) (((e1.trans e2).trans e3).trans e4) (hk3.ex (Ex.new np)) upd_same ((hd.cut l u).kp e4 hk3))
theorem c_catT (h : EvC X o a ds k fun x k1 => EvC X o b ds k1 fun y k2 => onT x fun as => onT y fun bs => as.length + bs.length ≤ 1000 ∧ R (.tup (as ++ bs)) k2) : EvC X o (.BinOp a .Add b pos) ds k R := fun st H Q S hk q =>
  we (pe_op op_catA pe_w pe_w) (h st H _ S hk fun x k1 v H1 hx e1 hk1 h1 => hx st H1 _ (S.kp e1 hk) hk1 fun y k2 w H2 hy e2 hk2 h2 => by
    obtain ⟨as, rfl, hz⟩ := onT_ex hy
    obtain ⟨bs, rfl, hl, hr⟩ := onT_ex hz
    obtain ⟨pa, xs, rfl, hs, hd⟩ := (h1.kp e2 hk1).untup
    obtain ⟨pb, ys, rfl, hs2, hd2⟩ := h2.untup
    have e12 := e1.trans e2
    refine ⟨pa, pb, xs, ys, rfl, rfl, hs, hs2, ?_, fun hx => ?_, fun _ hy => ?_, fun _ _ p np => ?_⟩
    · rw [hd.1, hd2.1]
      exact Nat.le_trans hl (by decide)
    · have : as = [] := List.eq_nil_of_length_eq_zero (by rw [← hd.1, hx]; rfl)
      subst this
      exact q _ k2 _ H2 hr e12 hk2 (.v (.tup' hs2 hd2))
    · have : bs = [] := List.eq_nil_of_length_eq_zero (by rw [← hd2.1, hy]; rfl)
      subst this
      rw [List.append_nil] at hr
      exact q _ k2 _ H2 hr e12 hk2 (.v (.tup' hs hd))
    · have e4 := Kp.of_ex (o := o) (Ex.new (o := .tup (xs ++ ys)) np)
      exact q _ k2 _ _ hr (e12.trans e4) (hk2.ex (Ex.new np)) (.v (.tup' (.inl (.inl upd_same)) ((hd.append hd2).kp e4 hk2))))
def rCatR (K : PySem.W.Frag) : R2 := fun x y H Q => ∃ l b xs zs, x = .ref l ∧ y = .ref b ∧ SqL K H l xs ∧ SqL K H b zs ∧ xs.length + zs.length ≤ sizeLine ∧ ∀ p, H p = none → Q (.ref p) (upd H p (.lst (xs ++ zs)))
theorem op_catR : OpR X (binaryOp .Add) (rCatR X.K) := by
  intro pins s σ H x y v u Q I rx ry h
  obtain ⟨l, b, xs, zs, rfl, rfl, hH, hB, hz, q⟩ := h
  cases rx
  cases ry
  obtain ⟨its, r, pl, hl1⟩ := I.list hH
  obtain ⟨its2, r2, pl2, hl3⟩ := I.list hB
  have hl := r.length
  have hl2 := r2.length
  obtain ⟨⟨cls, dd, data, sl⟩, ho, hc, n, hd⟩ := pl.isList
  obtain ⟨⟨cls2, dd2, data2, sl2⟩, ho2, hc2, n2, hd2⟩ := pl2.isList
  simp only at hc hd hc2 hd2
  subst hc hd hc2 hd2
  have ea : its.toArray ++ its2.toArray = (its ++ its2).toArray := by simp
  refine concat_meets ⟨_, ho, rfl⟩ ⟨_, ho2, rfl⟩ noFill_list_add seq_list_add PySem.F.slot_list_add PySem.F.entry_list_add (PySem.F.args_list_add_2 _ _) (list_addW l b its.toArray its2.toArray n n2 dd dd2 sl sl2 (by rw [List.size_toArray, List.size_toArray]; omega)) ⟨ho, ho2, ?_⟩
  rw [ea]
  exact ⟨.ref _, _, I.lnew (t' := s.toks) (r.append r2) (by rw [List.length_append]; omega), rfl, q _ I.fresh⟩
theorem n_cat (h : EvC X o a ds k fun x k1 => EvC X o b ds k1 fun y k2 => onL k2 x fun as => onL k2 y fun bs => as.length + bs.length ≤ 10000 ∧ RN (as ++ bs) k2) : EvN X o (.BinOp a .Add b pos) ds k RN := fun st H Q S hk q =>
  we (pe_op op_catR pe_w pe_w) (h st H _ S hk fun x k1 v H1 hx e1 hk1 h1 => hx st H1 _ (S.kp e1 hk) hk1 fun y k2 w H2 hy e2 hk2 h2 => by
    obtain ⟨pa, xs, as, rfl, hs, hd, hz⟩ := onL_ex hk2 hy (h1.kp e2 hk1)
    obtain ⟨pb, ys, bs, rfl, hs2, hd2, hl, hr⟩ := onL_ex hk2 hz h2
    have e12 := e1.trans e2
    refine ⟨pa, pb, xs, ys, rfl, rfl, hs, hs2, ?_, fun p np => ?_⟩
    · rw [hd.1, hd2.1]
      exact Nat.le_trans hl (by decide)
    · have e4 := Kp.of_ex (o := o) (Ex.new (o := .lst (xs ++ ys)) np)
      exact q _ k2 p _ _ hr (fresh_back e12 hk2 np) (e12.trans e4) (hk2.ex (Ex.new np)) upd_same ((hd.append hd2).kp e4 hk2))
/-! methods of cells -/
@[reducible] def onC (x : Dat) (C : Nat → Prop) : Prop := match x with | .cel i => C i | _ => False
theorem onC_ex {d : Dat} {C : Nat → Prop} (h : onC d C) : ∃ i, d = .cel i ∧ C i := by
  cases d <;> first | exact ⟨_, rfl, h⟩ | exact h.elim
theorem cell_ty {K : PySem.W.Frag} {H : Hp} {a : Addr} {i : Nat} (hk : DK K o k H) (ha : o[i]? = some a) : tyV K "list" (.ref a) H := by
  obtain ⟨ys, hy⟩ := hk.cell (List.mem_of_getElem? ha)
  exact .inl ⟨rfl, ys, .inl (.inl hy)⟩
theorem noL_noC (n : noL d = true) : noC d = true := by cases d <;> first | rfl | cases n
theorem all_app {as bs : List Dat} (h1 : as.all noL = true) (h2 : bs.all noL = true) : (as ++ bs).all noL = true := by rw [List.all_append, h1, h2]; rfl
theorem all_one (h : noL d = true) : [d].all noL = true := by
  show (noL d && true) = true
  rw [h]; rfl
theorem c_append {eo : Expr} {apos cpos : Pos} (h : EvC X o eo ds k fun dc k1 => onC dc fun i => EvA X o [e1] ds k1 fun as k2 => on1 as fun d => noL d = true ∧ ∃ s, k2[i]? = some s ∧ s.length < 10000 ∧ R .non (k2.set i (s ++ [d])))
    (hbase : attributeBase eo "append" X.env (eval eo X.env) = eval eo X.env := by rfl)
    (hfew : ((backTo cpos (starEach [e1] X.env)).all (fun x => !x.1) && (backToKw cpos (keywordEach [] X.env)).all (fun x => x.1.isSome) && decide ([e1].length + ([] : List Keyword).length + (if ([] : List Keyword).isEmpty then 0 else 1) < 30)) = true := by rfl)
    (hline : (apos.endLine == cpos.line) = true := by rfl) (hs : starEach [e1] X.env = (false, eval e1 X.env) :: starEach [] X.env := by rfl) (hplain : (backTo cpos (starEach [] X.env)).any (·.1) = false := by rfl) : EvC X o (.Call (.Attribute eo "append" apos) [e1] [] cpos) ds k R := fun st H Q S hk q =>
  we (pe_bm PySem.F.plainAttrs_list PySem.F.slot_list_append PySem.F.type_list_append mt_append pe_w pa_w hbase hfew hline hs hplain) (h st H _ S hk fun dc k1 v H1 hx e1 hk1 h1 => by
    obtain ⟨i, rfl, hx⟩ := onC_ex hx
    obtain ⟨a, rfl, ha⟩ := h1.uncel
    refine ⟨cell_ty hk1 ha, hx st H1 _ (S.kp e1 hk) hk1 fun as k2 vs H2 hr e2 hk2 h2 => ?_⟩
    obtain ⟨d, rfl, nd, s, hs', hl, hr⟩ := on1_ex hr
    obtain ⟨w, rfl, g⟩ := dts1 h2
    obtain ⟨xs, hx', hd⟩ := hk2.at_ i a s ha hs'
    have hw := g.unc (noL_noC nd)
    obtain ⟨hk3, e3⟩ := dk_set hk2 ha (hd.append (DVs.cons hw DVs.nil)) (all_app (hk2.nl s (List.mem_of_getElem? hs')) (all_one nd))
    exact ⟨a, xs, w, rfl, rfl, hx', by rw [hd.1]; exact Nat.lt_of_lt_of_le hl (by decide), q _ _ _ _ hr ((e1.trans e2).trans e3) hk3 (.v .non)⟩)
theorem DVs.take {K : PySem.W.Frag} {H : Hp} {vs : List V} {ds : List Dat} (h : DVs K o H vs ds) (n : Nat) : DVs K o H (vs.take n) (ds.take n) := by
  refine ⟨by rw [List.length_take, List.length_take, h.1], fun i v d a b => ?_⟩
  rw [List.getElem?_take] at a b
  split at a
  · rename_i hi'
    rw [if_pos hi'] at b
    exact h.2 _ v d a b
  · cases a
theorem DVs.drop {K : PySem.W.Frag} {H : Hp} {vs : List V} {ds : List Dat} (h : DVs K o H vs ds) (n : Nat) : DVs K o H (vs.drop n) (ds.drop n) := by
  refine ⟨by rw [List.length_drop, List.length_drop, h.1], fun i v d a b => ?_⟩
  rw [List.getElem?_drop] at a b
  exact h.2 _ v d a b
theorem all_take {as : List Dat} {n : Nat} (h : as.all noL = true) : (as.take n).all noL = true := List.all_eq_true.mpr fun x hx => List.all_eq_true.mp h x (List.mem_of_mem_take hx)
theorem all_drop {as : List Dat} {n : Nat} (h : as.all noL = true) : (as.drop n).all noL = true := List.all_eq_true.mpr fun x hx => List.all_eq_true.mp h x (List.mem_of_mem_drop hx)
theorem c_insert {eo : Expr} {apos cpos : Pos} (h : EvC X o eo ds k fun dc k1 => onC dc fun i => EvA X o [e1, e2] ds k1 fun as k2 => on2 as fun dj d => onI dj fun j => noL d = true ∧ (0 ≤ j ∧ j < 2 ^ 63) ∧ ∃ s, k2[i]? = some s ∧ s.length < 10000 ∧ R .non (k2.set i (s.take j.toNat ++ [d] ++ s.drop j.toNat)))
    (hbase : attributeBase eo "insert" X.env (eval eo X.env) = eval eo X.env := by rfl)
    (hfew : ((backTo cpos (starEach [e1, e2] X.env)).all (fun x => !x.1) && (backToKw cpos (keywordEach [] X.env)).all (fun x => x.1.isSome) && decide ([e1, e2].length + ([] : List Keyword).length + (if ([] : List Keyword).isEmpty then 0 else 1) < 30)) = true := by rfl)
    (hline : (apos.endLine == cpos.line) = true := by rfl) (hs : starEach [e1, e2] X.env = (false, eval e1 X.env) :: starEach [e2] X.env := by rfl) (hplain : (backTo cpos (starEach [e2] X.env)).any (·.1) = false := by rfl) : EvC X o (.Call (.Attribute eo "insert" apos) [e1, e2] [] cpos) ds k R := fun st H Q S hk q =>
  we (pe_bm PySem.F.plainAttrs_list PySem.F.slot_list_insert PySem.F.type_list_insert mt_insert pe_w pa_w hbase hfew hline hs hplain) (h st H _ S hk fun dc k1 v H1 hx e1 hk1 h1 => by
    obtain ⟨i, rfl, hx⟩ := onC_ex hx
    obtain ⟨a, rfl, ha⟩ := h1.uncel
    refine ⟨cell_ty hk1 ha, hx st H1 _ (S.kp e1 hk) hk1 fun as k2 vs H2 hr e2 hk2 h2 => ?_⟩
    obtain ⟨dj, d, rfl, hr⟩ := on2_ex hr
    obtain ⟨j, rfl, nd, hj, s, hs', hl, hr⟩ := onI_ex hr
    obtain ⟨u, w, rfl, g0, g⟩ := dts2 h2
    have q1 := g0.unint
    subst q1
    obtain ⟨xs, hx', hd⟩ := hk2.at_ i a s ha hs'
    have hw := g.unc (noL_noC nd)
    have nl := hk2.nl s (List.mem_of_getElem? hs')
    obtain ⟨hk3, e3⟩ := dk_set hk2 ha (((hd.take j.toNat).append (DVs.cons hw DVs.nil)).append (hd.drop j.toNat)) (all_app (all_app (all_take nl) (all_one nd)) (all_drop nl))
    exact ⟨a, xs, j, w, rfl, rfl, hx', by rw [hd.1]; exact Nat.lt_of_lt_of_le hl (by decide), hj.1, hj.2, q _ _ _ _ hr ((e1.trans e2).trans e3) hk3 (.v .non)⟩)
end
end Wz

set_option Elab.async false
set_option linter.all false
set_option maxRecDepth 100000
set_option maxHeartbeats 4000000
namespace Wz
open PySem PySem.Spec PyProof.Rows L2 Evl
abbrev BX (X : Cx) (scope : Scope) (s : Shared) (H : Hp) (C : Addr) (cl : List (Str × Addr)) (fp : List Addr) : Cx := X.blk s H scope (compEnvC scope cl C X.env) fp
def bT (X : Cx) (scope : Scope) (c : Expr) : TT := fun st H Q => ∀ s0 H0 C cl fp, WT (BX X scope s0 H0 C cl fp) c st H Q
def bE (X : Cx) (scope : Scope) (c : Expr) : TE := fun st H Q => ∀ s0 H0 C cl fp, WE (BX X scope s0 H0 C cl fp) c st H Q
/-- the turn's invariant -/
def CvI (K : PySem.W.Frag) (o : Os) (H1 : Hp) (D : Addr) (W : Nat → List Dat → Cs → Prop) (i : Nat) (H' : Hp) : Prop :=
  Kp o H1 H' ∧ ∃ q acc vs, W i acc q ∧ DK K o q H' ∧ H' D = some (.lst vs) ∧ DVs K o H' vs acc ∧ acc.all noL = true ∧ acc.length ≤ i
theorem tm_upd {K : PySem.W.Frag} {H : Hp} {p : Addr} {xs ys : List V} (h : H p = some (.lst xs)) : ∀ b zs, SqT K H b zs → SqT K (upd H p (.lst ys)) b zs := fun b zs s => by
  rcases s with (s | ⟨ob, s⟩) | s
  · have n : b ≠ p := fun z => by
      rw [z, h] at s
      cases s
    exact .inl (.inl (by rw [upd_ne n]; exact s))
  · have n : b ≠ p := fun z => by
      rw [z, h] at s
      cases s
    exact .inl (.inr ⟨ob, by rw [upd_ne n]; exact s⟩)
  · exact .inr s
theorem DV.tm {K : PySem.W.Frag} {o : Os} {H H' : Hp} (m : ∀ b xs, SqT K H b xs → SqT K H' b xs) {v : V} {d : Dat} (h : DV K o H v d) : noL d = true → DV K o H' v d := by
  induction h with
  | non => intro _; exact .non
  | bl b => intro _; exact .bl b
  | int i => intro _; exact .int i
  | str x => intro _; exact .str x
  | tup s l _ ih =>
    intro h
    rw [noL] at h
    exact .tup (m _ _ s) l fun i v d a b => ih i v d a b (noLs_at h b)
  | lst s l _ ih => intro h; rw [noL] at h; cases h
  | raw v => intro h; rw [noL] at h; cases h
theorem DVs.tm {K : PySem.W.Frag} {o : Os} {H H' : Hp} (m : ∀ b xs, SqT K H b xs → SqT K H' b xs) {vs : List V} {ds : List Dat} (h : DVs K o H vs ds) (n : ds.all noL = true) : DVs K o H' vs ds := ⟨h.1, fun i v d a b => (h.2 i v d a b).tm m (noLs_all n b)⟩
theorem cv_step {K : PySem.W.Frag} {o : Os} {k1 q : Cs} {H1 H3 H4 : Hp} {D : Addr} {W : Nat → List Dat → Cs → Prop} {i : Nat} {acc : List Dat} {vs : List V} {u : V} {y : Dat} {q' : Cs} (n1 : H1 D = none) (hk1 : DK K o k1 H1) (hi : i < 10000) (w1 : Kp o H1 H3) (hk3 : DK K o q H3) (hD : H3 D = some (.lst vs)) (hv : DVs K o H3 vs acc) (na : acc.all noL = true) (hl : acc.length ≤ i)
    (e : Kp o H3 H4) (hk4 : DK K o q' H4) (hu : DT K o H4 u y) (ny : noL y = true) (hW : W (i + 1) (acc ++ [y]) q') : ∃ vs, H4 D = some (.lst vs) ∧ vs.length < sizeLine ∧ CvI K o H1 D W (i + 1) (upd H4 D (.lst (vs ++ [u]))) := by
  have nD : D ∉ o := hk1.ne n1
  have hD4 : H4 D = some (.lst vs) := e D _ nD hD
  refine ⟨vs, hD4, ?_, fun b z nb hb => ?_, q', acc ++ [y], vs ++ [u], hW, ?_, upd_same, ?_, all_app na (all_one ny), ?_⟩
  · rw [hv.1]
    exact Nat.lt_of_le_of_lt hl (Nat.lt_of_lt_of_le hi (by decide))
  · rw [upd_ne (ne_of_none hb n1)]
    exact e b z nb (w1 b z nb hb)
  · refine ⟨hk4.len, hk4.nd, hk4.nl, fun j a as ha hs => ?_⟩
    obtain ⟨xs, hx, hd⟩ := hk4.at_ j a as ha hs
    refine ⟨xs, ?_, hd.tm (tm_upd hD4) (hk4.nl as (List.mem_of_getElem? hs))⟩
    rw [upd_ne (fun z => nD (by rw [← z]; exact List.mem_of_getElem? ha))]
    exact hx
  · exact ((hv.kp e hk3).append (DVs.cons (hu.unc (noL_noC ny)) DVs.nil)).tm (tm_upd hD4) (all_app na (all_one ny))
  · rw [List.length_append]
    show acc.length + 1 ≤ i + 1
    omega
theorem set_wipe {st : L2.St} {j : Nat} {v : V} : (wipe st [j]).set j (some v) = st.set j (some v) := by
  show (st.set j none).set j (some v) = _
  rw [List.set_set]
theorem wipe_set {st : L2.St} {j : Nat} {v : V} : wipe (st.set j (some v)) [j] = wipe st [j] := by
  show (st.set j (some v)).set j none = st.set j none
  rw [List.set_set]
section
variable {X : Cx} {o0 o : Os} {ds : List (Option Dat)} {k k1 k2 : Cs} {e c a b elt e1 e2 e3 : Expr} {es : List Expr} {d : Dat} {as : List Dat} {pos pos' p p1 p2 p3 : Pos} {rest body orelse : List Stmt} {D : Ends} {H0 : Hp} {R : Dat → Cs → Prop} {RT : Bool → Cs → Prop} {RN : List Dat → Cs → Prop} {x : Str} {scope : Scope} {j : Nat}
/-- what a comprehension wants: W by the turn and what is told so far -/
structure LcW (X : Cx) (o : Os) (scope : Scope) (elt : Expr) (ds : List (Option Dat)) (n : Nat) (it : Nat → Option Dat) (sl : Dat → List (Option Dat) → List (Option Dat)) (W : Nat → List Dat → Cs → Prop) : Prop where
  turn : ∀ s H C cl fp j d acc q, j < n → it j = some d → W j acc q → EvC (BX X scope s H C cl fp) o elt (sl d ds) q fun y q' => noL y = true ∧ W (j + 1) (acc ++ [y]) q'
/-- with an if -/
structure LcC (X : Cx) (o : Os) (scope : Scope) (c elt : Expr) (ds : List (Option Dat)) (n : Nat) (it : Nat → Option Dat) (sl : Dat → List (Option Dat) → List (Option Dat)) (W : Nat → List Dat → Cs → Prop) : Prop where
  turn : ∀ s H C cl fp j d acc q, j < n → it j = some d → W j acc q → EvT (BX X scope s H C cl fp) o c (sl d ds) q fun b q1 => bc b (∀ s H C cl fp, EvC (BX X scope s H C cl fp) o elt (sl d ds) q1 fun y q' => noL y = true ∧ W (j + 1) (acc ++ [y]) q') (W (j + 1) acc q1)
/-- the turn of a comprehension without if -/
theorem lc_turn0 {n : Nat} {it : Nat → Option Dat} {W : Nat → List Dat → Cs → Prop} {H1 H' : Hp} {Dr : Addr} {st : L2.St} {i : Nat} {y : V} {d : Dat} (n1 : H1 Dr = none) (hk1 : DK X.K o k1 H1) (S1 : Sat X.K o st H1 ds) (L : LcW X o scope elt ds n it (fun d es => es.set j (some d)) W) (hn : n ≤ 10000) (hi : i < n) (hd : it i = some d) (hy : DV X.K o H1 y d) (w : CvI X.K o H1 Dr W i H') :
    wipe ((wipe st [j]).set j (some y)) [j] = wipe st [j] ∧ tYes ((wipe st [j]).set j (some y)) H' fun b H3 => if b = true then bE X scope elt ((wipe st [j]).set j (some y)) H3 fun y H4 => ∃ acc, H4 Dr = some (.lst acc) ∧ acc.length < sizeLine ∧ CvI X.K o H1 Dr W (i + 1) (upd H4 Dr (.lst (acc ++ [y]))) else CvI X.K o H1 Dr W (i + 1) H3 := by
  rw [set_wipe, wipe_set]
  refine ⟨rfl, ?_⟩
  simp only [tYes, if_true]
  obtain ⟨w1, q, acc, vs, hW, hk', hD, hv, na, hl⟩ := w
  have S2 : Sat X.K o (st.set j (some y)) H' (ds.set j (some d)) := (S1.kp w1 hk1).set (.v (hy.kp w1 hk1))
  exact fun s0 H0 C cl fp => L.turn s0 H0 C cl fp i d acc q hi hd hW _ H' _ S2 hk' fun z q' u H4 hr e4 hk4 hu => cv_step n1 hk1 (by omega) w1 hk' hD hv na hl e4 hk4 hu hr.1 hr.2
theorem lc_turn1 {n : Nat} {it : Nat → Option Dat} {W : Nat → List Dat → Cs → Prop} {H1 H' : Hp} {Dr : Addr} {st : L2.St} {i : Nat} {y : V} {d : Dat} (n1 : H1 Dr = none) (hk1 : DK X.K o k1 H1) (S1 : Sat X.K o st H1 ds) (L : LcC X o scope c elt ds n it (fun d es => es.set j (some d)) W) (hn : n ≤ 10000) (hi : i < n) (hd : it i = some d) (hy : DV X.K o H1 y d) (w : CvI X.K o H1 Dr W i H') :
    wipe ((wipe st [j]).set j (some y)) [j] = wipe st [j] ∧ bT X scope c ((wipe st [j]).set j (some y)) H' fun b H3 => if b = true then bE X scope elt ((wipe st [j]).set j (some y)) H3 fun y H4 => ∃ acc, H4 Dr = some (.lst acc) ∧ acc.length < sizeLine ∧ CvI X.K o H1 Dr W (i + 1) (upd H4 Dr (.lst (acc ++ [y]))) else CvI X.K o H1 Dr W (i + 1) H3 := by
  rw [set_wipe, wipe_set]
  refine ⟨rfl, ?_⟩
  obtain ⟨w1, q, acc, vs, hW, hk', hD, hv, na, hl⟩ := w
  have S2 : Sat X.K o (st.set j (some y)) H' (ds.set j (some d)) := (S1.kp w1 hk1).set (.v (hy.kp w1 hk1))
  have nD : Dr ∉ o := hk1.ne n1
  refine fun s0 H0 C cl fp => L.turn s0 H0 C cl fp i d acc q hi hd hW _ H' _ S2 hk' fun b q1 H3 hb e3 hk3 => ?_
  cases b with
  | true =>
    rw [if_pos rfl]
    exact fun s0 H0 C cl fp => hb s0 H0 C cl fp _ H3 _ (S2.kp e3 hk') hk3 fun z q' u H4 hr e4 hk4 hu => cv_step n1 hk1 (by omega) (w1.trans e3) hk3 (e3 Dr _ nD hD) (hv.kp e3 hk') na hl e4 hk4 hu hr.1 hr.2
  | false =>
    rw [if_neg Bool.false_ne_true]
    exact ⟨w1.trans e3, q1, acc, vs, hb, hk3, e3 Dr _ nD hD, hv.kp e3 hk', na, by omega⟩
theorem cv_start {W : Nat → List Dat → Cs → Prop} {H1 : Hp} {Dr : Addr} (n1 : H1 Dr = none) (hk1 : DK X.K o k1 H1) (h0 : W 0 [] k1) : CvI X.K o H1 Dr W 0 (upd H1 Dr (.lst [])) := ⟨Kp.of_ex (Ex.new n1), k1, [], [], h0, hk1.ex (Ex.new n1), upd_same, DVs.nil, rfl, Nat.le_refl _⟩
/-- [elt for x in range(a)] -/
theorem n_lcR (hcalm : X.calm = true) (hN : X.N.Nodup) (hm : X.mg "range" = none) (hok : BlkOk X.N X.env.scope scope [(x, j)]) (hgn : ∀ s H C cl fp, PG (BX X scope s H C cl fp) (.Name x p1) (gName j))
    (h : EvA X o [a] ds k fun as k1 => on1 as fun d => onI d fun n => (0 ≤ n ∧ n ≤ 10000) ∧ ∃ W, W 0 [] k1 ∧ LcW X o scope elt ds n.toNat (fun i => some (.int (i : Int))) (fun d es => es.set j (some d)) W ∧ ∀ acc q, W n.toNat acc q → acc.all noL = true → RN acc q) (hg : Gl X "range" := by rfl) (hst : starEach [a] X.env = [(false, eval a X.env)] := by rfl)
    (hset : ∀ y, foldedSetIterable (.Call (.Name "range" p2) [a] [] p3) X.env y = pure y := by intro _; rfl) :
    EvN X o (.ListComp elt [⟨.Name x p1, .Call (.Name "range" p2) [a] [] p3, [], 0⟩] scope pos) ds k RN := fun st H Q S hk q =>
  we (pe_lc (own := [(x, j)]) (g := gName j) (tt := tYes) (te := bE X scope elt) hcalm hN (pi_range1 hg hm pa_w hst) hok hgn
    (fun s0 H0 C cl fp => pts_nil) (fun s0 H0 C cl fp => ⟨fun pins s st H Q I h => h s0 H0 C cl fp pins s I⟩) hset) (h st H _ S hk fun as k1 vs H1 hr e1 hk1 h1 => by
    obtain ⟨d, rfl, hr⟩ := on1_ex hr
    obtain ⟨n, rfl, hn, W, h0, L, hd⟩ := onI_ex hr
    obtain ⟨u, rfl, g1⟩ := dts1 h1
    have q1 := g1.unint
    subst q1
    refine ⟨n, rfl, by omega, by omega, fun Dr nD => ?_⟩
    refine lc_range (lo := 0) (n := n.toNat) (g := gName j) (tt := tYes) (te := bE X scope elt) (vs := [j]) (σ := st) (Qd := fun H' => Q (.ref Dr) H') (CvI X.K o H1 Dr W) (cv_start nD hk1 h0) (fun i H' hi w => ?_) (fun H' w => ?_)
    · have e0 : (0 : Int) + (i : Int) = (i : Int) := Int.zero_add _
      show wipe ((wipe st [j]).set j (some (.int ((0 : Int) + (i : Int))))) [j] = wipe st [j] ∧ _
      rw [e0]
      exact lc_turn0 nD hk1 (S.kp e1 hk) L (by omega) hi rfl (.int _) w
    · obtain ⟨w1, q', acc, vs, hW, hk', hD, hv, na, hl⟩ := w
      exact q acc q' Dr vs H' (hd acc q' hW na) (fresh_back e1 hk1 nD) (e1.trans w1) hk' hD hv)
/-- [elt for x in t], t a tuple -/
theorem n_lcT (hcalm : X.calm = true) (hN : X.N.Nodup) (hok : BlkOk X.N X.env.scope scope [(x, j)]) (hgn : ∀ s H C cl fp, PG (BX X scope s H C cl fp) (.Name x p1) (gName j))
    (h : EvC X o a ds k fun d k1 => onT d fun as => as.length ≤ 10000 ∧ ∃ W, W 0 [] k1 ∧ LcW X o scope elt ds as.length (fun i => as[i]?) (fun d es => es.set j (some d)) W ∧ ∀ acc q, W as.length acc q → acc.all noL = true → RN acc q)
    (hset : ∀ y, foldedSetIterable a X.env y = pure y := by intro _; rfl) :
    EvN X o (.ListComp elt [⟨.Name x p1, a, [], 0⟩] scope pos) ds k RN := fun st H Q S hk q =>
  we (pe_lc (own := [(x, j)]) (g := gName j) (tt := tYes) (te := bE X scope elt) hcalm hN (pi_tup pe_w) hok hgn
    (fun s0 H0 C cl fp => pts_nil) (fun s0 H0 C cl fp => ⟨fun pins s st H Q I h => h s0 H0 C cl fp pins s I⟩) hset) (h st H _ S hk fun d k1 v H1 hr e1 hk1 h1 => by
    obtain ⟨as, rfl, hn, W, h0, L, hd⟩ := onT_ex hr
    obtain ⟨t, xs, rfl, hs, hdv⟩ := h1.untup
    refine ⟨t, rfl, ⟨xs, hs⟩, fun Dr nD => ?_⟩
    refine lc_tup (xs := xs) (g := gName j) (tt := tYes) (te := bE X scope elt) (vs := [j]) (σ := st) (Qd := fun H' => Q (.ref Dr) H') (CvI X.K o H1 Dr W) (cv_start nD hk1 h0) (fun i H' _ w => kp_t w.1 hk1 hs) (fun i y H' hy w => ?_) (fun H' w => ?_)
    · have hi : i < as.length := by
        rw [← hdv.1]
        exact (List.getElem?_eq_some_iff.mp hy).1
      have hda : as[i]? = some as[i] := List.getElem?_eq_getElem hi
      exact lc_turn0 nD hk1 (S.kp e1 hk) L hn hi hda (hdv.2 i y _ hy hda) w
    · obtain ⟨w1, q', acc, vs, hW, hk', hD, hv, na, hl⟩ := w
      rw [hdv.1] at hW
      exact q acc q' Dr vs H' (hd acc q' hW na) (fresh_back e1 hk1 nD) (e1.trans w1) hk' hD hv)
/-- [elt for x in xs], xs a list that is no cell -/
theorem n_lcL (hcalm : X.calm = true) (hN : X.N.Nodup) (hok : BlkOk X.N X.env.scope scope [(x, j)]) (hgn : ∀ s H C cl fp, PG (BX X scope s H C cl fp) (.Name x p1) (gName j))
    (h : EvC X o a ds k fun d k1 => onL0 d fun as => as.length ≤ 10000 ∧ ∃ W, W 0 [] k1 ∧ LcW X o scope elt ds as.length (fun i => as[i]?) (fun d es => es.set j (some d)) W ∧ ∀ acc q, W as.length acc q → acc.all noL = true → RN acc q)
    (hset : ∀ y, foldedSetIterable a X.env y = pure y := by intro _; rfl) :
    EvN X o (.ListComp elt [⟨.Name x p1, a, [], 0⟩] scope pos) ds k RN := fun st H Q S hk q =>
  we (pe_lc (own := [(x, j)]) (g := gName j) (tt := tYes) (te := bE X scope elt) hcalm hN (pi_list pe_w) hok hgn
    (fun s0 H0 C cl fp => pts_nil) (fun s0 H0 C cl fp => ⟨fun pins s st H Q I h => h s0 H0 C cl fp pins s I⟩) hset) (h st H _ S hk fun d k1 v H1 hr e1 hk1 h1 => by
    obtain ⟨as, rfl, hn, W, h0, L, hd⟩ := onL0_ex hr
    obtain ⟨t, xs, rfl, hs, hdv⟩ := h1.unlst
    refine ⟨t, rfl, ⟨xs, hs.sq⟩, fun Dr nD => ?_⟩
    refine lc_list (xs := xs) (g := gName j) (tt := tYes) (te := bE X scope elt) (vs := [j]) (σ := st) (Qd := fun H' => Q (.ref Dr) H') (CvI X.K o H1 Dr W) (cv_start nD hk1 h0) (fun i H' _ w => (hs.kp w.1 fun _ z => z).sq) (fun i y H' hy w => ?_) (fun H' w => ?_)
    · have hi : i < as.length := by
        rw [← hdv.1]
        exact (List.getElem?_eq_some_iff.mp hy).1
      have hda : as[i]? = some as[i] := List.getElem?_eq_getElem hi
      exact lc_turn0 nD hk1 (S.kp e1 hk) L hn hi hda (hdv.2 i y _ hy hda) w
    · obtain ⟨w1, q', acc, vs, hW, hk', hD, hv, na, hl⟩ := w
      rw [hdv.1] at hW
      exact q acc q' Dr vs H' (hd acc q' hW na) (fresh_back e1 hk1 nD) (e1.trans w1) hk' hD hv)
end
end Wz

set_option Elab.async false
set_option linter.all false
set_option maxRecDepth 100000
set_option maxHeartbeats 4000000
namespace Wz
open PySem PySem.Spec PyProof.Rows L2 Evl
/-! deep == -/
def noR : Dat → Bool
  | .raw _ => false
  | .cel _ => false
  | .lst xs => noRs xs
  | .tup xs => noRs xs
  | _ => true
where noRs : List Dat → Bool
  | [] => true
  | d :: ds => noR d && noRs ds
def pd : Dat → PyData
  | .non => .none
  | .bl b => .bool b
  | .int i => .int i
  | .str x => .str x
  | .tup xs => .tuple (pds xs)
  | .lst xs => .list (pds xs)
  | .cel _ => .none
  | .raw _ => .none
where pds : List Dat → List PyData
  | [] => []
  | d :: ds => pd d :: pds ds
theorem noRs_at : ∀ {ds : List Dat} {i : Nat} {d : Dat}, noR.noRs ds = true → ds[i]? = some d → noR d = true
  | [], _, _, _, h => by simp at h
  | d :: ds, 0, e, h, q => by
    simp at q
    subst q
    rw [noR.noRs, Bool.and_eq_true] at h
    exact h.1
  | d :: ds, i + 1, e, h, q => by
    rw [noR.noRs, Bool.and_eq_true] at h
    exact noRs_at (i := i) h.2 (by simpa using q)
theorem dpall {K : PySem.W.Frag} {H : Hp} : ∀ {xs : List V} {ds : List Dat}, xs.length = ds.length → (∀ (i : Nat) (v : V) (d : Dat), xs[i]? = some v → ds[i]? = some d → Dp K H v (pd d)) → DpAll K H xs (pd.pds ds)
  | [], [], _, _ => .nil
  | x :: xs, d :: ds, hl, h => .cons (h 0 x d rfl rfl) (dpall (by simpa using hl) fun i v e a b => h (i + 1) v e (by simpa using a) (by simpa using b))
theorem DV.dp {K : PySem.W.Frag} {o : Os} {H : Hp} {v : V} {d : Dat} (h : DV K o H v d) : noR d = true → Dp K H v (pd d) := by
  induction h with
  | non => intro _; exact .non
  | bl b => intro _; exact .bl b
  | int i => intro _; exact .int i
  | str x => intro _; exact .str x
  | tup s l _ ih =>
    intro n
    rw [noR] at n
    exact .tup s (dpall l fun i v d a b => ih i v d a b (noRs_at n b))
  | lst s l _ ih =>
    intro n
    rw [noR] at n
    exact .lst (s.sq) (dpall l fun i v d a b => ih i v d a b (noRs_at n b))
  | raw v => intro n; rw [noR] at n; cases n
theorem noR_noC {d : Dat} (n : noR d = true) : noC d = true := by cases d <;> first | rfl | cases n
/-- what is compared is data of few depths -/
@[reducible] def eqOk (x y : Dat) : Prop := (noR x = true ∧ noR y = true) ∧ SeqAt.shaped (pd x) = true ∧ SeqAt.shaped (pd y) = true
section
variable {X : Cx} {o0 o : Os} {ds : List (Option Dat)} {k k1 k2 : Cs} {e c a b elt e1 e2 e3 : Expr} {es : List Expr} {d : Dat} {as : List Dat} {pos pos' p p1 p2 p3 : Pos} {rest body orelse : List Stmt} {D : Ends} {H0 : Hp} {R : Dat → Cs → Prop} {RT : Bool → Cs → Prop} {RN : List Dat → Cs → Prop} {x : Str} {scope : Scope} {j : Nat}
def CD (n : Bool) (x y : Dat) (_ : Cs) (z : Bool) : Prop := eqOk x y ∧ z = (if n = true then !PyData.eqv (pd x) (pd y) else PyData.eqv (pd x) (pd y))
theorem c_eqD (hu : X.A.units + 64 < cLine) (h : EvC X o a ds k fun x k1 => EvC X o b ds k1 fun y k2 => eqOk x y ∧ R (.bl (PyData.eqv (pd x) (pd y))) k2) : EvC X o (.Compare a [.Eq] [b] pos) ds k R :=
  c_cmp (op_eqD hu) (nobehind _ (by decide) (by decide)) (C := CD false) (fun x y k2 v w H Q hz _ h1 h2 q => by
    obtain ⟨z, ⟨⟨n1, n2⟩, s1, s2⟩, rfl⟩ := hz
    exact ⟨_, _, (h1.unc (noR_noC n1)).dp n1, (h2.unc (noR_noC n2)).dp n2, s1, s2, q _ ⟨⟨⟨n1, n2⟩, s1, s2⟩, rfl⟩⟩) (h.mono fun x k1 hx => hx.mono fun y k2 ⟨ok, hy⟩ => ⟨⟨_, ok, rfl⟩, fun z ⟨_, e⟩ => by
      rw [e]
      exact hy⟩)
theorem t_eqD (hu : X.A.units + 64 < cLine) (h : EvC X o a ds k fun x k1 => EvC X o b ds k1 fun y k2 => eqOk x y ∧ RT (PyData.eqv (pd x) (pd y)) k2) : EvT X o (.Compare a [.Eq] [b] pos) ds k RT :=
  tc_cmp (op_eqD hu) (nobehind _ (by decide) (by decide)) (C := CD false) (fun x y k2 v w H Q hz _ h1 h2 q => by
    obtain ⟨z, ⟨⟨n1, n2⟩, s1, s2⟩, rfl⟩ := hz
    exact ⟨_, _, (h1.unc (noR_noC n1)).dp n1, (h2.unc (noR_noC n2)).dp n2, s1, s2, q _ ⟨⟨⟨n1, n2⟩, s1, s2⟩, rfl⟩⟩) (h.mono fun x k1 hx => hx.mono fun y k2 ⟨ok, hy⟩ => ⟨⟨_, ok, rfl⟩, fun z ⟨_, e⟩ => by
      rw [e]
      exact hy⟩)
theorem c_neD (hu : X.A.units + 64 < cLine) (h : EvC X o a ds k fun x k1 => EvC X o b ds k1 fun y k2 => eqOk x y ∧ R (.bl (!PyData.eqv (pd x) (pd y))) k2) : EvC X o (.Compare a [.NotEq] [b] pos) ds k R :=
  c_cmp (op_neD hu) (nobehind _ (by decide) (by decide)) (C := CD true) (fun x y k2 v w H Q hz _ h1 h2 q => by
    obtain ⟨z, ⟨⟨n1, n2⟩, s1, s2⟩, rfl⟩ := hz
    exact ⟨_, _, (h1.unc (noR_noC n1)).dp n1, (h2.unc (noR_noC n2)).dp n2, s1, s2, q _ ⟨⟨⟨n1, n2⟩, s1, s2⟩, rfl⟩⟩) (h.mono fun x k1 hx => hx.mono fun y k2 ⟨ok, hy⟩ => ⟨⟨_, ok, rfl⟩, fun z ⟨_, e⟩ => by
      rw [e]
      exact hy⟩)
theorem t_neD (hu : X.A.units + 64 < cLine) (h : EvC X o a ds k fun x k1 => EvC X o b ds k1 fun y k2 => eqOk x y ∧ RT (!PyData.eqv (pd x) (pd y)) k2) : EvT X o (.Compare a [.NotEq] [b] pos) ds k RT :=
  tc_cmp (op_neD hu) (nobehind _ (by decide) (by decide)) (C := CD true) (fun x y k2 v w H Q hz _ h1 h2 q => by
    obtain ⟨z, ⟨⟨n1, n2⟩, s1, s2⟩, rfl⟩ := hz
    exact ⟨_, _, (h1.unc (noR_noC n1)).dp n1, (h2.unc (noR_noC n2)).dp n2, s1, s2, q _ ⟨⟨⟨n1, n2⟩, s1, s2⟩, rfl⟩⟩) (h.mono fun x k1 hx => hx.mono fun y k2 ⟨ok, hy⟩ => ⟨⟨_, ok, rfl⟩, fun z ⟨_, e⟩ => by
      rw [e]
      exact hy⟩)
/-- an int in a tuple of ints -/
theorem vints {K : PySem.W.Frag} {H : Hp} {xs : List V} {is : List Int} (hd : DVs K o H xs (is.map Dat.int)) : xs = is.map V.int := by
  refine List.ext_getElem? fun j => ?_
  by_cases hj : j < xs.length
  · have hj2 : j < is.length := by rw [hd.1, List.length_map] at hj; exact hj
    have q1 : (is.map Dat.int)[j]? = some (.int is[j]) := by rw [List.getElem?_map, List.getElem?_eq_getElem hj2]; rfl
    have q2 := hd.2 j _ _ (List.getElem?_eq_getElem hj) q1
    rw [List.getElem?_eq_getElem hj, List.getElem?_map, List.getElem?_eq_getElem hj2]
    generalize xs[j] = vv at q2
    cases q2
    rfl
  · have hj2 : ¬ j < is.length := by rw [hd.1, List.length_map] at hj; exact hj
    rw [List.getElem?_eq_none (by omega), List.getElem?_eq_none (by rw [List.length_map]; omega)]
theorem inV_ints {i : Int} : ∀ {is : List Int}, inV (.int i) (is.map V.int) = decide (i ∈ is)
  | [] => by simp [inV]
  | j :: is => by
    have ih := inV_ints (i := i) (is := is)
    unfold inV at *
    rw [List.map_cons, List.any_cons, ih]
    by_cases h : i = j
    · subst h
      simp [eqV]
    · have : eqV (V.int j) (V.int i) = false := by
        simp [eqV]
        omega
      simp [this, h]
theorem c_inI {is : List Int} (h : EvC X o a ds k fun x k1 => EvC X o b ds k1 fun y k2 => onI x fun i => y = .tup (is.map Dat.int) ∧ R (.bl (decide (i ∈ is))) k2) (hm : behindInMarks .In b = false := by rfl) : EvC X o (.Compare a [.In] [b] pos) ds k R := fun st H Q S hk q =>
  we (pe_cmpR op_in_seq pe_w pe_w hm) (h st H _ S hk fun x k1 v H1 hx e1 hk1 h1 => hx st H1 _ (S.kp e1 hk) hk1 fun y k2 w H2 hy e2 hk2 h2 => by
    obtain ⟨i, rfl, rfl, hr⟩ := onI_ex hy
    have q1 := h1.unint
    subst q1
    obtain ⟨pp, xs, rfl, hs, hd⟩ := h2.untup
    have ex := vints hd
    subst ex
    refine ⟨pp, _, rfl, .inr hs, rfl, ?_, ?_⟩
    · rw [List.all_map]
      exact List.all_eq_true.mpr fun _ _ => rfl
    · show Q (.bl (if false = true then !inV (.int i) (is.map V.int) else inV (.int i) (is.map V.int))) H2
      rw [if_neg Bool.false_ne_true, inV_ints]
      exact q _ k2 _ H2 hr (e1.trans e2) hk2 (.v (.bl _)))
/-! unpacking -/
/-- (a, b), (c, d) = t -/
theorem as_unp22 {i j l m : Nat} {x y z u : Str} {px py pz pu pt1 pt2 pt : Pos} {kt1 kt2 kt : Nat} (hN : X.N.Nodup) (hc : X.calm = true) (h : EvC X o e ds k fun d k1 => ∃ d1 d2 d3 d4, d = .tup [.tup [d1, d2], .tup [d3, d4]] ∧ AS X o0 o rest D ((((ds.set i (some d1)).set j (some d2)).set l (some d3)).set m (some d4)) k1 H0)
    (hi : X.N[i]? = some x := by rfl) (hj : X.N[j]? = some y := by rfl) (hl : X.N[l]? = some z := by rfl) (hm : X.N[m]? = some u := by rfl) (hx : Loc X.env.scope x := by exact Or.inl rfl) (hy : Loc X.env.scope y := by exact Or.inl rfl) (hz : Loc X.env.scope z := by exact Or.inl rfl) (hu : Loc X.env.scope u := by exact Or.inl rfl)
    (hfx : X.fn x = true ∨ X.env.scope.names.lookup x = some .local := by exact .inl rfl) (hfy : X.fn y = true ∨ X.env.scope.names.lookup y = some .local := by exact .inl rfl) (hfz : X.fn z = true ∨ X.env.scope.names.lookup z = some .local := by exact .inl rfl) (hfu : X.fn u = true ∨ X.env.scope.names.lookup u = some .local := by exact .inl rfl)
    (hs : swapsWithSole [.Tuple [.Tuple [.Name x px, .Name y py] kt1 pt1, .Tuple [.Name z pz, .Name u pu] kt2 pt2] kt pt] e pos.line X.env = pure false := by rfl) (hw : swappedStores [.Tuple [.Tuple [.Name x px, .Name y py] kt1 pt1, .Tuple [.Name z pz, .Name u pu] kt2 pt2] kt pt] e X.env = pure none := by rfl) :
    AS X o0 o (.Assign [.Tuple [.Tuple [.Name x px, .Name y py] kt1 pt1, .Tuple [.Name z pz, .Name u pu] kt2 pt2] kt pt] e pos :: rest) D ds k H0 := fun st H S hk e0 fr =>
  wb_cons (wss (ps_asg pe_w (pg_tup hc (pgs_cons (pg_tup hc (pgs_cons (pg_name hN hi hx hfx) (pgs_cons (pg_name hN hj hy hfy) pgs_nil))) (pgs_cons (pg_tup hc (pgs_cons (pg_name hN hl hz hfz) (pgs_cons (pg_name hN hm hu hfu) pgs_nil))) pgs_nil))) hs hw) (h st H _ S hk fun d k1 v H1 hr e1 hk1 h1 => by
    obtain ⟨d1, d2, d3, d4, rfl, hy⟩ := hr
    obtain ⟨a, xs, rfl, hsq, hd⟩ := h1.untup
    match xs, hd with
    | [v1, v2], hd =>
      obtain ⟨a1, ys, rfl, hs1, hd1⟩ := (hd.2 0 _ _ rfl rfl).untup
      obtain ⟨a2, zs, rfl, hs2, hd2⟩ := (hd.2 1 _ _ rfl rfl).untup
      match ys, hd1, zs, hd2 with
      | [u1, u2], hd1, [u3, u4], hd2 =>
        exact ⟨a, _, rfl, hsq, rfl, _, _, rfl, ⟨a1, _, rfl, hs1, rfl, u1, _, rfl, u2, _, rfl, rfl, _, _, rfl, ⟨a2, _, rfl, hs2, rfl, u3, _, rfl, u4, _, rfl, rfl, rfl, hy _ H1 (((((S.kp e1 hk).set (.v (hd1.2 0 _ _ rfl rfl))).set (.v (hd1.2 1 _ _ rfl rfl))).set (.v (hd2.2 0 _ _ rfl rfl))).set (.v (hd2.2 1 _ _ rfl rfl))) hk1 (fr.kp e0 e1) fr⟩⟩⟩))
end
end Wz

set_option Elab.async false
set_option linter.all false
set_option maxRecDepth 100000
set_option maxHeartbeats 4000000
namespace Wz
open PySem PySem.Spec PyProof.Rows L2 Evl RZ
/-! x in t, t a tuple of data -/
def rInDT (K : PySem.W.Frag) : R2 := fun x y H Q => ∃ d ds, Dp K H x d ∧ Dp K H y (.tuple ds) ∧ SeqAt.shaped d = true ∧ SeqAt.shaped (.tuple ds) = true ∧ Q (.bl (ds.any fun z => PyData.eqv z d)) H
theorem op_inDT {X : Cx} (hu : X.A.units + 65 < cLine) : OpR X (compareOp .In) (rInDT X.K) := by
  intro pins s σ H x y v u Q I rx ry h
  obtain ⟨d, ds, hd, he, sd, se, q⟩ := h
  obtain ⟨as, r1⟩ := Dp.reads I d x v hd rx
  obtain ⟨bs, r2⟩ := Dp.reads I (.tuple ds) y u he ry
  exact SeqAt.in_tuple_reads r2 r1 (SeqAt.canLay_of_shaped se) (SeqAt.canLay_of_shaped sd) (room_in_shaped sd hu) ⟨.bl _, H, I, rfl, q⟩
section
variable {X : Cx} {o0 o : Os} {ds : List (Option Dat)} {k k1 k2 : Cs} {e c a b elt e1 e2 e3 : Expr} {es : List Expr} {d : Dat} {as : List Dat} {pos pos' pos2 p p1 p2 p3 : Pos} {rest body orelse : List Stmt} {D : Ends} {H0 : Hp} {R : Dat → Cs → Prop} {RT : Bool → Cs → Prop} {RN : List Dat → Cs → Prop} {x : Str} {scope : Scope} {j : Nat}
theorem c_inDT (hu : X.A.units + 65 < cLine) (h : EvC X o a ds k fun x k1 => EvC X o b ds k1 fun y k2 => onT y fun as => eqOk x (.tup as) ∧ R (.bl ((pd.pds as).any fun z => PyData.eqv z (pd x))) k2) (hm : behindInMarks .In b = false := by rfl) : EvC X o (.Compare a [.In] [b] pos) ds k R := fun st H Q S hk q =>
  we (pe_cmpR (op_inDT hu) pe_w pe_w hm) (h st H _ S hk fun x k1 v H1 hx e1 hk1 h1 => hx st H1 _ (S.kp e1 hk) hk1 fun y k2 w H2 hy e2 hk2 h2 => by
    obtain ⟨as, rfl, ⟨⟨n1, n2⟩, s1, s2⟩, hr⟩ := onT_ex hy
    exact ⟨_, _, ((h1.kp e2 hk1).unc (noR_noC n1)).dp n1, (h2.unc rfl).dp n2, s1, s2, q _ k2 _ H2 hr (e1.trans e2) hk2 (.v (.bl _))⟩)
/-! unpacking a list -/
theorem as_unpL2 {i j : Nat} {x y : Str} {px py pt : Pos} {kt : Nat} (hN : X.N.Nodup) (hc : X.calm = true) (h : EvC X o e ds k fun d k1 => onL k1 d fun as => ∃ d1 d2, as = [d1, d2] ∧ AS X o0 o rest D ((ds.set i (some d1)).set j (some d2)) k1 H0)
    (hi : X.N[i]? = some x := by rfl) (hj : X.N[j]? = some y := by rfl) (hx : Loc X.env.scope x := by exact Or.inl rfl) (hy : Loc X.env.scope y := by exact Or.inl rfl) (hfx : X.fn x = true ∨ X.env.scope.names.lookup x = some .local := by exact .inl rfl) (hfy : X.fn y = true ∨ X.env.scope.names.lookup y = some .local := by exact .inl rfl)
    (hs : swapsWithSole [.Tuple [.Name x px, .Name y py] kt pt] e pos.line X.env = pure false := by rfl) (hw : swappedStores [.Tuple [.Name x px, .Name y py] kt pt] e X.env = pure none := by rfl) :
    AS X o0 o (.Assign [.Tuple [.Name x px, .Name y py] kt pt] e pos :: rest) D ds k H0 := fun st H S hk e0 fr =>
  wb_cons (wss (ps_asg pe_w (pg_unl hc (pgs_cons (pg_name hN hi hx hfx) (pgs_cons (pg_name hN hj hy hfy) pgs_nil))) hs hw) (h st H _ S hk fun d k1 v H1 hr e1 hk1 h1 => by
    obtain ⟨a, xs, as, rfl, hsq, hd, hz⟩ := onL_ex hk1 hr h1
    obtain ⟨d1, d2, rfl, hy⟩ := hz
    match xs, hd with
    | [v1, v2], hd =>
      exact ⟨a, _, rfl, hsq, rfl, v1, _, rfl, v2, _, rfl, rfl, hy _ H1 (((S.kp e1 hk).set (.v (hd.2 0 _ _ rfl rfl))).set (.v (hd.2 1 _ _ rfl rfl))) hk1 (fr.kp e0 e1) fr⟩))
/-! {2: .., 3: .., 5: ..}[i] -/
theorem tm_dk {K : PySem.W.Frag} {H : Hp} {p : Addr} {xs ys : List (Key × V)} (h : H p = some (.dK xs)) : ∀ b zs, SqT K H b zs → SqT K (upd H p (.dK ys)) b zs := fun b zs s => by
  rcases s with s | s
  · rcases s with s | ⟨o, s⟩
    · by_cases e : b = p
      · rw [e, h] at s; cases s
      · exact .inl (.inl (by rw [upd_ne e]; exact s))
    · by_cases e : b = p
      · rw [e, h] at s; cases s
      · exact .inl (.inr ⟨o, by rw [upd_ne e]; exact s⟩)
  · exact .inr s
def pick (d1 d2 d3 : Dat) (i : Int) : Dat := if i = 2 then d1 else if i = 3 then d2 else d3
theorem kv_one (i : Int) (v1 v2 v3 : V) (hi : i = 2 ∨ i = 3 ∨ i = 5) : valV (mergeK ([] : List (Key × V)) [(.inl 2, v1), (.inl 3, v2), (.inl 5, v3)]) (.inl i) = some (if i = 2 then v1 else if i = 3 then v2 else v3) := by
  rcases hi with rfl | rfl | rfl <;> rfl
/-- lists at no place but those that stand -/
theorem DV.dict {K : PySem.W.Frag} {H : Hp} {p : Addr} {v : V} {d : Dat} {xs ys : List (Key × V)} (h : H p = some (.dK xs)) (q : DV K o H v d) : DV K o (upd H p (.dK ys)) v d := by
  induction q with
  | non => exact .non
  | bl b => exact .bl b
  | int i => exact .int i
  | str x => exact .str x
  | tup s l _ ih => exact .tup (tm_dk h _ _ s) l ih
  | lst s l _ ih =>
    refine .lst ?_ l ih
    rcases s with ⟨s | ⟨ob, s⟩, n⟩ | s
    · exact .inl ⟨.inl (by rw [upd_ne (fun e => by rw [e, h] at s; cases s)]; exact s), n⟩
    · exact .inl ⟨.inr ⟨ob, by rw [upd_ne (fun e => by rw [e, h] at s; cases s)]; exact s⟩, n⟩
    · exact .inr s
  | raw v => exact .raw v
theorem c_disp3 {d1 d2 d3 : Dat} {j1 j2 j3 : Nat} (hu : X.A.units + 64 < cLine) (h1 : Ev X o e1 ds k d1 k) (h2 : Ev X o e2 ds k d2 k) (h3 : Ev X o e3 ds k d3 k) (n : noC d1 = true ∧ noC d2 = true ∧ noC d3 = true) (hb : EvC X o b ds k fun y k2 => onI y fun i => (i = 2 ∨ i = 3 ∨ i = 5) ∧ R (pick d1 d2 d3 i) k2) (hs : NoSl b := by exact fun _ _ => rfl) :
    EvC X o (.Subscript (.Dict [some (.Constant (.int 2) j1 p1), some (.Constant (.int 3) j2 p2), some (.Constant (.int 5) j3 p3)] [e1, e2, e3] pos) b pos2) ds k R := fun st H Q S hk q =>
  we (pe_dget (Nat.lt_of_le_of_lt (Nat.add_le_add_left (by decide : 1 ≤ 64) _) hu) (pe_disp (pps_cons pe_int pe_w (pps_cons pe_int pe_w (pps_cons pe_int pe_w pps_nil))) rfl rfl (by simp) (Nat.le_of_ble_eq_true rfl)) pe_w hs) (fun p np => by
    have ne := hk.ne np
    have k0 : Kp o H (upd H p (.dK [])) := Kp.of_ex (Ex.new np)
    have hk0 := hk.ex (Ex.new (o := .dK []) np)
    refine h1 (fun d k' => d = d1 ∧ k' = k) ⟨rfl, rfl⟩ st _ _ (S.kp k0 hk) hk0 fun d1' k1' v1 H1 r1 c1 hk1 g1 => ?_
    obtain ⟨rfl, rfl⟩ := r1
    refine h2 (fun d k' => d = d2 ∧ k' = k1') ⟨rfl, rfl⟩ st H1 _ (S.kp (k0.trans c1) hk) hk1 fun d2' k2' v2 H2 r2 c2 hk2 g2 => ?_
    obtain ⟨rfl, rfl⟩ := r2
    refine h3 (fun d k' => d = d3 ∧ k' = k2') ⟨rfl, rfl⟩ st H2 _ (S.kp ((k0.trans c1).trans c2) hk) hk2 fun d3' k3' v3 H3 r3 c3 hk3 g3 => ?_
    obtain ⟨rfl, rfl⟩ := r3
    have hp : H3 p = some (.dK []) := c3 p _ ne (c2 p _ ne (c1 p _ ne upd_same))
    refine ⟨hp, [(.inl 2, v1), (.inl 3, v2), (.inl 5, v3)], rfl, (by decide : 3 ≤ 15), ?_⟩
    have k3 : Kp o H (upd H3 p (.dK (mergeK [] [(.inl 2, v1), (.inl 3, v2), (.inl 5, v3)]))) := fun bb u nb hbb => by
      rw [upd_ne (ne_of_none hbb np)]
      exact (((k0.trans c1).trans c2).trans c3) bb u nb hbb
    have hk4 : DK X.K o k3' (upd H3 p (.dK (mergeK [] [(.inl 2, v1), (.inl 3, v2), (.inl 5, v3)]))) := by
      refine ⟨hk3.len, hk3.nd, hk3.nl, fun j a as ha hs => ?_⟩
      obtain ⟨xs, hx, hd⟩ := hk3.at_ j a as ha hs
      refine ⟨xs, ?_, ⟨hd.1, fun i v d ga gb => (hd.2 i v d ga gb).dict hp⟩⟩
      rw [upd_ne (fun z => ne (by rw [← z]; exact List.mem_of_getElem? ha))]
      exact hx
    refine hb st _ _ (S.kp k3 hk) hk4 fun y k5 v H5 hr c5 hk5 g5 => ?_
    obtain ⟨i, rfl, hi, hr⟩ := onI_ex hr
    have q5 := g5.unint
    subst q5
    have w1 := (((((g1.unc n.1).kp c2 hk1).kp c3 hk2).dict (ys := mergeK [] [(.inl 2, v1), (.inl 3, v2), (.inl 5, v3)]) hp).kp c5 hk4)
    have w2 := ((((g2.unc n.2.1).kp c3 hk2).dict (ys := mergeK [] [(.inl 2, v1), (.inl 3, v2), (.inl 5, v3)]) hp).kp c5 hk4)
    have w3 := (((g3.unc n.2.2).dict (ys := mergeK [] [(.inl 2, v1), (.inl 3, v2), (.inl 5, v3)]) hp).kp c5 hk4)
    refine ⟨p, _, rfl, .inl ⟨_, .inl i, .inl (c5 p _ ne upd_same), rfl, (kv_one i v1 v2 v3 hi).symm⟩, q _ k5 _ H5 hr (k3.trans c5) hk5 (.v ?_)⟩
    unfold pick
    split
    · exact w1
    · split
      · exact w2
      · exact w3)
theorem c_disp3I {i1 i2 i3 : Int} {j1 j2 j3 : Nat} (hu : X.A.units + 64 < cLine) (h1 : Ev X o e1 ds k (.int i1) k) (h2 : Ev X o e2 ds k (.int i2) k) (h3 : Ev X o e3 ds k (.int i3) k) (hb : EvC X o b ds k fun y k2 => onI y fun i => (i = 2 ∨ i = 3 ∨ i = 5) ∧ R (.int (if i = 2 then i1 else if i = 3 then i2 else i3)) k2) (hs : NoSl b := by exact fun _ _ => rfl) :
    EvC X o (.Subscript (.Dict [some (.Constant (.int 2) j1 p1), some (.Constant (.int 3) j2 p2), some (.Constant (.int 5) j3 p3)] [e1, e2, e3] pos) b pos2) ds k R :=
  c_disp3 hu h1 h2 h3 ⟨rfl, rfl, rfl⟩ (hb.mono fun y k2 hy => by
    obtain ⟨i, rfl, hi, hr⟩ := onI_ex hy
    refine ⟨hi, ?_⟩
    have e : pick (.int i1) (.int i2) (.int i3) i = .int (if i = 2 then i1 else if i = 3 then i2 else i3) := by
      unfold pick
      split
      · rfl
      · split <;> rfl
    rw [e]
    exact hr) hs
/-! [elt for x, y in zip(t, u)] -/
structure LcZ (X : Cx) (o : Os) (scope : Scope) (elt : Expr) (ds : List (Option Dat)) (i j : Nat) (as bs : List Dat) (W : Nat → List Dat → Cs → Prop) : Prop where
  turn : ∀ s H C cl fp l d1 d2 acc q, as[l]? = some d1 → bs[l]? = some d2 → W l acc q → EvC (BX X scope s H C cl fp) o elt ((ds.set i (some d1)).set j (some d2)) q fun y q' => noL y = true ∧ W (l + 1) (acc ++ [y]) q'
theorem walk_zipT {K : PySem.W.Frag} {a b : Addr} {xs ys : List V} {n : Nat} (hn : n = min xs.length ys.length) : Walk (ItzT K a b) n (fun H => SqT K H a xs ∧ SqT K H b ys) (YPair (fun i => xs[i]?) (fun i => ys[i]?)) := by
  subst hn
  refine ⟨fun i _ hi q => ?_, fun _ q => ⟨xs, ys, q.1, q.2, by omega⟩, fun i H v H' _ q y => ?_⟩
  · have h1 : i < xs.length := by omega
    have h2 : i < ys.length := by omega
    exact ⟨xs, ys, xs[i], ys[i], q.1, q.2, by simp [h1], by simp [h2]⟩
  · obtain ⟨T, x, z, h1, h2, h3, h4, h5⟩ := y
    exact ⟨T, x, z, h1, h2, h3, h4 xs q.1, h5 ys q.2⟩
/-! all([..]) -/
theorem bls_of {K : PySem.W.Frag} {H : Hp} {xs : List V} {bs : List Bool} (hd : DVs K o H xs (bs.map Dat.bl)) : xs = bs.map V.bl := by
  refine List.ext_getElem? fun j => ?_
  by_cases hj : j < xs.length
  · have hj2 : j < bs.length := by rw [hd.1, List.length_map] at hj; exact hj
    have q1 : (bs.map Dat.bl)[j]? = some (.bl bs[j]) := by rw [List.getElem?_map, List.getElem?_eq_getElem hj2]; rfl
    have q2 := hd.2 j _ _ (List.getElem?_eq_getElem hj) q1
    rw [List.getElem?_eq_getElem hj, List.getElem?_map, List.getElem?_eq_getElem hj2]
    generalize xs[j] = vv at q2
    cases q2
    rfl
  · have hj2 : ¬ j < bs.length := by rw [hd.1, List.length_map] at hj; exact hj
    rw [List.getElem?_eq_none (by omega), List.getElem?_eq_none (by rw [List.length_map]; omega)]
theorem c_all (hc : X.calm = true) (hm : X.mg "all" = none) (h : EvA X o [e] ds k fun as k1 => on1 as fun d => onL k1 d fun xs => ∃ bs : List Bool, xs = bs.map Dat.bl ∧ R (.bl (bs.all id)) k1) (hg : Gl X "all" := by rfl) (he : starEach [e] X.env = (false, eval e X.env) :: starEach [] X.env := by rfl) : EvC X o (.Call (.Name "all" p) [e] [] pos) ds k R :=
  c_bif (cr_all hc) hm (by decide +kernel) (h.mono fun as k1 ha vs H Q h1 hk q => by
    obtain ⟨d, rfl, ha⟩ := on1_ex ha
    obtain ⟨v, rfl, g1⟩ := dts1 h1
    obtain ⟨p, ys, xs, rfl, hs, hl, bs, rfl, ha⟩ := onL_ex hk ha g1
    have e := bls_of hl
    subst e
    exact ⟨p, bs, rfl, hs, q _ _ H ha (Ex.refl _) (.v (.bl _))⟩) hg (by decide) (by decide) he
theorem wipe2 {st : L2.St} {i j : Nat} {a b : V} (h : i ≠ j) : ((wipe st [i, j]).set i (some a)).set j (some b) = (st.set i (some a)).set j (some b) := by
  show ((((st.set j none).set i none).set i (some a)).set j (some b)) = _
  rw [List.set_set]
  have e : (st.set j none).set i (some a) = (st.set i (some a)).set j none := List.set_comm _ _ (Ne.symm h)
  rw [e, List.set_set]
theorem wipe2_back {st : L2.St} {i j : Nat} {a b : V} (h : i ≠ j) : wipe ((st.set i (some a)).set j (some b)) [i, j] = wipe st [i, j] := by
  show ((((st.set i (some a)).set j (some b)).set j none).set i none) = (st.set j none).set i none
  rw [List.set_set]
  have e : (st.set i (some a)).set j none = (st.set j none).set i (some a) := List.set_comm _ _ h
  rw [e, List.set_set]
theorem lc_turnZ {as bs : List Dat} {i j l : Nat} {W : Nat → List Dat → Cs → Prop} {H1 H' : Hp} {Dr T : Addr} {st : L2.St} {y1 y2 : V} {d1 d2 : Dat} {N2 : List Str} (hij : i ≠ j) (n1 : H1 Dr = none) (hk1 : DK X.K o k1 H1) (S1 : Sat X.K o st H1 ds) (L : LcZ X o scope elt ds i j as bs W) (hn : l < 10000) (ha : as[l]? = some d1) (hb : bs[l]? = some d2) (hy1 : DV X.K o H1 y1 d1) (hy2 : DV X.K o H1 y2 d2) (w : CvI X.K o H1 Dr W l H') (nT : H' T = none) :
    gTup X.K 2 (gCons (gName i) (gCons (gName j) gNil)) (.ref T) (wipe st [i, j]) (upd H' T (.tup [y1, y2])) fun σ2 H2 => wipe σ2 [i, j] = wipe st [i, j] ∧ tYes σ2 H2 fun b H3 => if b = true then bE X scope elt σ2 H3 fun y H4 => ∃ acc, H4 Dr = some (.lst acc) ∧ acc.length < sizeLine ∧ CvI X.K o H1 Dr W (l + 1) (upd H4 Dr (.lst (acc ++ [y]))) else CvI X.K o H1 Dr W (l + 1) H3 := by
  obtain ⟨w1, q, acc, vs, hW, hk', hD, hv, na, hl⟩ := w
  have eT : Ex H' (upd H' T (.tup [y1, y2])) := Ex.new nT
  have w2 : Kp o H1 (upd H' T (.tup [y1, y2])) := w1.trans (Kp.of_ex eT)
  have hk2 := hk'.ex eT
  have S2 : Sat X.K o ((st.set i (some y1)).set j (some y2)) (upd H' T (.tup [y1, y2])) ((ds.set i (some d1)).set j (some d2)) := ((S1.kp w2 hk1).set (.v (hy1.kp w2 hk1))).set (.v (hy2.kp w2 hk1))
  refine ⟨T, [y1, y2], rfl, .inl (.inl upd_same), rfl, y1, [y2], rfl, y2, [], rfl, rfl, ?_⟩
  rw [wipe2 hij]
  refine ⟨wipe2_back hij, ?_⟩
  simp only [tYes, if_true]
  exact fun s0 H0 C cl fp => L.turn s0 H0 C cl fp l d1 d2 acc q ha hb hW _ _ _ S2 hk2 fun z q' u H4 hr e4 hk4 hu => cv_step n1 hk1 hn w2 hk2 (eT _ _ hD) (hv.kp (Kp.of_ex eT) hk') na hl e4 hk4 hu hr.1 hr.2
/-- two tuples, or two lists that are no cells, of one length -/
theorem n_lcZ {y : Str} {i j : Nat} {p4 p5 : Pos} {kk : Nat} (hij : i ≠ j) (hcalm : X.calm = true) (hN : X.N.Nodup) (hm : X.mg "zip" = none) (hok : BlkOk X.N X.env.scope scope [(x, i), (y, j)])
    (hgn : ∀ s H C cl fp, PG (BX X scope s H C cl fp) (.Tuple [.Name x p1, .Name y p2] kk p3) (gTup X.K 2 (gCons (gName i) (gCons (gName j) gNil))))
    (h : EvA X o [a, b] ds k fun as k1 => on2 as fun d1 d2 => ∃ as bs, (d1 = .tup as ∧ d2 = .tup bs ∨ d1 = .lst as ∧ d2 = .lst bs) ∧ as.length = bs.length ∧ as.length ≤ 10000 ∧ ∃ W, W 0 [] k1 ∧ LcZ X o scope elt ds i j as bs W ∧ ∀ acc q, W as.length acc q → acc.all noL = true → RN acc q) (hg : Gl X "zip" := by rfl)
    (hs : starEach [a, b] X.env = (false, eval a X.env) :: starEach [b] X.env := by rfl) (hpl : (backTo p5 (starEach [b] X.env)).any (·.1) = false := by rfl)
    (hset : ∀ y, foldedSetIterable (.Call (.Name "zip" p4) [a, b] [] p5) X.env y = pure y := by intro _; rfl) :
    EvN X o (.ListComp elt [⟨.Tuple [.Name x p1, .Name y p2] kk p3, .Call (.Name "zip" p4) [a, b] [] p5, [], 0⟩] scope pos) ds k RN := fun st H Q S hk q =>
  we (pe_lc (own := [(x, i), (y, j)]) (g := gTup X.K 2 (gCons (gName i) (gCons (gName j) gNil))) (tt := tYes) (te := bE X scope elt) hcalm hN (pi_zipA hg hm pa_w hs hpl) hok hgn
    (fun s0 H0 C cl fp => pts_nil) (fun s0 H0 C cl fp => ⟨fun pins s st H Q I h => h s0 H0 C cl fp pins s I⟩) hset) (h st H _ S hk fun as0 k1 vs H1 hr e1 hk1 h1 => by
    obtain ⟨d1, d2, rfl, as, bs, hd12, hl, hn, W, h0, L, hd⟩ := on2_ex hr
    obtain ⟨v1, v2, rfl, g1, g2⟩ := dts2 h1
    have fin : ∀ (Dr : Addr) (nD : H1 Dr = none) (H' : Hp), CvI X.K o H1 Dr W as.length H' → Q (.ref Dr) H' := fun Dr nD H' w => by
      obtain ⟨w1, q', acc, vs, hW, hk', hD, hv, na, hl⟩ := w
      exact q acc q' Dr vs H' (hd acc q' hW na) (fresh_back e1 hk1 nD) (e1.trans w1) hk' hD hv
    rcases hd12 with ⟨rfl, rfl⟩ | ⟨rfl, rfl⟩
    · obtain ⟨t, xs, rfl, hs, hdv⟩ := g1.untup
      obtain ⟨t2, ys, rfl, hs2, hdv2⟩ := g2.untup
      refine ⟨t, t2, xs, ys, rfl, .inr ⟨hs, hs2, fun Dr nD => ?_⟩⟩
      refine lc_it (walk_zipT (xs := xs) (ys := ys) (n := as.length) (by rw [hdv.1, hdv2.1, ← hl]; omega)) (g := gTup X.K 2 (gCons (gName i) (gCons (gName j) gNil))) (tt := tYes) (te := bE X scope elt) (vs := [i, j]) (σ := st) (Qd := fun H' => Q (.ref Dr) H') (CvI X.K o H1 Dr W) (cv_start nD hk1 h0) (fun l H' _ w => ⟨kp_t w.1 hk1 hs, kp_t w.1 hk1 hs2⟩) (fun l v H' H'' hi w yy => ?_) (fin Dr nD)
      obtain ⟨T, y1, y2, rfl, nT, rfl, hy1, hy2⟩ := yy
      have hda : as[l]? = some as[l] := List.getElem?_eq_getElem hi
      have hdb : bs[l]? = some (bs[l]'(by omega)) := List.getElem?_eq_getElem _
      exact lc_turnZ (N2 := []) hij nD hk1 (S.kp e1 hk) L (by omega) hda hdb (hdv.2 l y1 _ hy1 hda) (hdv2.2 l y2 _ hy2 hdb) w nT
    · obtain ⟨t, xs, rfl, hs, hdv⟩ := g1.unlst
      obtain ⟨t2, ys, rfl, hs2, hdv2⟩ := g2.unlst
      refine ⟨t, t2, xs, ys, rfl, .inl ⟨hs.sq, hs2.sq, fun Dr nD => ?_⟩⟩
      refine lc_it (walk_zip (xs := xs) (ys := ys) (n := as.length) (by rw [hdv.1, hdv2.1, ← hl]; omega)) (g := gTup X.K 2 (gCons (gName i) (gCons (gName j) gNil))) (tt := tYes) (te := bE X scope elt) (vs := [i, j]) (σ := st) (Qd := fun H' => Q (.ref Dr) H') (CvI X.K o H1 Dr W) (cv_start nD hk1 h0) (fun l H' _ w => ⟨(hs.kp w.1 fun _ z => z).sq, (hs2.kp w.1 fun _ z => z).sq⟩) (fun l v H' H'' hi w yy => ?_) (fin Dr nD)
      obtain ⟨T, y1, y2, rfl, nT, rfl, hy1, hy2⟩ := yy
      have hda : as[l]? = some as[l] := List.getElem?_eq_getElem hi
      have hdb : bs[l]? = some (bs[l]'(by omega)) := List.getElem?_eq_getElem _
      exact lc_turnZ (N2 := []) hij nD hk1 (S.kp e1 hk) L (by omega) hda hdb (hdv.2 l y1 _ hy1 hda) (hdv2.2 l y2 _ hy2 hdb) w nT)
end
end Wz

set_option Elab.async false
set_option linter.all false
set_option maxRecDepth 100000
set_option maxHeartbeats 4000000
namespace Wz
open PySem PySem.Spec PyProof.Rows L2 Evl RZ
/-! ### sizes of ints -/
def Bd (n : Nat) (i : Int) : Prop := i.natAbs < 2 ^ n
theorem Bd.mono {n m : Nat} {i : Int} (h : Bd n i) (l : n ≤ m) : Bd m i := Nat.lt_of_lt_of_le h (Nat.pow_le_pow_right (by decide) l)
theorem Bd.mul {n m : Nat} {i j : Int} (h : Bd n i) (g : Bd m j) : Bd (n + m) (i * j) := wide_lt h g
theorem pow2_le {n m : Nat} (h : n ≤ m) : 2 ^ n ≤ 2 ^ m := Nat.pow_le_pow_right (by decide) h
theorem Bd.add {n m : Nat} {i j : Int} (h : Bd n i) (g : Bd m j) : Bd (max n m + 1) (i + j) := by
  have h1 : i.natAbs < 2 ^ n := h
  have h2 : j.natAbs < 2 ^ m := g
  have q1 := pow2_le (n := n) (m := max n m) (Nat.le_max_left _ _)
  have q2 := pow2_le (n := m) (m := max n m) (Nat.le_max_right _ _)
  have q3 : 2 ^ (max n m + 1) = 2 * 2 ^ (max n m) := by rw [Nat.pow_succ]; omega
  show (i + j).natAbs < _
  rw [q3]
  omega
theorem Bd.neg {n : Nat} {i : Int} (h : Bd n i) : Bd n (-i) := by
  show (-i).natAbs < _
  rw [Int.natAbs_neg]
  exact h
theorem Bd.sub {n m : Nat} {i j : Int} (h : Bd n i) (g : Bd m j) : Bd (max n m + 1) (i - j) := by
  rw [Int.sub_eq_add_neg]
  exact h.add g.neg
theorem Bd.z : Bd 0 0 := (by decide : (0 : Int).natAbs < 2 ^ 0)
theorem Bd.of (i : Int) : Bd (i.natAbs.log2 + 1) i := Nat.lt_log2_self
theorem Bd.pow {n : Nat} {i : Int} (h : Bd n i) (m : Nat) : Bd (n * m + 1) (i ^ m) := by
  induction m with
  | zero =>
    rw [Int.pow_zero, Nat.mul_zero]
    exact (by decide : (1 : Int).natAbs < 2 ^ (0 + 1))
  | succ m ih =>
    rw [Int.pow_succ]
    exact (ih.mul h).mono (by rw [Nat.mul_succ]; omega)
theorem Bd.ite {n m : Nat} {i j : Int} {c : Prop} [Decidable c] (h : Bd n i) (g : Bd m j) : Bd (max n m) (if c then i else j) := by
  split
  · exact h.mono (Nat.le_max_left _ _)
  · exact g.mono (Nat.le_max_right _ _)
theorem Bd.rng {n : Nat} {i : Int} (h1 : -(2 ^ n : Int) < i) (h2 : i < 2 ^ n) : Bd n i := by
  show i.natAbs < 2 ^ n
  have e : ((2 ^ n : Nat) : Int) = (2 : Int) ^ n := by simp
  omega
theorem cm {n m : Nat} {i j : Int} (h : Bd n i) (g : Bd m j) (l : n + m + 2 ≤ 1000000) : CMulW i j := wide_mul (h.mono (Nat.le_succ n)) (g.mono (Nat.le_succ m)) (Nat.succ_pos _) (Nat.succ_pos _) (by omega)
theorem cdx {n : Nat} {i j : Int} (h0 : j ≠ 0) (h : Bd n j) (l : n + 1 ≤ 9000) : CDivX i j := ⟨h0, Nat.lt_of_lt_of_le (PySem.Flt.log2_lt_of (Nat.succ_pos n) (h.mono (Nat.le_succ n))) l⟩
theorem cdw {n : Nat} {i j : Int} (h0 : 0 < j) (h : Bd n j) (l : n + 1 ≤ 9000) : CDivW i j := ⟨h0, Nat.lt_of_lt_of_le (PySem.Flt.log2_lt_of (Nat.succ_pos n) (h.mono (Nat.le_succ n))) l⟩
def CPowW (i j : Int) : Prop := 0 ≤ j ∧ (PySem.Builtin.Int.intBits i : Int) * j ≤ 2 ^ 27
theorem cpw {n : Nat} {i j : Int} (h0 : 0 ≤ j) (h : Bd n i) (l : ((n + 2 : Nat) : Int) * j ≤ 2 ^ 27) : CPowW i j := by
  refine ⟨h0, Int.le_trans (Int.mul_le_mul_of_nonneg_right (Int.ofNat_le.mpr ?_) h0) l⟩
  have h1 : i.natAbs.log2 < n + 1 := PySem.Flt.log2_lt_of (Nat.succ_pos n) (h.mono (Nat.le_succ n))
  unfold PySem.Builtin.Int.intBits
  split <;> omega
section
variable {X : Cx} {o0 o : Os} {ds : List (Option Dat)} {k k1 k2 : Cs} {e c a b elt e1 e2 e3 : Expr} {es : List Expr} {d : Dat} {as : List Dat} {pos pos' pos2 p p1 p2 p3 : Pos} {rest body orelse : List Stmt} {D : Ends} {H0 : Hp} {R : Dat → Cs → Prop} {RT : Bool → Cs → Prop} {RN : List Dat → Cs → Prop} {x : Str} {scope : Scope} {j : Nat}
@[reducible] def onO (x : Option Dat) (C : Dat → Prop) : Prop := match x with | some d => C d | none => False
theorem onO_ex {x : Option Dat} {C : Dat → Prop} (h : onO x C) : ∃ d, x = some d ∧ C d := by
  cases x with
  | none => exact h.elim
  | some d => exact ⟨d, rfl, h⟩
theorem op_powW : OpR X (binaryOp .Pow) (rI CPowW fun i j => .int (i ^ j.toNat)) := opI fun _ _ _ _ _ _ _ hc q => pow_int hc.1 hc.2 q
theorem c_powW (h : EvC X o a ds k fun x k1 => EvC X o b ds k1 fun y k2 => onI x fun i => onI y fun j => CPowW i j ∧ R (.int (i ^ j.toNat)) k2) : EvC X o (.BinOp a .Pow b pos) ds k R := c_opI op_powW (fun _ _ _ => .v (.int _)) h
/-- one factor is small -/
theorem c_mulS (h : EvC X o a ds k fun x k1 => EvC X o b ds k1 fun y k2 => onI x fun i => onI y fun j => CMul i j ∧ R (.int (i * j)) k2) : EvC X o (.BinOp a .Mult b pos) ds k R := c_opI op_mul (fun _ _ _ => .v (.int _)) h
/-- a test that is a call's answer -/
theorem t_valB (h : EvC X o e ds k fun x k1 => onB x fun z => (z = true → RT true k1) ∧ (z = false → RT false k1)) (he : ∀ whole, isTrue e X.env whole = (do let v ← whole; standAt e.pos; holding [v] (truthy v)) := by intro _; rfl) : EvT X o e ds k RT :=
  t_val (h.mono fun x k1 hx => by
    obtain ⟨z, rfl, hx⟩ := onB_ex hx
    cases z with
    | true => exact hx.1 rfl
    | false => exact hx.2 rfl) he
theorem c_andB {rest : List Expr} (h : EvC X o a ds k fun x k1 => onB x fun z => (z = true → EvC X o (.BoolOp .And (b :: rest) pos) ds k1 R) ∧ (z = false → R (.bl false) k1)) : EvC X o (.BoolOp .And (a :: b :: rest) pos) ds k R :=
  c_and (h.mono fun x k1 hx => by
    obtain ⟨z, rfl, hx⟩ := onB_ex hx
    cases z with
    | true => exact hx.1 rfl
    | false => exact hx.2 rfl)
theorem c_orB {rest : List Expr} (h : EvC X o a ds k fun x k1 => onB x fun z => (z = false → EvC X o (.BoolOp .Or (b :: rest) pos) ds k1 R) ∧ (z = true → R (.bl true) k1)) : EvC X o (.BoolOp .Or (a :: b :: rest) pos) ds k R :=
  c_or (h.mono fun x k1 hx => by
    obtain ⟨z, rfl, hx⟩ := onB_ex hx
    cases z with
    | true => exact hx.2 rfl
    | false => exact hx.1 rfl)
/-- t[i], xs[i] at a place that is written -/
theorem c_ixTn (h : EvC X o a ds k fun x k1 => EvC X o b ds k1 fun y k2 => onT x fun as => onI y fun i => onO as[i.toNat]? fun d => 0 ≤ i ∧ R d k2) (hp : PlainIx b := by exact fun _ _ => rfl) : EvC X o (.Subscript a b pos) ds k R :=
  c_ixT (h.mono fun x k1 hx => hx.mono fun y k2 hy => by
    obtain ⟨as, rfl, hz⟩ := onT_ex hy
    obtain ⟨i, rfl, hz⟩ := onI_ex hz
    obtain ⟨d, hd, hz⟩ := onO_ex hz
    exact ⟨i.toNat, d, by omega, hd, hz.2⟩) hp
theorem c_ixLn (h : EvC X o a ds k fun x k1 => EvC X o b ds k1 fun y k2 => onL k2 x fun as => onI y fun i => onO as[i.toNat]? fun d => 0 ≤ i ∧ R d k2) (hp : PlainIx b := by exact fun _ _ => rfl) : EvC X o (.Subscript a b pos) ds k R :=
  c_ixL (h.mono fun x k1 hx => hx.mono fun y k2 hy => by
    have key : ∀ as, (onI y fun i => onO as[i.toNat]? fun d => 0 ≤ i ∧ R d k2) → onI y fun i => onAt as i fun d => R d k2 := fun as hz => by
      obtain ⟨i, rfl, hz⟩ := onI_ex hz
      obtain ⟨d, hd, hz⟩ := onO_ex hz
      exact ⟨i.toNat, d, by omega, hd, hz.2⟩
    cases x with
    | lst as => exact key as hy
    | cel i =>
      cases hi : k2[i]? with
      | none => simp only [onL, hi] at hy
      | some as =>
        simp only [onL, hi] at hy ⊢
        exact key as hy
    | _ => exact hy.elim) hp
/-- x = [.. for ..]: a new cell -/
theorem as_asgLc {i : Nat} {y : Str} {py : Pos} {tg iter : Expr} {ifs : List Expr} {spos : Pos} (hN : X.N.Nodup) : True := trivial
end
end Wz

set_option Elab.async false
set_option linter.all false
set_option maxRecDepth 100000
set_option maxHeartbeats 4000000
namespace Wz
open PySem PySem.Spec PyProof.Rows L2 Evl RZ
section
variable {X : Cx} {o0 o : Os} {ds : List (Option Dat)} {k k1 k2 : Cs} {e c a b elt e1 e2 e3 : Expr} {es : List Expr} {d : Dat} {as : List Dat} {pos pos' pos2 p p1 p2 p3 : Pos} {rest body orelse : List Stmt} {D : Ends} {H0 : Hp} {R : Dat → Cs → Prop} {RT : Bool → Cs → Prop} {RN : List Dat → Cs → Prop} {x : Str} {scope : Scope} {j : Nat}
theorem as_unp4 {i j l m : Nat} {x y z u : Str} {px py pz pu pt : Pos} {kt : Nat} (hN : X.N.Nodup) (hc : X.calm = true) (h : EvC X o e ds k fun d k1 => onT d fun as => ∃ d1 d2 d3 d4, as = [d1, d2, d3, d4] ∧ AS X o0 o rest D ((((ds.set i (some d1)).set j (some d2)).set l (some d3)).set m (some d4)) k1 H0)
    (hi : X.N[i]? = some x := by rfl) (hj : X.N[j]? = some y := by rfl) (hl : X.N[l]? = some z := by rfl) (hm : X.N[m]? = some u := by rfl) (hx : Loc X.env.scope x := by exact Or.inl rfl) (hy : Loc X.env.scope y := by exact Or.inl rfl) (hz : Loc X.env.scope z := by exact Or.inl rfl) (hu : Loc X.env.scope u := by exact Or.inl rfl)
    (hfx : X.fn x = true ∨ X.env.scope.names.lookup x = some .local := by exact .inl rfl) (hfy : X.fn y = true ∨ X.env.scope.names.lookup y = some .local := by exact .inl rfl) (hfz : X.fn z = true ∨ X.env.scope.names.lookup z = some .local := by exact .inl rfl) (hfu : X.fn u = true ∨ X.env.scope.names.lookup u = some .local := by exact .inl rfl)
    (hs : swapsWithSole [.Tuple [.Name x px, .Name y py, .Name z pz, .Name u pu] kt pt] e pos.line X.env = pure false := by rfl) (hw : swappedStores [.Tuple [.Name x px, .Name y py, .Name z pz, .Name u pu] kt pt] e X.env = pure none := by rfl) :
    AS X o0 o (.Assign [.Tuple [.Name x px, .Name y py, .Name z pz, .Name u pu] kt pt] e pos :: rest) D ds k H0 := fun st H S hk e0 fr =>
  wb_cons (wss (ps_asg pe_w (pg_tup hc (pgs_cons (pg_name hN hi hx hfx) (pgs_cons (pg_name hN hj hy hfy) (pgs_cons (pg_name hN hl hz hfz) (pgs_cons (pg_name hN hm hu hfu) pgs_nil))))) hs hw) (h st H _ S hk fun d k1 v H1 hr e1 hk1 h1 => by
    obtain ⟨as, rfl, hz⟩ := onT_ex hr
    obtain ⟨d1, d2, d3, d4, rfl, hy⟩ := hz
    obtain ⟨a, xs, rfl, hsq, hd⟩ := h1.untup
    match xs, hd with
    | [v1, v2, v3, v4], hd =>
      exact ⟨a, _, rfl, hsq, rfl, v1, _, rfl, v2, _, rfl, v3, _, rfl, v4, _, rfl, rfl, hy _ H1 (((((S.kp e1 hk).set (.v (hd.2 0 _ _ rfl rfl))).set (.v (hd.2 1 _ _ rfl rfl))).set (.v (hd.2 2 _ _ rfl rfl))).set (.v (hd.2 3 _ _ rfl rfl))) hk1 (fr.kp e0 e1) fr⟩))
end
end Wz

set_option Elab.async false
set_option linter.all false
namespace Y29
open PySem Wz
/-! the mathematics of k29: signs, norms, units -/
theorem mod_sq (p : Int) (hp : p = 2 ∨ p = 3 ∨ p = 5) (x : Int) (h : (x * x) % p = 0) : x % p = 0 := by
  rcases hp with rfl | rfl | rfl
  · have : x % 2 = 0 ∨ x % 2 = 1 := by omega
    rcases this with q | q
    · exact q
    · rw [Int.mul_emod, q] at h; simp at h
  · have : x % 3 = 0 ∨ x % 3 = 1 ∨ x % 3 = 2 := by omega
    rcases this with q | q | q
    · exact q
    · rw [Int.mul_emod, q] at h; simp at h
    · rw [Int.mul_emod, q] at h; simp at h
  · have : x % 5 = 0 ∨ x % 5 = 1 ∨ x % 5 = 2 ∨ x % 5 = 3 ∨ x % 5 = 4 := by omega
    rcases this with q | q | q | q | q
    · exact q
    · rw [Int.mul_emod, q] at h; simp at h
    · rw [Int.mul_emod, q] at h; simp at h
    · rw [Int.mul_emod, q] at h; simp at h
    · rw [Int.mul_emod, q] at h; simp at h
theorem sq_irr (p : Int) (hp : p = 2 ∨ p = 3 ∨ p = 5) : ∀ (k : Nat) (x y : Int), y.natAbs < k → x * x = p * (y * y) → x = 0 ∧ y = 0 := by
  intro k
  induction k with
  | zero => intro x y h; omega
  | succ k ih =>
    intro x y hy h
    have hx : x % p = 0 := mod_sq p hp x (by rw [h, Int.mul_emod_right])
    obtain ⟨u, rfl⟩ := Int.dvd_of_emod_eq_zero hx
    have h2 : p * (u * u) = y * y := by
      have e : p * u * (p * u) = p * (p * (u * u)) := by grind
      rw [e] at h
      have p0 : p ≠ 0 := by omega
      exact Int.eq_of_mul_eq_mul_left p0 h
    have hy2 : y % p = 0 := mod_sq p hp y (by rw [← h2, Int.mul_emod_right])
    obtain ⟨v, rfl⟩ := Int.dvd_of_emod_eq_zero hy2
    by_cases hv : v = 0
    · subst hv
      have : u * u = 0 := by
        have e : p * (u * u) = 0 := by rw [h2]; simp
        rcases Int.mul_eq_zero.mp e with z | z
        · omega
        · exact z
      have hu : u = 0 := by rcases Int.mul_eq_zero.mp this with z | z <;> exact z
      subst hu
      simp
    · have lt : v.natAbs < k := by
        rw [Int.natAbs_mul] at hy
        have : 2 ≤ p.natAbs := by rcases hp with rfl | rfl | rfl <;> decide
        have q : 2 * v.natAbs ≤ p.natAbs * v.natAbs := Nat.mul_le_mul_right _ this
        omega
      have e : u * u = p * (v * v) := by
        have e1 : p * (u * u) = p * (p * (v * v)) := by rw [h2]; grind
        have p0 : p ≠ 0 := by omega
        exact Int.eq_of_mul_eq_mul_left p0 e1
      obtain ⟨h3, h4⟩ := ih u v lt e
      exact absurd h4 hv
def K3 (d : Int) : Prop := d = 2 ∨ d = 3 ∨ d = 5
theorem irr {d x y : Int} (hd : K3 d) (h : x * x = d * y * y) : x = 0 ∧ y = 0 := sq_irr d hd (y.natAbs + 1) x y (Nat.lt_succ_self _) (by rw [h, Int.mul_assoc])
/-- x + y times the root of d is above 0 -/
def Pq (d x y : Int) : Prop := (d * y * y < x * x ∧ 0 < x) ∨ (x * x < d * y * y ∧ 0 < y)
instance {d x y : Int} : Decidable (Pq d x y) := by unfold Pq; exact inferInstance
theorem sqn (x : Int) : 0 ≤ x * x := by
  rcases Int.le_total 0 x with h | h
  · exact Int.mul_nonneg h h
  · exact Int.mul_nonneg_of_nonpos_of_nonpos h h
theorem sqp {x : Int} (h : x ≠ 0) : 0 < x * x := by
  have := sqn x
  have : x * x ≠ 0 := fun z => h (by rcases Int.mul_eq_zero.mp z with q | q <;> exact q)
  omega
theorem dy {d y : Int} (hd : K3 d) : 0 ≤ d * y * y := by
  rw [Int.mul_assoc]
  exact Int.mul_nonneg (by rcases hd with rfl | rfl | rfl <;> decide) (sqn y)
/-- of squares -/
theorem lt_sq {a b : Int} (hb : 0 ≤ b) (h : a * a < b * b) : a < b := by
  refine Int.lt_of_not_ge fun z => ?_
  have := Int.mul_le_mul z z hb (by omega)
  omega
theorem pq_mul {d x y u v : Int} (hd : K3 d) (h : Pq d x y) (g : Pq d u v) : Pq d (x * u + d * y * v) (x * v + y * u) := by
  have d0 : 0 < d := by rcases hd with rfl | rfl | rfl <;> decide
  have en : (x * u + d * y * v) * (x * u + d * y * v) - d * (x * v + y * u) * (x * v + y * u) = (x * x - d * y * y) * (u * u - d * v * v) := by grind
  rcases h with ⟨h1, h2⟩ | ⟨h1, h2⟩
  · rcases g with ⟨g1, g2⟩ | ⟨g1, g2⟩
    · have p : 0 < (x * x - d * y * y) * (u * u - d * v * v) := Int.mul_pos (by omega) (by omega)
      refine .inl ⟨by omega, ?_⟩
      have hxu : 0 < x * u := Int.mul_pos h2 g2
      have q : (d * y * v) * (d * y * v) < (x * u) * (x * u) := by
        have e1 : (d * y * v) * (d * y * v) = (d * y * y) * (d * v * v) := by grind
        have e2 : (x * u) * (x * u) = (x * x) * (u * u) := by grind
        rw [e1, e2]
        have a1 := dy (d := d) (y := y) hd
        have a2 := dy (d := d) (y := v) hd
        have s1 : (d * y * y) * (d * v * v) ≤ (d * y * y) * (u * u) := Int.mul_le_mul_of_nonneg_left (by omega) a1
        have s2 : (d * y * y) * (u * u) < (x * x) * (u * u) := Int.mul_lt_mul_of_pos_right h1 (sqp (by omega))
        omega
      have q2 : (-(d * y * v)) * (-(d * y * v)) < (x * u) * (x * u) := by rw [Int.neg_mul_neg]; exact q
      have := lt_sq (by omega) q2
      omega
    · have p : (x * x - d * y * y) * (u * u - d * v * v) < 0 := Int.mul_neg_of_pos_of_neg (by omega) (by omega)
      refine .inr ⟨by omega, ?_⟩
      have hxv : 0 < x * v := Int.mul_pos h2 g2
      have q : (y * u) * (y * u) < (x * v) * (x * v) := by
        have e1 : d * ((y * u) * (y * u)) = (d * y * y) * (u * u) := by grind
        have e2 : d * ((x * v) * (x * v)) = (x * x) * (d * v * v) := by grind
        have s1 : (d * y * y) * (u * u) ≤ (x * x) * (u * u) := Int.mul_le_mul_of_nonneg_right (by omega) (sqn u)
        have s2 : (x * x) * (u * u) < (x * x) * (d * v * v) := Int.mul_lt_mul_of_pos_left g1 (sqp (by omega))
        refine Int.lt_of_mul_lt_mul_left (a := d) ?_ (by omega)
        rw [e1, e2]
        omega
      have q2 : (-(y * u)) * (-(y * u)) < (x * v) * (x * v) := by rw [Int.neg_mul_neg]; exact q
      have := lt_sq (by omega) q2
      omega
  · rcases g with ⟨g1, g2⟩ | ⟨g1, g2⟩
    · have p : (x * x - d * y * y) * (u * u - d * v * v) < 0 := Int.mul_neg_of_neg_of_pos (by omega) (by omega)
      refine .inr ⟨by omega, ?_⟩
      have hxv : 0 < y * u := Int.mul_pos h2 g2
      have q : (x * v) * (x * v) < (y * u) * (y * u) := by
        have e1 : d * ((y * u) * (y * u)) = (d * y * y) * (u * u) := by grind
        have e2 : d * ((x * v) * (x * v)) = (x * x) * (d * v * v) := by grind
        have s1 : (x * x) * (d * v * v) ≤ (x * x) * (u * u) := Int.mul_le_mul_of_nonneg_left (by omega) (sqn x)
        have s2 : (x * x) * (u * u) < (d * y * y) * (u * u) := Int.mul_lt_mul_of_pos_right h1 (sqp (by omega))
        refine Int.lt_of_mul_lt_mul_left (a := d) ?_ (by omega)
        rw [e1, e2]
        omega
      have q2 : (-(x * v)) * (-(x * v)) < (y * u) * (y * u) := by rw [Int.neg_mul_neg]; exact q
      have := lt_sq (by omega) q2
      omega
    · have p : 0 < (x * x - d * y * y) * (u * u - d * v * v) := Int.mul_pos_of_neg_of_neg (by omega) (by omega)
      refine .inl ⟨by omega, ?_⟩
      have hxu : 0 < d * y * v := Int.mul_pos (Int.mul_pos d0 h2) g2
      have q : (x * u) * (x * u) < (d * y * v) * (d * y * v) := by
        have e1 : (d * y * v) * (d * y * v) = (d * y * y) * (d * v * v) := by grind
        have e2 : (x * u) * (x * u) = (x * x) * (u * u) := by grind
        rw [e1, e2]
        have s1 : (x * x) * (u * u) ≤ (x * x) * (d * v * v) := Int.mul_le_mul_of_nonneg_left (by omega) (sqn x)
        have a2 : 0 < d * v * v := Int.mul_pos (Int.mul_pos d0 g2) g2
        have s2 : (x * x) * (d * v * v) < (d * y * y) * (d * v * v) := Int.mul_lt_mul_of_pos_right h1 a2
        omega
      have q2 : (-(x * u)) * (-(x * u)) < (d * y * v) * (d * y * v) := by rw [Int.neg_mul_neg]; exact q
      have := lt_sq (by omega) q2
      omega
theorem pq_two {d x y : Int} : Pq d (2 * x) (2 * y) ↔ Pq d x y := by
  unfold Pq
  have e1 : 2 * x * (2 * x) = 4 * (x * x) := by grind
  have e2 : d * (2 * y) * (2 * y) = 4 * (d * y * y) := by grind
  rw [e1, e2]
  omega
/-- the cases of the program -/
theorem pq_cases {d x y : Int} (hd : K3 d) : Pq d x y ↔ (0 ≤ x ∧ 0 ≤ y ∧ ¬ (x = 0 ∧ y = 0)) ∨ (¬ (0 ≤ x ∧ 0 ≤ y) ∧ ¬ (x ≤ 0 ∧ y ≤ 0) ∧ ((d * y * y < x * x ∧ 0 < x) ∨ (¬ d * y * y < x * x ∧ 0 < y))) := by
  have hi : x * x = d * y * y → x = 0 ∧ y = 0 := irr hd
  have hn := dy (d := d) (y := y) hd
  have hx := sqn x
  have d0 : 0 < d := by rcases hd with rfl | rfl | rfl <;> decide
  have y0 : y = 0 → d * y * y = 0 := fun e => by rw [e]; simp
  have x0 : x = 0 → x * x = 0 := fun e => by rw [e]; simp
  have hy : y ≠ 0 → 0 < d * y * y := fun e => by rw [Int.mul_assoc]; exact Int.mul_pos d0 (sqp e)
  have hx' : x ≠ 0 → 0 < x * x := sqp
  unfold Pq
  generalize d * y * y = A at *
  generalize x * x = B at *
  constructor
  · omega
  · omega
end Y29

set_option Elab.async false
set_option linter.all false
set_option maxRecDepth 100000
set_option maxHeartbeats 8000000
namespace Y29
open PySem PySem.Spec PyProof.Rows L2 Evl Wz
local macro_rules | `(tactic| walk_at "bd") => `(tactic| (repeat (first | assumption | apply Bd.mul | apply Bd.add | apply Bd.sub | apply Bd.neg | exact Bd.z | exact Bd.of _)))
local macro_rules | `(tactic| walk_at "bm") => `(tactic| (first | assumption | exact Bd.mono (by walk_at "bd") (by decide)))
local macro_rules | `(tactic| walk_at "b2") => `(tactic| (repeat (first | assumption | apply And.intro | walk_at "bm" | decide | omega)))
def topS (i : Nat) : Stmt := PySem.Challenge.pw_wholefloors_k29_whole_units_and_matrices.main.body.getD i (.Pass ⟨0, 0, 0, 0⟩)
abbrev Z2 := Int × Int
abbrev pD (z : Z2) : Dat := .tup [.int z.1, .int z.2]
def Kd (k : Int) : Prop := k = 2 ∨ k = 3 ∨ k = 5
theorem Kd.bd {k : Int} (h : Kd k) : Bd 3 k := by rcases h with rfl | rfl | rfl <;> (show Int.natAbs _ < 2 ^ 3; decide)
def mul (k : Int) (p q : Z2) : Z2 := if k = 5 then (p.1 * q.1 + p.2 * q.2, p.1 * q.2 + p.2 * q.1 + p.2 * q.2) else (p.1 * q.1 + k * p.2 * q.2, p.1 * q.2 + p.2 * q.1)
def mate (k : Int) (p : Z2) : Z2 := if k = 5 then (p.1 + p.2, -p.2) else (p.1, -p.2)
def nrm (k : Int) (p : Z2) : Int := if k = 5 then p.1 * p.1 + p.1 * p.2 - p.2 * p.2 else p.1 * p.1 - k * p.2 * p.2
abbrev B2 (n : Nat) (z : Z2) : Prop := Bd n z.1 ∧ Bd n z.2
section
variable {P : Program} {w : World} {K : PySem.W.Frag} {mg : Str → Option Value} {base : Heap}

/-! ### is_integer -/
abbrev s_is_integer : Stmt := topS 7
theorem sc_is_integer : FnScope ["told"] ["told"] (defScope s_is_integer) := ⟨rfl, rfl, rfl, by decide +kernel, rfl, by decide +kernel, by decide +kernel⟩
def F_is_integer : FP := fun ds Q => ∃ i, ds = [.int i] ∧ Q (.bl true)
theorem ok_is_integer {f : Addr} {fd : FuncData} (Fn : Fun K "is_integer" "is_integer" s_is_integer f fd) (m_isinstance : mg "isinstance" = none) (m_int : mg "int" = none) (m_bool : mg "bool" = none) : FnOk P w K mg base CX0 1 f fd ["told"] (spP K F_is_integer) := by
  refine fn_P Fn sc_is_integer (fun ds G h => ?_) (fun cdv A outer s H Q E ds G hr hF hQ => ?_)
  · obtain ⟨i, rfl, hG⟩ := h
    rfl
  · obtain ⟨i, rfl, hG⟩ := hF
    refine (as_ret hQ (c_and (c_isi (U := "int") m_isinstance (ca_cons (nm 0 rfl (ca_cons (c_ty (T := "int") m_int (by decide +kernel) (ca_nil ⟨rfl, _, true, rfl, (by decide +kernel), (c_one (c_not (c_isi (U := "bool") m_isinstance (ca_cons (nm 0 rfl (ca_cons (c_ty (T := "bool") m_bool (by decide +kernel) (ca_nil ⟨rfl, _, false, rfl, (by decide +kernel), (And.intro rfl ?h1)⟩))))))))⟩))))))))
    case h1 =>
      exact hG

/-! ### is_whole -/
abbrev s_is_whole : Stmt := topS 8
theorem sc_is_whole : FnScope ["told"] ["told"] (defScope s_is_whole) := ⟨rfl, rfl, rfl, by decide +kernel, rfl, by decide +kernel, by decide +kernel⟩
def F_is_whole : FP := fun ds Q => ∃ z, ds = [pD z] ∧ Q (.bl true)
theorem ok_is_whole {f : Addr} {fd : FuncData} (Fn : Fun K "is_whole" "is_whole" s_is_whole f fd) (c_is_integer : Cl P w K mg base 1 "is_integer" ["told"] (spP K F_is_integer)) (m_isinstance : mg "isinstance" = none) (m_tuple : mg "tuple" = none) (m_len : mg "len" = none) : FnOk P w K mg base CX0 2 f fd ["told"] (spP K F_is_whole) := by
  refine fn_P Fn sc_is_whole (fun ds G h => ?_) (fun cdv A outer s H Q E ds G hr hF hQ => ?_)
  · obtain ⟨z, rfl, hG⟩ := h
    rfl
  · obtain ⟨z, rfl, hG⟩ := hF
    refine (as_ret hQ (c_and (c_isi (U := "tuple") m_isinstance (ca_cons (nm 0 rfl (ca_cons (c_ty (T := "tuple") m_tuple (by decide +kernel) (ca_nil ⟨rfl, _, true, rfl, (by decide +kernel), (c_and (c_eqI (c_lenT m_len (ca_cons (nm 0 rfl (ca_nil (c_int (c_and (c_call c_is_integer (hr.mono (by decide)) (ca_cons (c_ixTn (nm 0 rfl (c_int (And.intro (by decide) (ca_nil ⟨_, rfl, And.intro rfl (c_one (c_call c_is_integer (hr.mono (by decide)) (ca_cons (c_ixTn (nm 0 rfl (c_int (And.intro (by decide) (ca_nil ⟨_, rfl, And.intro rfl (And.intro rfl ?h1)⟩))))))))⟩)))))))))))))))⟩))))))))
    case h1 =>
      exact hG

/-! ### is_kind -/
abbrev s_is_kind : Stmt := topS 9
theorem sc_is_kind : FnScope ["told"] ["told"] (defScope s_is_kind) := ⟨rfl, rfl, rfl, by decide +kernel, rfl, by decide +kernel, by decide +kernel⟩
def F_is_kind : FP := fun ds Q => ∃ k, ds = [.int k] ∧ Kd k ∧ Q (.bl true)
theorem ok_is_kind {f : Addr} {fd : FuncData} (Fn : Fun K "is_kind" "is_kind" s_is_kind f fd) (c_is_integer : Cl P w K mg base 1 "is_integer" ["told"] (spP K F_is_integer)) (t_KINDS : KT K mg "KINDS" [.int 2, .int 3, .int 5]) : FnOk P w K mg base CX0 2 f fd ["told"] (spP K F_is_kind) := by
  refine fn_P Fn sc_is_kind (fun ds G h => ?_) (fun cdv A outer s H Q E ds G hr hF hQ => ?_)
  · obtain ⟨k, rfl, hk, hG⟩ := h
    rfl
  · obtain ⟨k, rfl, hk, hG⟩ := hF
    refine (as_ret hQ (c_and (c_call c_is_integer (hr.mono (by decide)) (ca_cons (nm 0 rfl (ca_nil ⟨_, rfl, And.intro rfl (c_one (c_inI (is := [2, 3, 5]) (nm 0 rfl (c_kt t_KINDS (And.intro rfl (And.intro rfl ?h1))))))⟩))))))
    case h1 =>
      rw [show decide (k ∈ [2, 3, 5]) = true by rcases hk with rfl | rfl | rfl <;> decide]
      exact hG

/-! ### check_kind -/
abbrev s_check_kind : Stmt := topS 10
theorem sc_check_kind : FnScope ["kind"] ["kind"] (defScope s_check_kind) := ⟨rfl, rfl, rfl, by decide +kernel, rfl, by decide +kernel, by decide +kernel⟩
def F_check_kind : FP := fun ds Q => ∃ k, ds = [.int k] ∧ Kd k ∧ Q .non
theorem ok_check_kind {f : Addr} {fd : FuncData} (Fn : Fun K "check_kind" "check_kind" s_check_kind f fd) (c_is_kind : Cl P w K mg base 2 "is_kind" ["told"] (spP K F_is_kind)) : FnOk P w K mg base CX0 3 f fd ["kind"] (spP K F_check_kind) := by
  refine fn_P Fn sc_check_kind (fun ds G h => ?_) (fun cdv A outer s H Q E ds G hr hF hQ => ?_)
  · obtain ⟨k, rfl, hk, hG⟩ := h
    rfl
  · obtain ⟨k, rfl, hk, hG⟩ := hF
    refine (as_ifn (t_not (t_val (c_call c_is_kind (hr.mono (by decide)) (ca_cons (nm 0 rfl (ca_nil ⟨_, rfl, ?h1, And.intro rfl (as_nil fun _ H1 _ hk e0 _ => hQ .non _ .non H1 hG e0 hk .non)⟩)))))))
    case h1 =>
      assumption

/-! ### pair_sum -/
abbrev s_pair_sum : Stmt := topS 12
theorem sc_pair_sum : FnScope ["p", "q"] ["p", "q"] (defScope s_pair_sum) := ⟨rfl, rfl, rfl, by decide +kernel, rfl, by decide +kernel, by decide +kernel⟩
def F_pair_sum : FP := fun ds Q => ∃ p q, ds = [pD p, pD q] ∧ Q (pD (p.1 + q.1, p.2 + q.2))
theorem ok_pair_sum {f : Addr} {fd : FuncData} (Fn : Fun K "pair_sum" "pair_sum" s_pair_sum f fd)  : FnOk P w K mg base CX0 1 f fd ["p", "q"] (spP K F_pair_sum) := by
  refine fn_P Fn sc_pair_sum (fun ds G h => ?_) (fun cdv A outer s H Q E ds G hr hF hQ => ?_)
  · obtain ⟨p, q, rfl, hG⟩ := h
    rfl
  · obtain ⟨p, q, rfl, hG⟩ := hF
    refine (as_ret hQ (c_tup (ca_cons (c_add (c_ixTn (nm 0 rfl (c_int (And.intro (by decide) (c_ixTn (nm 1 rfl (c_int (And.intro (by decide) (ca_cons (c_add (c_ixTn (nm 0 rfl (c_int (And.intro (by decide) (c_ixTn (nm 1 rfl (c_int (And.intro (by decide) (ca_nil (And.intro (And.intro rfl (Nat.le_of_ble_eq_true rfl)) (And.intro rfl ?h1)))))))))))))))))))))))))
    case h1 =>
      exact hG

/-! ### pair_less -/
abbrev s_pair_less : Stmt := topS 13
theorem sc_pair_less : FnScope ["p", "q"] ["p", "q"] (defScope s_pair_less) := ⟨rfl, rfl, rfl, by decide +kernel, rfl, by decide +kernel, by decide +kernel⟩
def F_pair_less : FP := fun ds Q => ∃ p q, ds = [pD p, pD q] ∧ Q (pD (p.1 - q.1, p.2 - q.2))
theorem ok_pair_less {f : Addr} {fd : FuncData} (Fn : Fun K "pair_less" "pair_less" s_pair_less f fd)  : FnOk P w K mg base CX0 1 f fd ["p", "q"] (spP K F_pair_less) := by
  refine fn_P Fn sc_pair_less (fun ds G h => ?_) (fun cdv A outer s H Q E ds G hr hF hQ => ?_)
  · obtain ⟨p, q, rfl, hG⟩ := h
    rfl
  · obtain ⟨p, q, rfl, hG⟩ := hF
    refine (as_ret hQ (c_tup (ca_cons (c_sub (c_ixTn (nm 0 rfl (c_int (And.intro (by decide) (c_ixTn (nm 1 rfl (c_int (And.intro (by decide) (ca_cons (c_sub (c_ixTn (nm 0 rfl (c_int (And.intro (by decide) (c_ixTn (nm 1 rfl (c_int (And.intro (by decide) (ca_nil (And.intro (And.intro rfl (Nat.le_of_ble_eq_true rfl)) (And.intro rfl ?h1)))))))))))))))))))))))))
    case h1 =>
      exact hG

/-! ### pair_times -/
abbrev s_pair_times : Stmt := topS 14
theorem sc_pair_times : FnScope ["kind", "p", "q", "a", "b", "c", "d"] ["kind", "p", "q"] (defScope s_pair_times) := ⟨rfl, rfl, rfl, by decide +kernel, rfl, by decide +kernel, by decide +kernel⟩
def F_pair_times : FP := fun ds Q => ∃ k p q, ds = [.int k, pD p, pD q] ∧ (Kd k ∧ B2 4000 p ∧ B2 4000 q) ∧ Q (pD (mul k p q))
theorem ok_pair_times {f : Addr} {fd : FuncData} (Fn : Fun K "pair_times" "pair_times" s_pair_times f fd)  : FnOk P w K mg base CX0 1 f fd ["kind", "p", "q"] (spP K F_pair_times) := by
  refine fn_P Fn sc_pair_times (fun ds G h => ?_) (fun cdv A outer s H Q E ds G hr hF hQ => ?_)
  · obtain ⟨k, p, q, rfl, ⟨hk, ⟨hp1, hp2⟩, hq1, hq2⟩, hG⟩ := h
    rfl
  · obtain ⟨k, p, q, rfl, ⟨hk, ⟨hp1, hp2⟩, hq1, hq2⟩, hG⟩ := hF
    have hkb := hk.bd
    refine (as_unp2 (i := 3) (j := 4) sc_pair_times.nd rfl (nm 1 rfl ⟨_, _, rfl, (as_unp2 (i := 5) (j := 6) sc_pair_times.nd rfl (nm 2 rfl ⟨_, _, rfl, (as_ifn (t_eqI (nm 0 rfl (c_int (And.intro (fun b1 => (as_ret hQ (c_tup (ca_cons (c_add (c_mul (nm 3 rfl (nm 5 rfl (And.intro ?h1 (c_mul (nm 4 rfl (nm 6 rfl (And.intro ?h2 (ca_cons (c_add (c_add (c_mul (nm 3 rfl (nm 6 rfl (And.intro ?h3 (c_mul (nm 4 rfl (nm 5 rfl (And.intro ?h4 (c_mul (nm 4 rfl (nm 6 rfl (And.intro ?h5 (ca_nil (And.intro (And.intro rfl (Nat.le_of_ble_eq_true rfl)) (And.intro rfl ?h6))))))))))))))))))))))))))))))) (fun b1 => (as_ret hQ (c_tup (ca_cons (c_add (c_mul (nm 3 rfl (nm 5 rfl (And.intro ?h7 (c_mul (c_mul (nm 0 rfl (nm 4 rfl (And.intro ?h8 (nm 6 rfl (And.intro ?h9 (ca_cons (c_add (c_mul (nm 3 rfl (nm 6 rfl (And.intro ?h10 (c_mul (nm 4 rfl (nm 5 rfl (And.intro ?h11 (ca_nil (And.intro (And.intro rfl (Nat.le_of_ble_eq_true rfl)) (And.intro rfl ?h12))))))))))))))))))))))))))))))))))⟩))⟩))
    case h1 =>
      exact cm (by walk_at "bd") (by walk_at "bd") (by decide)
    case h2 =>
      exact cm (by walk_at "bd") (by walk_at "bd") (by decide)
    case h3 =>
      exact cm (by walk_at "bd") (by walk_at "bd") (by decide)
    case h4 =>
      exact cm (by walk_at "bd") (by walk_at "bd") (by decide)
    case h5 =>
      exact cm (by walk_at "bd") (by walk_at "bd") (by decide)
    case h6 =>
      first | (rw [show mul k p q = _ from if_pos b1] at hG; exact hG) | (rw [show mul k p q = _ from if_neg b1] at hG; exact hG)
    case h7 =>
      exact cm (by walk_at "bd") (by walk_at "bd") (by decide)
    case h8 =>
      exact cm (by walk_at "bd") (by walk_at "bd") (by decide)
    case h9 =>
      exact cm (by walk_at "bd") (by walk_at "bd") (by decide)
    case h10 =>
      exact cm (by walk_at "bd") (by walk_at "bd") (by decide)
    case h11 =>
      exact cm (by walk_at "bd") (by walk_at "bd") (by decide)
    case h12 =>
      first | (rw [show mul k p q = _ from if_pos b1] at hG; exact hG) | (rw [show mul k p q = _ from if_neg b1] at hG; exact hG)

/-! ### pair_mate -/
abbrev s_pair_mate : Stmt := topS 15
theorem sc_pair_mate : FnScope ["kind", "p", "a", "b"] ["kind", "p"] (defScope s_pair_mate) := ⟨rfl, rfl, rfl, by decide +kernel, rfl, by decide +kernel, by decide +kernel⟩
def F_pair_mate : FP := fun ds Q => ∃ k p, ds = [.int k, pD p] ∧ Q (pD (mate k p))
theorem ok_pair_mate {f : Addr} {fd : FuncData} (Fn : Fun K "pair_mate" "pair_mate" s_pair_mate f fd)  : FnOk P w K mg base CX0 1 f fd ["kind", "p"] (spP K F_pair_mate) := by
  refine fn_P Fn sc_pair_mate (fun ds G h => ?_) (fun cdv A outer s H Q E ds G hr hF hQ => ?_)
  · obtain ⟨k, p, rfl, hG⟩ := h
    rfl
  · obtain ⟨k, p, rfl, hG⟩ := hF
    refine (as_unp2 (i := 2) (j := 3) sc_pair_mate.nd rfl (nm 1 rfl ⟨_, _, rfl, (as_ifn (t_eqI (nm 0 rfl (c_int (And.intro (fun b1 => (as_ret hQ (c_tup (ca_cons (c_add (nm 2 rfl (nm 3 rfl (ca_cons (c_neg (nm 3 rfl (ca_nil (And.intro (And.intro rfl (Nat.le_of_ble_eq_true rfl)) (And.intro rfl ?h1))))))))))))) (fun b1 => (as_ret hQ (c_tup (ca_cons (nm 2 rfl (ca_cons (c_neg (nm 3 rfl (ca_nil (And.intro (And.intro rfl (Nat.le_of_ble_eq_true rfl)) (And.intro rfl ?h2))))))))))))))))⟩))
    case h1 =>
      first | (rw [show mate k p = _ from if_pos b1] at hG; exact hG) | (rw [show mate k p = _ from if_neg b1] at hG; exact hG)
    case h2 =>
      first | (rw [show mate k p = _ from if_pos b1] at hG; exact hG) | (rw [show mate k p = _ from if_neg b1] at hG; exact hG)

/-! ### pair_norm -/
abbrev s_pair_norm : Stmt := topS 16
theorem sc_pair_norm : FnScope ["kind", "p", "a", "b"] ["kind", "p"] (defScope s_pair_norm) := ⟨rfl, rfl, rfl, by decide +kernel, rfl, by decide +kernel, by decide +kernel⟩
def F_pair_norm : FP := fun ds Q => ∃ k p, ds = [.int k, pD p] ∧ (Kd k ∧ B2 4000 p) ∧ Q (.int (nrm k p))
theorem ok_pair_norm {f : Addr} {fd : FuncData} (Fn : Fun K "pair_norm" "pair_norm" s_pair_norm f fd)  : FnOk P w K mg base CX0 1 f fd ["kind", "p"] (spP K F_pair_norm) := by
  refine fn_P Fn sc_pair_norm (fun ds G h => ?_) (fun cdv A outer s H Q E ds G hr hF hQ => ?_)
  · obtain ⟨k, p, rfl, ⟨hk, hp1, hp2⟩, hG⟩ := h
    rfl
  · obtain ⟨k, p, rfl, ⟨hk, hp1, hp2⟩, hG⟩ := hF
    have hkb := hk.bd
    refine (as_unp2 (i := 2) (j := 3) sc_pair_norm.nd rfl (nm 1 rfl ⟨_, _, rfl, (as_ifn (t_eqI (nm 0 rfl (c_int (And.intro (fun b1 => (as_ret hQ (c_sub (c_add (c_mul (nm 2 rfl (nm 2 rfl (And.intro ?h1 (c_mul (nm 2 rfl (nm 3 rfl (And.intro ?h2 (c_mul (nm 3 rfl (nm 3 rfl (And.intro ?h3 (And.intro rfl ?h4))))))))))))))))) (fun b1 => (as_ret hQ (c_sub (c_mul (nm 2 rfl (nm 2 rfl (And.intro ?h5 (c_mul (c_mul (nm 0 rfl (nm 3 rfl (And.intro ?h6 (nm 3 rfl (And.intro ?h7 (And.intro rfl ?h8))))))))))))))))))))⟩))
    case h1 =>
      exact cm (by walk_at "bd") (by walk_at "bd") (by decide)
    case h2 =>
      exact cm (by walk_at "bd") (by walk_at "bd") (by decide)
    case h3 =>
      exact cm (by walk_at "bd") (by walk_at "bd") (by decide)
    case h4 =>
      first | (rw [show nrm k p = _ from if_pos b1] at hG; exact hG) | (rw [show nrm k p = _ from if_neg b1] at hG; exact hG)
    case h5 =>
      exact cm (by walk_at "bd") (by walk_at "bd") (by decide)
    case h6 =>
      exact cm (by walk_at "bd") (by walk_at "bd") (by decide)
    case h7 =>
      exact cm (by walk_at "bd") (by walk_at "bd") (by decide)
    case h8 =>
      first | (rw [show nrm k p = _ from if_pos b1] at hG; exact hG) | (rw [show nrm k p = _ from if_neg b1] at hG; exact hG)

end
end Y29

set_option Elab.async false
set_option linter.all false
set_option maxRecDepth 100000
set_option maxHeartbeats 8000000
namespace Y29
open PySem PySem.Spec PyProof.Rows L2 Evl Wz
local macro_rules | `(tactic| walk_at "bd") => `(tactic| (repeat (first | assumption | apply Bd.mul | apply Bd.add | apply Bd.sub | apply Bd.neg | exact Bd.z | exact Bd.of _)))
local macro_rules | `(tactic| walk_at "bm") => `(tactic| (first | assumption | exact Bd.mono (by walk_at "bd") (by decide)))
local macro_rules | `(tactic| walk_at "b2") => `(tactic| (repeat (first | assumption | apply And.intro | walk_at "bm" | decide | omega)))

theorem Kd.k3 {k : Int} (h : Kd k) : K3 k := h
def Pos (k : Int) (p : Z2) : Prop := Pq k (if k = 5 then 2 * p.1 + p.2 else p.1) p.2
instance {k : Int} {p : Z2} : Decidable (Pos k p) := by unfold Pos; exact inferInstance
theorem pos5 {p : Z2} : Pos 5 p ↔ Pq 5 (2 * p.1 + p.2) p.2 := by unfold Pos; rw [if_pos rfl]
theorem posN {k : Int} {p : Z2} (h : ¬ k = 5) : Pos k p ↔ Pq k p.1 p.2 := by unfold Pos; rw [if_neg h]
theorem pos_mul {k : Int} {p q : Z2} (hk : Kd k) (h : Pos k p) (g : Pos k q) : Pos k (mul k p q) := by
  by_cases h5 : k = 5
  · subst h5
    rw [pos5] at *
    have := pq_mul hk h g
    have e1 : (2 * p.1 + p.2) * (2 * q.1 + q.2) + 5 * p.2 * q.2 = 2 * (2 * (mul 5 p q).1 + (mul 5 p q).2) := by unfold mul; rw [if_pos rfl]; grind
    have e2 : (2 * p.1 + p.2) * q.2 + p.2 * (2 * q.1 + q.2) = 2 * (mul 5 p q).2 := by unfold mul; rw [if_pos rfl]; grind
    rw [e1, e2, pq_two] at this
    exact this
  · rw [posN h5] at *
    have := pq_mul hk h g
    unfold mul
    rw [if_neg h5]
    exact this
theorem mate_mul (k : Int) (p q : Z2) : mate k (mul k p q) = mul k (mate k p) (mate k q) := by
  unfold mate mul
  by_cases h5 : k = 5
  · simp only [if_pos h5]
    exact Prod.ext (by grind) (by grind)
  · simp only [if_neg h5]
    exact Prod.ext (by grind) (by grind)
theorem nrm_mul (k : Int) (p q : Z2) : nrm k (mul k p q) = nrm k p * nrm k q := by
  unfold nrm mul
  by_cases h5 : k = 5
  · simp only [if_pos h5]
    grind
  · simp only [if_neg h5]
    grind
theorem mul_assoc (k : Int) (p q r : Z2) : mul k (mul k p q) r = mul k p (mul k q r) := by
  unfold mul
  by_cases h5 : k = 5
  · simp only [if_pos h5]
    exact Prod.ext (by grind) (by grind)
  · simp only [if_neg h5]
    exact Prod.ext (by grind) (by grind)
theorem mul_comm (k : Int) (p q : Z2) : mul k p q = mul k q p := by
  unfold mul
  by_cases h5 : k = 5
  · simp only [if_pos h5]
    exact Prod.ext (by grind) (by grind)
  · simp only [if_neg h5]
    exact Prod.ext (by grind) (by grind)
def add2 (p q : Z2) : Z2 := (p.1 + q.1, p.2 + q.2)
theorem mul_add2 (k : Int) (p q r : Z2) : mul k p (add2 q r) = add2 (mul k p q) (mul k p r) := by
  unfold mul add2
  by_cases h5 : k = 5
  · simp only [if_pos h5]
    exact Prod.ext (by grind) (by grind)
  · simp only [if_neg h5]
    exact Prod.ext (by grind) (by grind)
/-- a unit of either sign, its mate above 0 -/
def U (k : Int) (p : Z2) : Prop := (nrm k p = 1 ∨ nrm k p = -1) ∧ Pos k (mate k p)
instance {k : Int} {p : Z2} : Decidable (U k p) := by unfold U; exact inferInstance
theorem U.mul {k : Int} {p q : Z2} (hk : Kd k) (h : U k p) (g : U k q) : U k (mul k p q) := by
  refine ⟨?_, ?_⟩
  · rw [nrm_mul]
    rcases h.1 with a | a <;> rcases g.1 with b | b <;> rw [a, b] <;> simp
  · rw [mate_mul]
    exact pos_mul hk h.2 g.2
theorem mate_b1 {k : Int} {p : Z2} {n : Nat} (h1 : Bd n p.1) (h2 : Bd n p.2) : Bd (n + 1) (mate k p).1 := by
  unfold mate
  split
  · exact (h1.add h2).mono (by omega)
  · exact h1.mono (by omega)
theorem mate_b2 {k : Int} {p : Z2} {n : Nat} (h2 : Bd n p.2) : Bd (n + 1) (mate k p).2 := by
  unfold mate
  split <;> exact h2.neg.mono (by omega)
theorem mul_b1 {k : Int} {p q : Z2} {n m : Nat} (hk : Kd k) (h1 : Bd n p.1) (h2 : Bd n p.2) (g1 : Bd m q.1) (g2 : Bd m q.2) : Bd (n + m + 4) (mul k p q).1 := by
  unfold mul
  split
  · exact ((h1.mul g1).add (h2.mul g2)).mono (by omega)
  · exact ((h1.mul g1).add ((hk.bd.mul h2).mul g2)).mono (by omega)
theorem mul_b2 {k : Int} {p q : Z2} {n m : Nat} (h1 : Bd n p.1) (h2 : Bd n p.2) (g1 : Bd m q.1) (g2 : Bd m q.2) : Bd (n + m + 4) (mul k p q).2 := by
  unfold mul
  split
  · exact (((h1.mul g2).add (h2.mul g1)).add (h2.mul g2)).mono (by omega)
  · exact ((h1.mul g2).add (h2.mul g1)).mono (by omega)
theorem nrm_b {k : Int} {p : Z2} {n : Nat} (hk : Kd k) (h1 : Bd n p.1) (h2 : Bd n p.2) : Bd (n + n + 4) (nrm k p) := by
  unfold nrm
  split
  · exact (((h1.mul h1).add (h1.mul h2)).sub (h2.mul h2)).mono (by omega)
  · exact ((h1.mul h1).sub ((hk.bd.mul h2).mul h2)).mono (by omega)
def inv (k : Int) (p : Z2) : Z2 := ((mate k p).1 * nrm k p, (mate k p).2 * nrm k p)
theorem inv_mul {k : Int} {p : Z2} (h : U k p) : Y29.mul k (inv k p) p = (1, 0) := by
  have h1 : nrm k p * nrm k p = 1 := by rcases h.1 with a | a <;> rw [a] <;> rfl
  unfold inv mate nrm Y29.mul at *
  by_cases h5 : k = 5
  · simp only [if_pos h5] at *
    exact Prod.ext (by grind) (by grind)
  · simp only [if_neg h5] at *
    exact Prod.ext (by grind) (by grind)
theorem nrm_inv {k : Int} {p : Z2} (h : U k p) : nrm k (inv k p) = nrm k p := by
  have h1 : nrm k p * nrm k p = 1 := by rcases h.1 with a | a <;> rw [a] <;> rfl
  have e : nrm k (inv k p) = nrm k p * (nrm k p * nrm k p) := by
    unfold inv mate nrm
    by_cases h5 : k = 5
    · simp only [if_pos h5]
      grind
    · simp only [if_neg h5]
      grind
  rw [e, h1, Int.mul_one]
theorem mate_inv (k : Int) (p : Z2) : mate k (inv k p) = (p.1 * nrm k p, p.2 * nrm k p) := by
  unfold inv
  generalize nrm k p = n
  unfold mate
  by_cases h5 : k = 5
  · simp only [if_pos h5]
    exact Prod.ext (by grind) (by grind)
  · simp only [if_neg h5]
    exact Prod.ext (by grind) (by grind)
theorem U.inv {k : Int} {p : Z2} (hk : Kd k) (h : U k p) : U k (inv k p) := by
  refine ⟨by rw [nrm_inv h]; exact h.1, ?_⟩
  rw [mate_inv]
  obtain ⟨h1, h2⟩ := h
  by_cases h5 : k = 5
  · subst h5
    rw [pos5] at *
    unfold mate at h2
    rw [if_pos rfl] at h2
    have e : nrm 5 p = p.1 * p.1 + p.1 * p.2 - p.2 * p.2 := by unfold nrm; rw [if_pos rfl]
    have e4 : (2 * p.1 + p.2) * (2 * p.1 + p.2) - 5 * p.2 * p.2 = 4 * nrm 5 p := by rw [e]; grind
    have e5 : (2 * (p.1 + p.2) + -p.2) = 2 * p.1 + p.2 := by omega
    have e6 : 5 * -p.2 * -p.2 = 5 * p.2 * p.2 := by grind
    unfold Pq at *
    dsimp only at h2
    rw [e5, e6] at h2
    rcases h1 with q | q
    · rw [q] at e4 ⊢
      dsimp only
      rw [Int.mul_one, Int.mul_one]
      omega
    · rw [q] at e4 ⊢
      dsimp only
      have e7 : (2 * (p.1 * -1) + p.2 * -1) * (2 * (p.1 * -1) + p.2 * -1) = (2 * p.1 + p.2) * (2 * p.1 + p.2) := by grind
      have e8 : 5 * (p.2 * -1) * (p.2 * -1) = 5 * p.2 * p.2 := by grind
      rw [e7, e8]
      omega
  · rw [posN h5] at *
    unfold mate at h2
    rw [if_neg h5] at h2
    have e : nrm k p = p.1 * p.1 - k * p.2 * p.2 := by unfold nrm; rw [if_neg h5]
    have e6 : k * -p.2 * -p.2 = k * p.2 * p.2 := by grind
    unfold Pq at *
    dsimp only at h2
    rw [e6] at h2
    rcases h1 with q | q
    · rw [q] at e ⊢
      dsimp only
      rw [Int.mul_one, Int.mul_one]
      omega
    · rw [q] at e ⊢
      have e7 : p.1 * -1 * (p.1 * -1) = p.1 * p.1 := by grind
      have e8 : k * (p.2 * -1) * (p.2 * -1) = k * p.2 * p.2 := by grind
      dsimp only
      rw [e7, e8]
      omega
abbrev mD (a b c d : Z2) : Dat := .tup [.tup [pD a, pD b], .tup [pD c, pD d]]
abbrev plD (a b : Z2) : Dat := .tup [pD a, pD b]
section
variable {P : Program} {w : World} {K : PySem.W.Frag} {mg : Str → Option Value} {base : Heap}

theorem ws_ret {k a b s : Int} (hk : Kd k) (A : Int) (hA : Pos k (a, b) ↔ Pq k A b) (h : 0 < s ↔ ((0 ≤ A ∧ 0 ≤ b ∧ ¬ (A = 0 ∧ b = 0)) ∨ (¬ (0 ≤ A ∧ 0 ≤ b) ∧ ¬ (A ≤ 0 ∧ b ≤ 0) ∧ ((k * b * b < A * A ∧ 0 < A) ∨ (¬ k * b * b < A * A ∧ 0 < b))))) : 0 < s ↔ Pos k (a, b) := by
  rw [hA, pq_cases hk]
  exact h

/-! ### whole_sign -/
abbrev s_whole_sign : Stmt := topS 17
theorem sc_whole_sign : FnScope ["kind", "a", "b"] ["kind", "a", "b"] (defScope s_whole_sign) := ⟨rfl, rfl, rfl, by decide +kernel, rfl, by decide +kernel, by decide +kernel⟩
def F_whole_sign : FP := fun ds Q => ∃ k a b, ds = [.int k, .int a, .int b] ∧ (Kd k ∧ Bd 4000 a ∧ Bd 4000 b) ∧ ∀ s, (0 < s ↔ Pos k (a, b)) → Q (.int s)
theorem ok_whole_sign {f : Addr} {fd : FuncData} (Fn : Fun K "whole_sign" "whole_sign" s_whole_sign f fd)  : FnOk P w K mg base CX0 1 f fd ["kind", "a", "b"] (spP K F_whole_sign) := by
  refine fn_P Fn sc_whole_sign (fun ds G h => ?_) (fun cdv A outer s H Q E ds G hr hF hQ => ?_)
  · obtain ⟨k, a, b, rfl, ⟨hk, ha, hb⟩, hG⟩ := h
    rfl
  · obtain ⟨k, a, b, rfl, ⟨hk, ha, hb⟩, hG⟩ := hF
    have hkb := hk.bd
    refine (as_ifn (t_eqI (nm 0 rfl (c_int (And.intro (fun b1 => (as_asg (i := 1) sc_whole_sign.nd (c_add (c_mulS (c_int (nm 1 rfl (And.intro (.inl (And.intro (by decide) (by decide))) (nm 2 rfl (as_go (as_ifn (t_w (w_and (t_ge (nm 1 rfl (c_int (And.intro (fun b2 => (w_and1 (t_ge (nm 2 rfl (c_int (And.intro (fun b3 => (as_ret hQ (c_if (t_w (w_or (t_tru (nm 1 rfl (And.intro (fun b4 => (c_int (And.intro rfl ?h1))) (fun b4 => (w_or1 (t_tru (nm 2 rfl (And.intro (fun b5 => (c_int (And.intro rfl ?h2))) (fun b5 => (c_int (And.intro rfl ?h3)))))))))))))))) (fun b3 => (as_ifn (t_w (w_and (t_le (nm 1 rfl (c_int (And.intro (fun b6 => (w_and1 (t_le (nm 2 rfl (c_int (And.intro (fun b7 => (as_ret hQ (c_neg (c_int (And.intro rfl ?h4))))) (fun b7 => (as_ifn (t_gt (c_mul (nm 1 rfl (nm 1 rfl (And.intro ?h5 (c_mul (c_mul (nm 0 rfl (nm 2 rfl (And.intro ?h6 (nm 2 rfl (And.intro ?h7 (And.intro (fun b8 => (as_ret hQ (c_if (t_gt (nm 1 rfl (c_int (And.intro (fun b9 => (c_int (And.intro rfl ?h8))) (fun b9 => (c_neg (c_int (And.intro rfl ?h9))))))))))) (fun b8 => (as_ret hQ (c_if (t_gt (nm 2 rfl (c_int (And.intro (fun b10 => (c_int (And.intro rfl ?h10))) (fun b10 => (c_neg (c_int (And.intro rfl ?h11)))))))))))))))))))))))))))))))) (fun b6 => (as_ifn (t_gt (c_mul (nm 1 rfl (nm 1 rfl (And.intro ?h12 (c_mul (c_mul (nm 0 rfl (nm 2 rfl (And.intro ?h13 (nm 2 rfl (And.intro ?h14 (And.intro (fun b11 => (as_ret hQ (c_if (t_gt (nm 1 rfl (c_int (And.intro (fun b12 => (c_int (And.intro rfl ?h15))) (fun b12 => (c_neg (c_int (And.intro rfl ?h16))))))))))) (fun b11 => (as_ret hQ (c_if (t_gt (nm 2 rfl (c_int (And.intro (fun b13 => (c_int (And.intro rfl ?h17))) (fun b13 => (c_neg (c_int (And.intro rfl ?h18)))))))))))))))))))))))))))))))))))))))) (fun b2 => (as_ifn (t_w (w_and (t_le (nm 1 rfl (c_int (And.intro (fun b14 => (w_and1 (t_le (nm 2 rfl (c_int (And.intro (fun b15 => (as_ret hQ (c_neg (c_int (And.intro rfl ?h19))))) (fun b15 => (as_ifn (t_gt (c_mul (nm 1 rfl (nm 1 rfl (And.intro ?h20 (c_mul (c_mul (nm 0 rfl (nm 2 rfl (And.intro ?h21 (nm 2 rfl (And.intro ?h22 (And.intro (fun b16 => (as_ret hQ (c_if (t_gt (nm 1 rfl (c_int (And.intro (fun b17 => (c_int (And.intro rfl ?h23))) (fun b17 => (c_neg (c_int (And.intro rfl ?h24))))))))))) (fun b16 => (as_ret hQ (c_if (t_gt (nm 2 rfl (c_int (And.intro (fun b18 => (c_int (And.intro rfl ?h25))) (fun b18 => (c_neg (c_int (And.intro rfl ?h26)))))))))))))))))))))))))))))))) (fun b14 => (as_ifn (t_gt (c_mul (nm 1 rfl (nm 1 rfl (And.intro ?h27 (c_mul (c_mul (nm 0 rfl (nm 2 rfl (And.intro ?h28 (nm 2 rfl (And.intro ?h29 (And.intro (fun b19 => (as_ret hQ (c_if (t_gt (nm 1 rfl (c_int (And.intro (fun b20 => (c_int (And.intro rfl ?h30))) (fun b20 => (c_neg (c_int (And.intro rfl ?h31))))))))))) (fun b19 => (as_ret hQ (c_if (t_gt (nm 2 rfl (c_int (And.intro (fun b21 => (c_int (And.intro rfl ?h32))) (fun b21 => (c_neg (c_int (And.intro rfl ?h33)))))))))))))))))))))))))))))))))))))))))))))))))) (fun b1 => (as_ifn (t_w (w_and (t_ge (nm 1 rfl (c_int (And.intro (fun b22 => (w_and1 (t_ge (nm 2 rfl (c_int (And.intro (fun b23 => (as_ret hQ (c_if (t_w (w_or (t_tru (nm 1 rfl (And.intro (fun b24 => (c_int (And.intro rfl ?h34))) (fun b24 => (w_or1 (t_tru (nm 2 rfl (And.intro (fun b25 => (c_int (And.intro rfl ?h35))) (fun b25 => (c_int (And.intro rfl ?h36)))))))))))))))) (fun b23 => (as_ifn (t_w (w_and (t_le (nm 1 rfl (c_int (And.intro (fun b26 => (w_and1 (t_le (nm 2 rfl (c_int (And.intro (fun b27 => (as_ret hQ (c_neg (c_int (And.intro rfl ?h37))))) (fun b27 => (as_ifn (t_gt (c_mul (nm 1 rfl (nm 1 rfl (And.intro ?h38 (c_mul (c_mul (nm 0 rfl (nm 2 rfl (And.intro ?h39 (nm 2 rfl (And.intro ?h40 (And.intro (fun b28 => (as_ret hQ (c_if (t_gt (nm 1 rfl (c_int (And.intro (fun b29 => (c_int (And.intro rfl ?h41))) (fun b29 => (c_neg (c_int (And.intro rfl ?h42))))))))))) (fun b28 => (as_ret hQ (c_if (t_gt (nm 2 rfl (c_int (And.intro (fun b30 => (c_int (And.intro rfl ?h43))) (fun b30 => (c_neg (c_int (And.intro rfl ?h44)))))))))))))))))))))))))))))))) (fun b26 => (as_ifn (t_gt (c_mul (nm 1 rfl (nm 1 rfl (And.intro ?h45 (c_mul (c_mul (nm 0 rfl (nm 2 rfl (And.intro ?h46 (nm 2 rfl (And.intro ?h47 (And.intro (fun b31 => (as_ret hQ (c_if (t_gt (nm 1 rfl (c_int (And.intro (fun b32 => (c_int (And.intro rfl ?h48))) (fun b32 => (c_neg (c_int (And.intro rfl ?h49))))))))))) (fun b31 => (as_ret hQ (c_if (t_gt (nm 2 rfl (c_int (And.intro (fun b33 => (c_int (And.intro rfl ?h50))) (fun b33 => (c_neg (c_int (And.intro rfl ?h51)))))))))))))))))))))))))))))))))))))))) (fun b22 => (as_ifn (t_w (w_and (t_le (nm 1 rfl (c_int (And.intro (fun b34 => (w_and1 (t_le (nm 2 rfl (c_int (And.intro (fun b35 => (as_ret hQ (c_neg (c_int (And.intro rfl ?h52))))) (fun b35 => (as_ifn (t_gt (c_mul (nm 1 rfl (nm 1 rfl (And.intro ?h53 (c_mul (c_mul (nm 0 rfl (nm 2 rfl (And.intro ?h54 (nm 2 rfl (And.intro ?h55 (And.intro (fun b36 => (as_ret hQ (c_if (t_gt (nm 1 rfl (c_int (And.intro (fun b37 => (c_int (And.intro rfl ?h56))) (fun b37 => (c_neg (c_int (And.intro rfl ?h57))))))))))) (fun b36 => (as_ret hQ (c_if (t_gt (nm 2 rfl (c_int (And.intro (fun b38 => (c_int (And.intro rfl ?h58))) (fun b38 => (c_neg (c_int (And.intro rfl ?h59)))))))))))))))))))))))))))))))) (fun b34 => (as_ifn (t_gt (c_mul (nm 1 rfl (nm 1 rfl (And.intro ?h60 (c_mul (c_mul (nm 0 rfl (nm 2 rfl (And.intro ?h61 (nm 2 rfl (And.intro ?h62 (And.intro (fun b39 => (as_ret hQ (c_if (t_gt (nm 1 rfl (c_int (And.intro (fun b40 => (c_int (And.intro rfl ?h63))) (fun b40 => (c_neg (c_int (And.intro rfl ?h64))))))))))) (fun b39 => (as_ret hQ (c_if (t_gt (nm 2 rfl (c_int (And.intro (fun b41 => (c_int (And.intro rfl ?h65))) (fun b41 => (c_neg (c_int (And.intro rfl ?h66)))))))))))))))))))))))))))))))))))))))))))))))
    case h1 =>
      first
        | exact hG _ (ws_ret hk (2 * a + b) (by subst b1; exact pos5) (by omega))
        | exact hG _ (ws_ret hk a (posN b1) (by omega))
    case h2 =>
      first
        | exact hG _ (ws_ret hk (2 * a + b) (by subst b1; exact pos5) (by omega))
        | exact hG _ (ws_ret hk a (posN b1) (by omega))
    case h3 =>
      first
        | exact hG _ (ws_ret hk (2 * a + b) (by subst b1; exact pos5) (by omega))
        | exact hG _ (ws_ret hk a (posN b1) (by omega))
    case h4 =>
      first
        | exact hG _ (ws_ret hk (2 * a + b) (by subst b1; exact pos5) (by omega))
        | exact hG _ (ws_ret hk a (posN b1) (by omega))
    case h5 =>
      exact cm (by walk_at "bd") (by walk_at "bd") (by decide)
    case h6 =>
      exact cm (by walk_at "bd") (by walk_at "bd") (by decide)
    case h7 =>
      exact cm (by walk_at "bd") (by walk_at "bd") (by decide)
    case h8 =>
      first
        | exact hG _ (ws_ret hk (2 * a + b) (by subst b1; exact pos5) (by omega))
        | exact hG _ (ws_ret hk a (posN b1) (by omega))
    case h9 =>
      first
        | exact hG _ (ws_ret hk (2 * a + b) (by subst b1; exact pos5) (by omega))
        | exact hG _ (ws_ret hk a (posN b1) (by omega))
    case h10 =>
      first
        | exact hG _ (ws_ret hk (2 * a + b) (by subst b1; exact pos5) (by omega))
        | exact hG _ (ws_ret hk a (posN b1) (by omega))
    case h11 =>
      first
        | exact hG _ (ws_ret hk (2 * a + b) (by subst b1; exact pos5) (by omega))
        | exact hG _ (ws_ret hk a (posN b1) (by omega))
    case h12 =>
      exact cm (by walk_at "bd") (by walk_at "bd") (by decide)
    case h13 =>
      exact cm (by walk_at "bd") (by walk_at "bd") (by decide)
    case h14 =>
      exact cm (by walk_at "bd") (by walk_at "bd") (by decide)
    case h15 =>
      first
        | exact hG _ (ws_ret hk (2 * a + b) (by subst b1; exact pos5) (by omega))
        | exact hG _ (ws_ret hk a (posN b1) (by omega))
    case h16 =>
      first
        | exact hG _ (ws_ret hk (2 * a + b) (by subst b1; exact pos5) (by omega))
        | exact hG _ (ws_ret hk a (posN b1) (by omega))
    case h17 =>
      first
        | exact hG _ (ws_ret hk (2 * a + b) (by subst b1; exact pos5) (by omega))
        | exact hG _ (ws_ret hk a (posN b1) (by omega))
    case h18 =>
      first
        | exact hG _ (ws_ret hk (2 * a + b) (by subst b1; exact pos5) (by omega))
        | exact hG _ (ws_ret hk a (posN b1) (by omega))
    case h19 =>
      first
        | exact hG _ (ws_ret hk (2 * a + b) (by subst b1; exact pos5) (by omega))
        | exact hG _ (ws_ret hk a (posN b1) (by omega))
    case h20 =>
      exact cm (by walk_at "bd") (by walk_at "bd") (by decide)
    case h21 =>
      exact cm (by walk_at "bd") (by walk_at "bd") (by decide)
    case h22 =>
      exact cm (by walk_at "bd") (by walk_at "bd") (by decide)
    case h23 =>
      first
        | exact hG _ (ws_ret hk (2 * a + b) (by subst b1; exact pos5) (by omega))
        | exact hG _ (ws_ret hk a (posN b1) (by omega))
    case h24 =>
      first
        | exact hG _ (ws_ret hk (2 * a + b) (by subst b1; exact pos5) (by omega))
        | exact hG _ (ws_ret hk a (posN b1) (by omega))
    case h25 =>
      first
        | exact hG _ (ws_ret hk (2 * a + b) (by subst b1; exact pos5) (by omega))
        | exact hG _ (ws_ret hk a (posN b1) (by omega))
    case h26 =>
      first
        | exact hG _ (ws_ret hk (2 * a + b) (by subst b1; exact pos5) (by omega))
        | exact hG _ (ws_ret hk a (posN b1) (by omega))
    case h27 =>
      exact cm (by walk_at "bd") (by walk_at "bd") (by decide)
    case h28 =>
      exact cm (by walk_at "bd") (by walk_at "bd") (by decide)
    case h29 =>
      exact cm (by walk_at "bd") (by walk_at "bd") (by decide)
    case h30 =>
      first
        | exact hG _ (ws_ret hk (2 * a + b) (by subst b1; exact pos5) (by omega))
        | exact hG _ (ws_ret hk a (posN b1) (by omega))
    case h31 =>
      first
        | exact hG _ (ws_ret hk (2 * a + b) (by subst b1; exact pos5) (by omega))
        | exact hG _ (ws_ret hk a (posN b1) (by omega))
    case h32 =>
      first
        | exact hG _ (ws_ret hk (2 * a + b) (by subst b1; exact pos5) (by omega))
        | exact hG _ (ws_ret hk a (posN b1) (by omega))
    case h33 =>
      first
        | exact hG _ (ws_ret hk (2 * a + b) (by subst b1; exact pos5) (by omega))
        | exact hG _ (ws_ret hk a (posN b1) (by omega))
    case h34 =>
      first
        | exact hG _ (ws_ret hk (2 * a + b) (by subst b1; exact pos5) (by omega))
        | exact hG _ (ws_ret hk a (posN b1) (by omega))
    case h35 =>
      first
        | exact hG _ (ws_ret hk (2 * a + b) (by subst b1; exact pos5) (by omega))
        | exact hG _ (ws_ret hk a (posN b1) (by omega))
    case h36 =>
      first
        | exact hG _ (ws_ret hk (2 * a + b) (by subst b1; exact pos5) (by omega))
        | exact hG _ (ws_ret hk a (posN b1) (by omega))
    case h37 =>
      first
        | exact hG _ (ws_ret hk (2 * a + b) (by subst b1; exact pos5) (by omega))
        | exact hG _ (ws_ret hk a (posN b1) (by omega))
    case h38 =>
      exact cm (by walk_at "bd") (by walk_at "bd") (by decide)
    case h39 =>
      exact cm (by walk_at "bd") (by walk_at "bd") (by decide)
    case h40 =>
      exact cm (by walk_at "bd") (by walk_at "bd") (by decide)
    case h41 =>
      first
        | exact hG _ (ws_ret hk (2 * a + b) (by subst b1; exact pos5) (by omega))
        | exact hG _ (ws_ret hk a (posN b1) (by omega))
    case h42 =>
      first
        | exact hG _ (ws_ret hk (2 * a + b) (by subst b1; exact pos5) (by omega))
        | exact hG _ (ws_ret hk a (posN b1) (by omega))
    case h43 =>
      first
        | exact hG _ (ws_ret hk (2 * a + b) (by subst b1; exact pos5) (by omega))
        | exact hG _ (ws_ret hk a (posN b1) (by omega))
    case h44 =>
      first
        | exact hG _ (ws_ret hk (2 * a + b) (by subst b1; exact pos5) (by omega))
        | exact hG _ (ws_ret hk a (posN b1) (by omega))
    case h45 =>
      exact cm (by walk_at "bd") (by walk_at "bd") (by decide)
    case h46 =>
      exact cm (by walk_at "bd") (by walk_at "bd") (by decide)
    case h47 =>
      exact cm (by walk_at "bd") (by walk_at "bd") (by decide)
    case h48 =>
      first
        | exact hG _ (ws_ret hk (2 * a + b) (by subst b1; exact pos5) (by omega))
        | exact hG _ (ws_ret hk a (posN b1) (by omega))
    case h49 =>
      first
        | exact hG _ (ws_ret hk (2 * a + b) (by subst b1; exact pos5) (by omega))
        | exact hG _ (ws_ret hk a (posN b1) (by omega))
    case h50 =>
      first
        | exact hG _ (ws_ret hk (2 * a + b) (by subst b1; exact pos5) (by omega))
        | exact hG _ (ws_ret hk a (posN b1) (by omega))
    case h51 =>
      first
        | exact hG _ (ws_ret hk (2 * a + b) (by subst b1; exact pos5) (by omega))
        | exact hG _ (ws_ret hk a (posN b1) (by omega))
    case h52 =>
      first
        | exact hG _ (ws_ret hk (2 * a + b) (by subst b1; exact pos5) (by omega))
        | exact hG _ (ws_ret hk a (posN b1) (by omega))
    case h53 =>
      exact cm (by walk_at "bd") (by walk_at "bd") (by decide)
    case h54 =>
      exact cm (by walk_at "bd") (by walk_at "bd") (by decide)
    case h55 =>
      exact cm (by walk_at "bd") (by walk_at "bd") (by decide)
    case h56 =>
      first
        | exact hG _ (ws_ret hk (2 * a + b) (by subst b1; exact pos5) (by omega))
        | exact hG _ (ws_ret hk a (posN b1) (by omega))
    case h57 =>
      first
        | exact hG _ (ws_ret hk (2 * a + b) (by subst b1; exact pos5) (by omega))
        | exact hG _ (ws_ret hk a (posN b1) (by omega))
    case h58 =>
      first
        | exact hG _ (ws_ret hk (2 * a + b) (by subst b1; exact pos5) (by omega))
        | exact hG _ (ws_ret hk a (posN b1) (by omega))
    case h59 =>
      first
        | exact hG _ (ws_ret hk (2 * a + b) (by subst b1; exact pos5) (by omega))
        | exact hG _ (ws_ret hk a (posN b1) (by omega))
    case h60 =>
      exact cm (by walk_at "bd") (by walk_at "bd") (by decide)
    case h61 =>
      exact cm (by walk_at "bd") (by walk_at "bd") (by decide)
    case h62 =>
      exact cm (by walk_at "bd") (by walk_at "bd") (by decide)
    case h63 =>
      first
        | exact hG _ (ws_ret hk (2 * a + b) (by subst b1; exact pos5) (by omega))
        | exact hG _ (ws_ret hk a (posN b1) (by omega))
    case h64 =>
      first
        | exact hG _ (ws_ret hk (2 * a + b) (by subst b1; exact pos5) (by omega))
        | exact hG _ (ws_ret hk a (posN b1) (by omega))
    case h65 =>
      first
        | exact hG _ (ws_ret hk (2 * a + b) (by subst b1; exact pos5) (by omega))
        | exact hG _ (ws_ret hk a (posN b1) (by omega))
    case h66 =>
      first
        | exact hG _ (ws_ret hk (2 * a + b) (by subst b1; exact pos5) (by omega))
        | exact hG _ (ws_ret hk a (posN b1) (by omega))

end
end Y29

set_option Elab.async false
set_option linter.all false
set_option maxRecDepth 100000
set_option maxHeartbeats 8000000
namespace Y29
open PySem PySem.Spec PyProof.Rows L2 Evl Wz
local macro_rules | `(tactic| walk_at "bd") => `(tactic| (repeat (first | assumption | apply mate_b1 | apply mate_b2 | apply mul_b1 | apply mul_b2 | apply nrm_b | apply Bd.mul | apply Bd.add | apply Bd.sub | apply Bd.neg | exact Bd.z | exact Bd.of _)))
local macro_rules | `(tactic| walk_at "bm") => `(tactic| (first | assumption | exact Bd.mono (by walk_at "bd") (by decide)))
local macro_rules | `(tactic| walk_at "b2") => `(tactic| (repeat (first | assumption | apply And.intro | walk_at "bm" | decide | omega)))
section
variable {P : Program} {w : World} {K : PySem.W.Frag} {mg : Str → Option Value} {base : Heap}
theorem eqv_pD (a b : Z2) : PyData.eqv (pd (pD a)) (pd (pD b)) = decide (a = b) := by
  obtain ⟨a1, a2⟩ := a
  obtain ⟨b1, b2⟩ := b
  by_cases h1 : a1 = b1
  · by_cases h2 : a2 = b2
    · subst h1 h2
      simp [pd, pd.pds, PyData.eqv, PyData.eqvAll]
    · simp [pd, pd.pds, PyData.eqv, PyData.eqvAll, h2]
  · simp [pd, pd.pds, PyData.eqv, PyData.eqvAll, h1]
/-! ### _keeps_sides -/
abbrev s__keeps_sides : Stmt := topS 25
theorem sc__keeps_sides : FnScope ["kind", "pair", "a", "b"] ["kind", "pair"] (defScope s__keeps_sides) := ⟨rfl, rfl, rfl, by decide +kernel, rfl, by decide +kernel, by decide +kernel⟩
def F__keeps_sides : FP := fun ds Q => ∃ k p, ds = [.int k, pD p] ∧ (Kd k ∧ B2 3900 p) ∧ Q (.bl (decide (U k p)))
theorem ok__keeps_sides {f : Addr} {fd : FuncData} (Fn : Fun K "_keeps_sides" "_keeps_sides" s__keeps_sides f fd) (c_pair_mate : Cl P w K mg base 1 "pair_mate" ["kind", "p"] (spP K F_pair_mate)) (c_pair_norm : Cl P w K mg base 1 "pair_norm" ["kind", "p"] (spP K F_pair_norm)) (c_whole_sign : Cl P w K mg base 1 "whole_sign" ["kind", "a", "b"] (spP K F_whole_sign)) : FnOk P w K mg base CX0 2 f fd ["kind", "pair"] (spP K F__keeps_sides) := by
  refine fn_P Fn sc__keeps_sides (fun ds G h => ?_) (fun cdv A outer s H Q E ds G hr hF hQ => ?_)
  · obtain ⟨k, p, rfl, ⟨hk, hp1, hp2⟩, hG⟩ := h
    rfl
  · obtain ⟨k, p, rfl, ⟨hk, hp1, hp2⟩, hG⟩ := hF
    refine (as_unp2 (i := 2) (j := 3) sc__keeps_sides.nd rfl (c_call c_pair_mate (hr.mono (by decide)) (ca_cons (nm 0 rfl (ca_cons (nm 1 rfl (ca_nil ⟨_, _, rfl, And.intro rfl ⟨_, _, rfl, (as_ret hQ (c_andB (c_inI (is := [1, -1]) (c_call c_pair_norm (hr.mono (by decide)) (ca_cons (nm 0 rfl (ca_cons (nm 1 rfl (ca_nil ⟨_, _, rfl, ?h1, And.intro rfl (c_tup (ca_cons (c_int (ca_cons (c_neg (c_int (ca_nil (And.intro (And.intro rfl (Nat.le_of_ble_eq_true rfl)) (And.intro rfl (And.intro (fun b1 => (c_one (c_gt (c_call c_whole_sign (hr.mono (by decide)) (ca_cons (nm 0 rfl (ca_cons (nm 2 rfl (ca_cons (nm 3 rfl (ca_nil ⟨_, _, _, rfl, ?h2, fun s1 hs1 => And.intro rfl (c_int (And.intro rfl ?h3))⟩))))))))))) (fun b2 => (And.intro rfl ?h4))))))))))))⟩)))))))))⟩⟩)))))))
    case h1 =>
      walk_at "b2"
    case h2 =>
      walk_at "b2"
    case h3 =>
      rw [show decide (U k p) = decide (0 < s1) from decide_eq_decide.mpr ⟨fun z => hs1.mpr z.2, fun z => ⟨by simpa using b1, hs1.mp z⟩⟩] at hG
      exact hG
    case h4 =>
      rw [show decide (U k p) = false from decide_eq_false (fun z => by simp at b2; exact absurd z.1 (by omega))] at hG
      exact hG

/-! ### _is_pair -/
abbrev s__is_pair : Stmt := topS 20
theorem sc__is_pair : FnScope ["told"] ["told"] (defScope s__is_pair) := ⟨rfl, rfl, rfl, by decide +kernel, rfl, by decide +kernel, by decide +kernel⟩
def F__is_pair : FP := fun ds Q => ∃ x y, ds = [.tup [x, y]] ∧ Q (.bl true)
theorem ok__is_pair {f : Addr} {fd : FuncData} (Fn : Fun K "_is_pair" "_is_pair" s__is_pair f fd) (m_isinstance : mg "isinstance" = none) (m_tuple : mg "tuple" = none) (m_len : mg "len" = none) : FnOk P w K mg base CX0 1 f fd ["told"] (spP K F__is_pair) := by
  refine fn_P Fn sc__is_pair (fun ds G h => ?_) (fun cdv A outer s H Q E ds G hr hF hQ => ?_)
  · obtain ⟨x, y, rfl, hG⟩ := h
    rfl
  · obtain ⟨x, y, rfl, hG⟩ := hF
    refine (as_ret hQ (c_and (c_isi (U := "tuple") m_isinstance (ca_cons (nm 0 rfl (ca_cons (c_ty (T := "tuple") m_tuple (by decide +kernel) (ca_nil ⟨rfl, _, true, rfl, (by decide +kernel), (c_one (c_eqI (c_lenT m_len (ca_cons (nm 0 rfl (ca_nil (c_int (And.intro rfl ?h1))))))))⟩))))))))
    case h1 =>
      exact hG

/-! ### is_place -/
abbrev s_is_place : Stmt := topS 19
theorem sc_is_place : FnScope ["told"] ["told"] (defScope s_is_place) := ⟨rfl, rfl, rfl, by decide +kernel, rfl, by decide +kernel, by decide +kernel⟩
def F_is_place : FP := fun ds Q => ∃ x y, ds = [plD x y] ∧ Q (.bl true)
theorem ok_is_place {f : Addr} {fd : FuncData} (Fn : Fun K "is_place" "is_place" s_is_place f fd) (c__is_pair : Cl P w K mg base 1 "_is_pair" ["told"] (spP K F__is_pair)) (c_is_whole : Cl P w K mg base 2 "is_whole" ["told"] (spP K F_is_whole)) : FnOk P w K mg base CX0 3 f fd ["told"] (spP K F_is_place) := by
  refine fn_P Fn sc_is_place (fun ds G h => ?_) (fun cdv A outer s H Q E ds G hr hF hQ => ?_)
  · obtain ⟨x, y, rfl, hG⟩ := h
    rfl
  · obtain ⟨x, y, rfl, hG⟩ := hF
    refine (as_ret hQ (c_and (c_call c__is_pair (hr.mono (by decide)) (ca_cons (nm 0 rfl (ca_nil ⟨_, _, rfl, And.intro rfl (c_and (c_call c_is_whole (hr.mono (by decide)) (ca_cons (c_ixTn (nm 0 rfl (c_int (And.intro (by decide) (ca_nil ⟨_, rfl, And.intro rfl (c_one (c_call c_is_whole (hr.mono (by decide)) (ca_cons (c_ixTn (nm 0 rfl (c_int (And.intro (by decide) (ca_nil ⟨_, rfl, And.intro rfl (And.intro rfl ?h1)⟩))))))))⟩))))))))⟩))))))
    case h1 =>
      exact hG

/-! ### check_place -/
abbrev s_check_place : Stmt := topS 21
theorem sc_check_place : FnScope ["told"] ["told"] (defScope s_check_place) := ⟨rfl, rfl, rfl, by decide +kernel, rfl, by decide +kernel, by decide +kernel⟩
def F_check_place : FP := fun ds Q => ∃ x y, ds = [plD x y] ∧ Q .non
theorem ok_check_place {f : Addr} {fd : FuncData} (Fn : Fun K "check_place" "check_place" s_check_place f fd) (c_is_place : Cl P w K mg base 3 "is_place" ["told"] (spP K F_is_place)) : FnOk P w K mg base CX0 4 f fd ["told"] (spP K F_check_place) := by
  refine fn_P Fn sc_check_place (fun ds G h => ?_) (fun cdv A outer s H Q E ds G hr hF hQ => ?_)
  · obtain ⟨x, y, rfl, hG⟩ := h
    rfl
  · obtain ⟨x, y, rfl, hG⟩ := hF
    refine (as_ifn (t_not (t_val (c_call c_is_place (hr.mono (by decide)) (ca_cons (nm 0 rfl (ca_nil ⟨_, _, rfl, And.intro rfl (as_nil fun _ H1 _ hk e0 _ => hQ .non _ .non H1 hG e0 hk .non)⟩)))))))

/-! ### is_matrix -/
abbrev s_is_matrix : Stmt := topS 24
theorem sc_is_matrix : FnScope ["kind", "told", "line", "p", "_", "zero", "t"] ["kind", "told"] (defScope s_is_matrix) := ⟨rfl, rfl, rfl, by decide +kernel, rfl, by decide +kernel, by decide +kernel⟩
def F_is_matrix : FP := fun ds Q => ∃ k a b z t, ds = [.int k, mD a b z t] ∧ (Kd k ∧ B2 3900 a ∧ B2 3900 t) ∧ Q (.bl (decide (z = (0, 0) ∧ U k a ∧ U k t)))
theorem ok_is_matrix {f : Addr} {fd : FuncData} (Fn : Fun K "is_matrix" "is_matrix" s_is_matrix f fd) (c_check_kind : Cl P w K mg base 3 "check_kind" ["kind"] (spP K F_check_kind)) (c_is_whole : Cl P w K mg base 2 "is_whole" ["told"] (spP K F_is_whole)) (c__keeps_sides : Cl P w K mg base 2 "_keeps_sides" ["kind", "pair"] (spP K F__keeps_sides)) (m_isinstance : mg "isinstance" = none) (m_tuple : mg "tuple" = none) (m_len : mg "len" = none) (t_ZERO : KT K mg "ZERO" [.int 0, .int 0]) : FnOk P w K mg base CX0 4 f fd ["kind", "told"] (spP K F_is_matrix) := by
  refine fn_P Fn sc_is_matrix (fun ds G h => ?_) (fun cdv A outer s H Q E ds G hr hF hQ => ?_)
  · obtain ⟨k, a, b, z, t, rfl, ⟨hk, ⟨ha1, ha2⟩, ht1, ht2⟩, hG⟩ := h
    rfl
  · obtain ⟨k, a, b, z, t, rfl, ⟨hk, ⟨ha1, ha2⟩, ht1, ht2⟩, hG⟩ := hF
    refine (as_drop (c_call c_check_kind (hr.mono (by decide)) (ca_cons (nm 0 rfl (ca_nil ⟨_, rfl, ?h1, And.intro rfl (as_ifn (t_w (w_or (t_not (t_val (c_isi (U := "tuple") m_isinstance (ca_cons (nm 1 rfl (ca_cons (c_ty (T := "tuple") m_tuple (by decide +kernel) (ca_nil ⟨rfl, _, true, rfl, (by decide +kernel), (w_or1 (t_neI (c_lenT m_len (ca_cons (nm 1 rfl (ca_nil (c_int (And.intro (fun h => absurd rfl h) (fun _ => (as_forT (i := 2) sc_is_matrix.nd rfl PassesOwn.never (nm 1 rfl ⟨(fun _ es q => ∃ x, es = [some (.int k), some (mD a b z t), x, none, none, none, none] ∧ q = []), (fun _ _ => False), ⟨_, rfl, rfl⟩, ⟨fun H10 e10 fr0 j d es q hj hd hw => ?h2, fun es q hw => ?h3, fun _ _ h => h.elim⟩⟩)))))))))))⟩)))))))))))⟩)))))
    case h1 =>
      assumption
    case h2 =>
      obtain ⟨x, rfl, rfl⟩ := hw
      obtain ⟨l1, l2, rfl⟩ : ∃ l1 l2, d = plD l1 l2 := by
        match j, hj, hd with
        | 0, _, h => exact ⟨_, _, (Option.some.inj h).symm⟩
        | 1, _, h => exact ⟨_, _, (Option.some.inj h).symm⟩
      refine (as_ifn (t_w (w_or (t_not (t_val (c_isi (U := "tuple") m_isinstance (ca_cons (nm 2 rfl (ca_cons (c_ty (T := "tuple") m_tuple (by decide +kernel) (ca_nil ⟨rfl, _, true, rfl, (by decide +kernel), (w_or (t_neI (c_lenT m_len (ca_cons (nm 2 rfl (ca_nil (c_int (And.intro (fun h => absurd rfl h) (fun _ => (w_or1 (t_not (t_w (w_and (t_val (c_call c_is_whole (hr.mono (by decide)) (ca_cons (c_ixTn (nm 2 rfl (c_int (And.intro (by decide) (ca_nil ⟨_, rfl, And.intro rfl (w_and1 (t_val (c_call c_is_whole (hr.mono (by decide)) (ca_cons (c_ixTn (nm 2 rfl (c_int (And.intro (by decide) (ca_nil ⟨_, rfl, And.intro rfl (as_end rfl ⟨_, rfl, rfl⟩)⟩)))))))))⟩)))))))))))))))))))))⟩)))))))))))
    case h3 =>
      obtain ⟨x, rfl, rfl⟩ := hw
      refine (as_unp22 (i := 3) (j := 4) (l := 5) (m := 6) sc_is_matrix.nd rfl (nm 1 rfl ⟨_, _, _, _, rfl, (as_ret hQ (c_andB (c_eqD hr.units (nm 5 rfl (c_kt t_ZERO (And.intro ?h4 (And.intro (fun b1 => (c_andB (c_call c__keeps_sides (hr.mono (by decide)) (ca_cons (nm 0 rfl (ca_cons (nm 3 rfl (ca_nil ⟨_, _, rfl, ?h5, And.intro rfl (And.intro (fun b3 => (c_one (c_call c__keeps_sides (hr.mono (by decide)) (ca_cons (nm 0 rfl (ca_cons (nm 6 rfl (ca_nil ⟨_, _, rfl, ?h6, And.intro rfl (And.intro rfl ?h7)⟩)))))))) (fun b4 => (And.intro rfl ?h8)))⟩)))))))) (fun b2 => (And.intro rfl ?h9)))))))))⟩))
      case h4 =>
        exact ⟨⟨rfl, rfl⟩, rfl, rfl⟩
      case h5 =>
        walk_at "b2"
      case h6 =>
        walk_at "b2"
      case h7 =>
        first
          | (have e1 : z = (0, 0) := of_decide_eq_true ((eqv_pD z (0, 0)).symm.trans b1)
             have e2 : U k a := of_decide_eq_true b3
             rw [show decide (z = (0, 0) ∧ U k a ∧ U k t) = decide (U k t) from decide_eq_decide.mpr ⟨fun q => q.2.2, fun q => ⟨e1, e2, q⟩⟩] at hG
             exact hG)
          | (have e1 : ¬ z = (0, 0) := of_decide_eq_false ((eqv_pD z (0, 0)).symm.trans b2)
             rw [show decide (z = (0, 0) ∧ U k a ∧ U k t) = false from decide_eq_false (fun q => e1 q.1)] at hG
             exact hG)
          | (have e1 : ¬ U k a := of_decide_eq_false b4
             rw [show decide (z = (0, 0) ∧ U k a ∧ U k t) = false from decide_eq_false (fun q => e1 q.2.1)] at hG
             exact hG)
      case h8 =>
        first
          | (have e1 : z = (0, 0) := of_decide_eq_true ((eqv_pD z (0, 0)).symm.trans b1)
             have e2 : U k a := of_decide_eq_true b3
             rw [show decide (z = (0, 0) ∧ U k a ∧ U k t) = decide (U k t) from decide_eq_decide.mpr ⟨fun q => q.2.2, fun q => ⟨e1, e2, q⟩⟩] at hG
             exact hG)
          | (have e1 : ¬ z = (0, 0) := of_decide_eq_false ((eqv_pD z (0, 0)).symm.trans b2)
             rw [show decide (z = (0, 0) ∧ U k a ∧ U k t) = false from decide_eq_false (fun q => e1 q.1)] at hG
             exact hG)
          | (have e1 : ¬ U k a := of_decide_eq_false b4
             rw [show decide (z = (0, 0) ∧ U k a ∧ U k t) = false from decide_eq_false (fun q => e1 q.2.1)] at hG
             exact hG)
      case h9 =>
        first
          | (have e1 : z = (0, 0) := of_decide_eq_true ((eqv_pD z (0, 0)).symm.trans b1)
             have e2 : U k a := of_decide_eq_true b3
             rw [show decide (z = (0, 0) ∧ U k a ∧ U k t) = decide (U k t) from decide_eq_decide.mpr ⟨fun q => q.2.2, fun q => ⟨e1, e2, q⟩⟩] at hG
             exact hG)
          | (have e1 : ¬ z = (0, 0) := of_decide_eq_false ((eqv_pD z (0, 0)).symm.trans b2)
             rw [show decide (z = (0, 0) ∧ U k a ∧ U k t) = false from decide_eq_false (fun q => e1 q.1)] at hG
             exact hG)
          | (have e1 : ¬ U k a := of_decide_eq_false b4
             rw [show decide (z = (0, 0) ∧ U k a ∧ U k t) = false from decide_eq_false (fun q => e1 q.2.1)] at hG
             exact hG)

theorem inv_b1 {k : Int} {p : Z2} {n : Nat} (hk : Kd k) (h1 : Bd n p.1) (h2 : Bd n p.2) : Bd (3 * n + 5) (inv k p).1 := ((mate_b1 h1 h2).mul (nrm_b hk h1 h2)).mono (by omega)
theorem inv_b2 {k : Int} {p : Z2} {n : Nat} (hk : Kd k) (h1 : Bd n p.1) (h2 : Bd n p.2) : Bd (3 * n + 5) (inv k p).2 := ((mate_b2 h2).mul (nrm_b hk h1 h2)).mono (by omega)

end
end Y29

set_option Elab.async false
set_option linter.all false
set_option maxRecDepth 100000
set_option maxHeartbeats 8000000
namespace Y29
open PySem PySem.Spec PyProof.Rows L2 Evl Wz
local macro_rules | `(tactic| walk_at "bd") => `(tactic| (repeat (first | assumption | apply mate_b1 | apply mate_b2 | apply mul_b1 | apply mul_b2 | apply nrm_b | apply inv_b1 | apply inv_b2 | apply Bd.mul | apply Bd.add | apply Bd.sub | apply Bd.neg | exact Bd.z | exact Bd.of _)))
local macro_rules | `(tactic| walk_at "bm") => `(tactic| (first | assumption | exact Bd.mono (by walk_at "bd") (by decide)))
local macro_rules | `(tactic| walk_at "b2") => `(tactic| (repeat (first | assumption | apply And.intro | walk_at "bm" | decide | omega)))
section
variable {P : Program} {w : World} {K : PySem.W.Frag} {mg : Str → Option Value} {base : Heap}
/-! ### is_unit -/
abbrev s_is_unit : Stmt := topS 26
theorem sc_is_unit : FnScope ["kind", "told"] ["kind", "told"] (defScope s_is_unit) := ⟨rfl, rfl, rfl, by decide +kernel, rfl, by decide +kernel, by decide +kernel⟩
def F_is_unit : FP := fun ds Q => ∃ k p, ds = [.int k, pD p] ∧ (Kd k ∧ B2 3900 p) ∧ Q (.bl (decide (U k p ∧ Pos k p)))
theorem ok_is_unit {f : Addr} {fd : FuncData} (Fn : Fun K "is_unit" "is_unit" s_is_unit f fd) (c_check_kind : Cl P w K mg base 3 "check_kind" ["kind"] (spP K F_check_kind)) (c_is_whole : Cl P w K mg base 2 "is_whole" ["told"] (spP K F_is_whole)) (c__keeps_sides : Cl P w K mg base 2 "_keeps_sides" ["kind", "pair"] (spP K F__keeps_sides)) (c_whole_sign : Cl P w K mg base 1 "whole_sign" ["kind", "a", "b"] (spP K F_whole_sign)) : FnOk P w K mg base CX0 4 f fd ["kind", "told"] (spP K F_is_unit) := by
  refine fn_P Fn sc_is_unit (fun ds G h => ?_) (fun cdv A outer s H Q E ds G hr hF hQ => ?_)
  · obtain ⟨k, p, rfl, ⟨hk, hp1, hp2⟩, hG⟩ := h
    rfl
  · obtain ⟨k, p, rfl, ⟨hk, hp1, hp2⟩, hG⟩ := hF
    refine (as_drop (c_call c_check_kind (hr.mono (by decide)) (ca_cons (nm 0 rfl (ca_nil ⟨_, rfl, ?h1, And.intro rfl (as_ret hQ (c_and (c_call c_is_whole (hr.mono (by decide)) (ca_cons (nm 1 rfl (ca_nil ⟨_, rfl, And.intro rfl (c_andB (c_call c__keeps_sides (hr.mono (by decide)) (ca_cons (nm 0 rfl (ca_cons (nm 1 rfl (ca_nil ⟨_, _, rfl, ?h2, And.intro rfl (And.intro (fun b1 => (c_one (c_gt (c_call c_whole_sign (hr.mono (by decide)) (ca_cons (nm 0 rfl (ca_cons (c_ixTn (nm 1 rfl (c_int (And.intro (by decide) (ca_cons (c_ixTn (nm 1 rfl (c_int (And.intro (by decide) (ca_nil ⟨_, _, _, rfl, ?h3, fun s1 hs1 => And.intro rfl (c_int (And.intro rfl ?h4))⟩))))))))))))))))) (fun b2 => (And.intro rfl ?h5)))⟩)))))))⟩))))))⟩)))))
    case h1 =>
      assumption
    case h2 =>
      walk_at "b2"
    case h3 =>
      walk_at "b2"
    case h4 =>
      first
        | (have e1 : U k p := of_decide_eq_true b1
           rw [show decide (U k p ∧ Pos k p) = decide (0 < s1) from decide_eq_decide.mpr ⟨fun q => hs1.mpr q.2, fun q => ⟨e1, hs1.mp q⟩⟩] at hG
           exact hG)
        | (have e1 : ¬ U k p := of_decide_eq_false b2
           rw [show decide (U k p ∧ Pos k p) = false from decide_eq_false (fun q => e1 q.1)] at hG
           exact hG)
    case h5 =>
      first
        | (have e1 : U k p := of_decide_eq_true b1
           rw [show decide (U k p ∧ Pos k p) = decide (0 < s1) from decide_eq_decide.mpr ⟨fun q => hs1.mpr q.2, fun q => ⟨e1, hs1.mp q⟩⟩] at hG
           exact hG)
        | (have e1 : ¬ U k p := of_decide_eq_false b2
           rw [show decide (U k p ∧ Pos k p) = false from decide_eq_false (fun q => e1 q.1)] at hG
           exact hG)

/-! ### check_matrix -/
abbrev s_check_matrix : Stmt := topS 27
theorem sc_check_matrix : FnScope ["kind", "told"] ["kind", "told"] (defScope s_check_matrix) := ⟨rfl, rfl, rfl, by decide +kernel, rfl, by decide +kernel, by decide +kernel⟩
def F_check_matrix : FP := fun ds Q => ∃ k a b t, ds = [.int k, mD a b (0, 0) t] ∧ (Kd k ∧ B2 3900 a ∧ B2 3900 t ∧ U k a ∧ U k t) ∧ Q .non
theorem ok_check_matrix {f : Addr} {fd : FuncData} (Fn : Fun K "check_matrix" "check_matrix" s_check_matrix f fd) (c_is_matrix : Cl P w K mg base 4 "is_matrix" ["kind", "told"] (spP K F_is_matrix)) : FnOk P w K mg base CX0 5 f fd ["kind", "told"] (spP K F_check_matrix) := by
  refine fn_P Fn sc_check_matrix (fun ds G h => ?_) (fun cdv A outer s H Q E ds G hr hF hQ => ?_)
  · obtain ⟨k, a, b, t, rfl, ⟨hk, ⟨ha1, ha2⟩, ⟨ht1, ht2⟩, ua, ut⟩, hG⟩ := h
    rfl
  · obtain ⟨k, a, b, t, rfl, ⟨hk, ⟨ha1, ha2⟩, ⟨ht1, ht2⟩, ua, ut⟩, hG⟩ := hF
    refine (as_ifn (t_not (t_valB (c_call c_is_matrix (hr.mono (by decide)) (ca_cons (nm 0 rfl (ca_cons (nm 1 rfl (ca_nil ⟨_, _, _, _, _, rfl, ?h1, And.intro rfl (And.intro (fun b1 => (as_nil fun _ H1 _ hk e0 _ => hQ .non _ .non H1 hG e0 hk .non)) (fun b1 => ?h2))⟩)))))))))
    case h1 =>
      walk_at "b2"
    case h2 =>
      exact absurd (b1.symm.trans (decide_eq_true ⟨rfl, ua, ut⟩)) Bool.false_ne_true

abbrev Mx := Z2 × Z2 × Z2
abbrev xD (m : Mx) : Dat := mD m.1 m.2.1 (0, 0) m.2.2
abbrev lD (p : Z2 × Z2) : Dat := plD p.1 p.2
abbrev MB (n : Nat) (m : Mx) : Prop := B2 n m.1 ∧ B2 n m.2.1 ∧ B2 n m.2.2
abbrev MU (k : Int) (m : Mx) : Prop := U k m.1 ∧ U k m.2.2
def tak (k : Int) (m : Mx) (x : Z2 × Z2) : Z2 × Z2 := (add2 (mul k m.1 x.1) (mul k m.2.1 x.2), mul k m.2.2 x.2)
def neg2 (p : Z2) : Z2 := (0 - p.1, 0 - p.2)
def und (k : Int) (m : Mx) : Mx := (inv k m.1, neg2 (mul k (inv k m.1) (mul k m.2.1 (inv k m.2.2))), inv k m.2.2)
def beh (k : Int) (m l : Mx) : Mx := (mul k m.1 l.1, add2 (mul k m.1 l.2.1) (mul k m.2.1 l.2.2), mul k m.2.2 l.2.2)
theorem mul_zero (k : Int) (p : Z2) : mul k p (0, 0) = (0, 0) := by
  unfold mul
  split <;> exact Prod.ext (by simp) (by simp)
theorem add_zero (p : Z2) : add2 p (0, 0) = p := by unfold add2; exact Prod.ext (by simp) (by simp)

/-! ### _taken_pairs -/
abbrev s__taken_pairs : Stmt := topS 29
theorem sc__taken_pairs : FnScope ["kind", "matrix", "x", "y", "p", "q", "_", "t"] ["kind", "matrix", "x", "y"] (defScope s__taken_pairs) := ⟨rfl, rfl, rfl, by decide +kernel, rfl, by decide +kernel, by decide +kernel⟩
def F__taken_pairs : FP := fun ds Q => ∃ (k : Int) (m : Mx) (x : Z2 × Z2), ds = [.int k, xD m, pD x.1, pD x.2] ∧ (Kd k ∧ MB 1900 m ∧ B2 1900 x.1 ∧ B2 1900 x.2) ∧ Q (lD (tak k m x))
theorem ok__taken_pairs {f : Addr} {fd : FuncData} (Fn : Fun K "_taken_pairs" "_taken_pairs" s__taken_pairs f fd) (c_pair_sum : Cl P w K mg base 1 "pair_sum" ["p", "q"] (spP K F_pair_sum)) (c_pair_times : Cl P w K mg base 1 "pair_times" ["kind", "p", "q"] (spP K F_pair_times)) : FnOk P w K mg base CX0 2 f fd ["kind", "matrix", "x", "y"] (spP K F__taken_pairs) := by
  refine fn_P Fn sc__taken_pairs (fun ds G h => ?_) (fun cdv A outer s H Q E ds G hr hF hQ => ?_)
  · obtain ⟨k, m, x, rfl, ⟨hk, ⟨⟨ha1, ha2⟩, ⟨hb1, hb2⟩, ⟨ht1, ht2⟩⟩, ⟨hx1, hx2⟩, ⟨hy1, hy2⟩⟩, hG⟩ := h
    rfl
  · obtain ⟨k, m, x, rfl, ⟨hk, ⟨⟨ha1, ha2⟩, ⟨hb1, hb2⟩, ⟨ht1, ht2⟩⟩, ⟨hx1, hx2⟩, ⟨hy1, hy2⟩⟩, hG⟩ := hF
    refine (as_unp22 (i := 4) (j := 5) (l := 6) (m := 7) sc__taken_pairs.nd rfl (nm 1 rfl ⟨_, _, _, _, rfl, (as_ret hQ (c_tup (ca_cons (c_call c_pair_sum (hr.mono (by decide)) (ca_cons (c_call c_pair_times (hr.mono (by decide)) (ca_cons (nm 0 rfl (ca_cons (nm 4 rfl (ca_cons (nm 2 rfl (ca_nil ⟨_, _, _, rfl, ?h1, And.intro rfl (ca_cons (c_call c_pair_times (hr.mono (by decide)) (ca_cons (nm 0 rfl (ca_cons (nm 5 rfl (ca_cons (nm 3 rfl (ca_nil ⟨_, _, _, rfl, ?h2, And.intro rfl (ca_nil ⟨_, _, rfl, And.intro rfl (ca_cons (c_call c_pair_times (hr.mono (by decide)) (ca_cons (nm 0 rfl (ca_cons (nm 7 rfl (ca_cons (nm 3 rfl (ca_nil ⟨_, _, _, rfl, ?h3, And.intro rfl (ca_nil (And.intro (And.intro rfl (Nat.le_of_ble_eq_true rfl)) (And.intro rfl ?h4)))⟩)))))))))⟩)⟩)))))))))⟩)))))))))))))⟩))
    case h1 =>
      walk_at "b2"
    case h2 =>
      walk_at "b2"
    case h3 =>
      walk_at "b2"
    case h4 =>
      exact hG

/-! ### taken -/
abbrev s_taken : Stmt := topS 28
theorem sc_taken : FnScope ["kind", "matrix", "place"] ["kind", "matrix", "place"] (defScope s_taken) := ⟨rfl, rfl, rfl, by decide +kernel, rfl, by decide +kernel, by decide +kernel⟩
def F_taken : FP := fun ds Q => ∃ (k : Int) (m : Mx) (x : Z2 × Z2), ds = [.int k, xD m, lD x] ∧ (Kd k ∧ MB 1900 m ∧ MU k m ∧ B2 1900 x.1 ∧ B2 1900 x.2) ∧ Q (lD (tak k m x))
theorem ok_taken {f : Addr} {fd : FuncData} (Fn : Fun K "taken" "taken" s_taken f fd) (c_check_kind : Cl P w K mg base 3 "check_kind" ["kind"] (spP K F_check_kind)) (c_check_matrix : Cl P w K mg base 5 "check_matrix" ["kind", "told"] (spP K F_check_matrix)) (c_check_place : Cl P w K mg base 4 "check_place" ["told"] (spP K F_check_place)) (c__taken_pairs : Cl P w K mg base 2 "_taken_pairs" ["kind", "matrix", "x", "y"] (spP K F__taken_pairs)) : FnOk P w K mg base CX0 6 f fd ["kind", "matrix", "place"] (spP K F_taken) := by
  refine fn_P Fn sc_taken (fun ds G h => ?_) (fun cdv A outer s H Q E ds G hr hF hQ => ?_)
  · obtain ⟨k, m, x, rfl, ⟨hk, ⟨⟨ha1, ha2⟩, ⟨hb1, hb2⟩, ⟨ht1, ht2⟩⟩, ⟨ua, ut⟩, ⟨hx1, hx2⟩, ⟨hy1, hy2⟩⟩, hG⟩ := h
    rfl
  · obtain ⟨k, m, x, rfl, ⟨hk, ⟨⟨ha1, ha2⟩, ⟨hb1, hb2⟩, ⟨ht1, ht2⟩⟩, ⟨ua, ut⟩, ⟨hx1, hx2⟩, ⟨hy1, hy2⟩⟩, hG⟩ := hF
    refine (as_drop (c_call c_check_kind (hr.mono (by decide)) (ca_cons (nm 0 rfl (ca_nil ⟨_, rfl, ?h1, And.intro rfl (as_drop (c_call c_check_matrix (hr.mono (by decide)) (ca_cons (nm 0 rfl (ca_cons (nm 1 rfl (ca_nil ⟨_, _, _, _, rfl, ?h2, And.intro rfl (as_drop (c_call c_check_place (hr.mono (by decide)) (ca_cons (nm 2 rfl (ca_nil ⟨_, _, rfl, And.intro rfl (as_ret hQ (c_call c__taken_pairs (hr.mono (by decide)) (ca_cons (nm 0 rfl (ca_cons (nm 1 rfl (ca_cons (c_ixTn (nm 2 rfl (c_int (And.intro (by decide) (ca_cons (c_ixTn (nm 2 rfl (c_int (And.intro (by decide) (ca_nil ⟨_, (_, _, _), (_, _), rfl, ?h3, And.intro rfl (And.intro rfl ?h4)⟩)))))))))))))))))⟩)))))⟩)))))))⟩)))))
    case h1 =>
      assumption
    case h2 =>
      walk_at "b2"
    case h3 =>
      walk_at "b2"
    case h4 =>
      exact hG

/-! ### _inverse -/
abbrev s__inverse : Stmt := topS 31
theorem sc__inverse : FnScope ["kind", "pair", "a", "b", "n"] ["kind", "pair"] (defScope s__inverse) := ⟨rfl, rfl, rfl, by decide +kernel, rfl, by decide +kernel, by decide +kernel⟩
def F__inverse : FP := fun ds Q => ∃ (k : Int) (p : Z2), ds = [.int k, pD p] ∧ (Kd k ∧ B2 1900 p) ∧ Q (pD (inv k p))
theorem ok__inverse {f : Addr} {fd : FuncData} (Fn : Fun K "_inverse" "_inverse" s__inverse f fd) (c_pair_mate : Cl P w K mg base 1 "pair_mate" ["kind", "p"] (spP K F_pair_mate)) (c_pair_norm : Cl P w K mg base 1 "pair_norm" ["kind", "p"] (spP K F_pair_norm)) : FnOk P w K mg base CX0 2 f fd ["kind", "pair"] (spP K F__inverse) := by
  refine fn_P Fn sc__inverse (fun ds G h => ?_) (fun cdv A outer s H Q E ds G hr hF hQ => ?_)
  · obtain ⟨k, p, rfl, ⟨hk, hp1, hp2⟩, hG⟩ := h
    rfl
  · obtain ⟨k, p, rfl, ⟨hk, hp1, hp2⟩, hG⟩ := hF
    refine (as_unp2 (i := 2) (j := 3) sc__inverse.nd rfl (c_call c_pair_mate (hr.mono (by decide)) (ca_cons (nm 0 rfl (ca_cons (nm 1 rfl (ca_nil ⟨_, _, rfl, And.intro rfl ⟨_, _, rfl, (as_asg (i := 4) sc__inverse.nd (c_call c_pair_norm (hr.mono (by decide)) (ca_cons (nm 0 rfl (ca_cons (nm 1 rfl (ca_nil ⟨_, _, rfl, ?h1, And.intro rfl (as_ret hQ (c_tup (ca_cons (c_mul (nm 2 rfl (nm 4 rfl (And.intro ?h2 (ca_cons (c_mul (nm 3 rfl (nm 4 rfl (And.intro ?h3 (ca_nil (And.intro (And.intro rfl (Nat.le_of_ble_eq_true rfl)) (And.intro rfl ?h4)))))))))))))))⟩)))))))⟩⟩)))))))
    case h1 =>
      walk_at "b2"
    case h2 =>
      exact cm (by walk_at "bd") (by walk_at "bd") (by decide)
    case h3 =>
      exact cm (by walk_at "bd") (by walk_at "bd") (by decide)
    case h4 =>
      exact hG

/-! ### undone -/
abbrev s_undone : Stmt := topS 30
theorem sc_undone : FnScope ["kind", "matrix", "p", "q", "_", "t", "first", "second", "between"] ["kind", "matrix"] (defScope s_undone) := ⟨rfl, rfl, rfl, by decide +kernel, rfl, by decide +kernel, by decide +kernel⟩
def F_undone : FP := fun ds Q => ∃ (k : Int) (m : Mx), ds = [.int k, xD m] ∧ (Kd k ∧ MB 300 m ∧ MU k m) ∧ Q (xD (und k m))
theorem ok_undone {f : Addr} {fd : FuncData} (Fn : Fun K "undone" "undone" s_undone f fd) (c_check_kind : Cl P w K mg base 3 "check_kind" ["kind"] (spP K F_check_kind)) (c_check_matrix : Cl P w K mg base 5 "check_matrix" ["kind", "told"] (spP K F_check_matrix)) (c__inverse : Cl P w K mg base 2 "_inverse" ["kind", "pair"] (spP K F__inverse)) (c_pair_times : Cl P w K mg base 1 "pair_times" ["kind", "p", "q"] (spP K F_pair_times)) (c_pair_less : Cl P w K mg base 1 "pair_less" ["p", "q"] (spP K F_pair_less)) (t_ZERO : KT K mg "ZERO" [.int 0, .int 0]) : FnOk P w K mg base CX0 6 f fd ["kind", "matrix"] (spP K F_undone) := by
  refine fn_P Fn sc_undone (fun ds G h => ?_) (fun cdv A outer s H Q E ds G hr hF hQ => ?_)
  · obtain ⟨k, m, rfl, ⟨hk, ⟨⟨ha1, ha2⟩, ⟨hb1, hb2⟩, ⟨ht1, ht2⟩⟩, ⟨ua, ut⟩⟩, hG⟩ := h
    rfl
  · obtain ⟨k, m, rfl, ⟨hk, ⟨⟨ha1, ha2⟩, ⟨hb1, hb2⟩, ⟨ht1, ht2⟩⟩, ⟨ua, ut⟩⟩, hG⟩ := hF
    refine (as_drop (c_call c_check_kind (hr.mono (by decide)) (ca_cons (nm 0 rfl (ca_nil ⟨_, rfl, ?h1, And.intro rfl (as_drop (c_call c_check_matrix (hr.mono (by decide)) (ca_cons (nm 0 rfl (ca_cons (nm 1 rfl (ca_nil ⟨_, _, _, _, rfl, ?h2, And.intro rfl (as_unp22 (i := 2) (j := 3) (l := 4) (m := 5) sc_undone.nd rfl (nm 1 rfl ⟨_, _, _, _, rfl, (as_par (i := 6) (j := 7) sc_undone.nd rfl (ca_cons (c_call c__inverse (hr.mono (by decide)) (ca_cons (nm 0 rfl (ca_cons (nm 2 rfl (ca_nil ⟨_, _, rfl, ?h3, And.intro rfl (ca_cons (c_call c__inverse (hr.mono (by decide)) (ca_cons (nm 0 rfl (ca_cons (nm 5 rfl (ca_nil ⟨_, _, rfl, ?h4, And.intro rfl (ca_nil ⟨_, _, rfl, (as_asg (i := 8) sc_undone.nd (c_call c_pair_times (hr.mono (by decide)) (ca_cons (nm 0 rfl (ca_cons (nm 6 rfl (ca_cons (c_call c_pair_times (hr.mono (by decide)) (ca_cons (nm 0 rfl (ca_cons (nm 3 rfl (ca_cons (nm 7 rfl (ca_nil ⟨_, _, _, rfl, ?h5, And.intro rfl (ca_nil ⟨_, _, _, rfl, ?h6, And.intro rfl (as_ret hQ (c_tup (ca_cons (c_tup (ca_cons (nm 6 rfl (ca_cons (c_call c_pair_less (hr.mono (by decide)) (ca_cons (c_kt t_ZERO (ca_cons (nm 8 rfl (ca_nil ⟨(0, 0), _, rfl, And.intro rfl (ca_nil (And.intro (And.intro rfl (Nat.le_of_ble_eq_true rfl)) (ca_cons (c_tup (ca_cons (c_kt t_ZERO (ca_cons (nm 7 rfl (ca_nil (And.intro (And.intro rfl (Nat.le_of_ble_eq_true rfl)) (ca_nil (And.intro (And.intro rfl (Nat.le_of_ble_eq_true rfl)) (And.intro rfl ?h7)))))))))))))⟩)))))))))))))⟩)⟩)))))))))))))))⟩)⟩)))))))⟩))))))))⟩))⟩)))))))⟩)))))
    case h1 =>
      assumption
    case h2 =>
      walk_at "b2"
    case h3 =>
      walk_at "b2"
    case h4 =>
      walk_at "b2"
    case h5 =>
      walk_at "b2"
    case h6 =>
      walk_at "b2"
    case h7 =>
      exact hG

/-! ### behind -/
abbrev s_behind : Stmt := topS 32
theorem sc_behind : FnScope ["kind", "one", "other", "p", "q", "_", "t", "first", "second", "third"] ["kind", "one", "other"] (defScope s_behind) := ⟨rfl, rfl, rfl, by decide +kernel, rfl, by decide +kernel, by decide +kernel⟩
def F_behind : FP := fun ds Q => ∃ (k : Int) (m l : Mx), ds = [.int k, xD m, xD l] ∧ (Kd k ∧ MB 300 m ∧ MU k m ∧ MB 300 l ∧ MU k l) ∧ Q (xD (beh k m l))
theorem ok_behind {f : Addr} {fd : FuncData} (Fn : Fun K "behind" "behind" s_behind f fd) (c_check_kind : Cl P w K mg base 3 "check_kind" ["kind"] (spP K F_check_kind)) (c_check_matrix : Cl P w K mg base 5 "check_matrix" ["kind", "told"] (spP K F_check_matrix)) (c__taken_pairs : Cl P w K mg base 2 "_taken_pairs" ["kind", "matrix", "x", "y"] (spP K F__taken_pairs)) (t_ZERO : KT K mg "ZERO" [.int 0, .int 0]) : FnOk P w K mg base CX0 6 f fd ["kind", "one", "other"] (spP K F_behind) := by
  refine fn_P Fn sc_behind (fun ds G h => ?_) (fun cdv A outer s H Q E ds G hr hF hQ => ?_)
  · obtain ⟨k, m, l, rfl, ⟨hk, ⟨⟨ha1, ha2⟩, ⟨hb1, hb2⟩, ⟨ht1, ht2⟩⟩, ⟨ua, ut⟩, ⟨⟨la1, la2⟩, ⟨lb1, lb2⟩, ⟨lt1, lt2⟩⟩, ⟨va, vt⟩⟩, hG⟩ := h
    rfl
  · obtain ⟨k, m, l, rfl, ⟨hk, ⟨⟨ha1, ha2⟩, ⟨hb1, hb2⟩, ⟨ht1, ht2⟩⟩, ⟨ua, ut⟩, ⟨⟨la1, la2⟩, ⟨lb1, lb2⟩, ⟨lt1, lt2⟩⟩, ⟨va, vt⟩⟩, hG⟩ := hF
    refine (as_drop (c_call c_check_kind (hr.mono (by decide)) (ca_cons (nm 0 rfl (ca_nil ⟨_, rfl, ?h1, And.intro rfl (as_drop (c_call c_check_matrix (hr.mono (by decide)) (ca_cons (nm 0 rfl (ca_cons (nm 1 rfl (ca_nil ⟨_, _, _, _, rfl, ?h2, And.intro rfl (as_drop (c_call c_check_matrix (hr.mono (by decide)) (ca_cons (nm 0 rfl (ca_cons (nm 2 rfl (ca_nil ⟨_, _, _, _, rfl, ?h3, And.intro rfl (as_unp22 (i := 3) (j := 4) (l := 5) (m := 6) sc_behind.nd rfl (nm 2 rfl ⟨_, _, _, _, rfl, (as_unp2 (i := 7) (j := 5) sc_behind.nd rfl (c_call c__taken_pairs (hr.mono (by decide)) (ca_cons (nm 0 rfl (ca_cons (nm 1 rfl (ca_cons (nm 3 rfl (ca_cons (c_kt t_ZERO (ca_nil ⟨_, (_, _, _), (_, (0, 0)), rfl, ?h4, And.intro rfl ⟨_, _, rfl, (as_unp2 (i := 8) (j := 9) sc_behind.nd rfl (c_call c__taken_pairs (hr.mono (by decide)) (ca_cons (nm 0 rfl (ca_cons (nm 1 rfl (ca_cons (nm 4 rfl (ca_cons (nm 6 rfl (ca_nil ⟨_, (_, _, _), (_, _), rfl, ?h5, And.intro rfl ⟨_, _, rfl, (as_ret hQ (c_tup (ca_cons (c_tup (ca_cons (nm 7 rfl (ca_cons (nm 8 rfl (ca_nil (And.intro (And.intro rfl (Nat.le_of_ble_eq_true rfl)) (ca_cons (c_tup (ca_cons (c_kt t_ZERO (ca_cons (nm 9 rfl (ca_nil (And.intro (And.intro rfl (Nat.le_of_ble_eq_true rfl)) (ca_nil (And.intro (And.intro rfl (Nat.le_of_ble_eq_true rfl)) (And.intro rfl ?h6)))))))))))))))))))))⟩⟩)))))))))))⟩⟩)))))))))))⟩))⟩)))))))⟩)))))))⟩)))))
    case h1 =>
      assumption
    case h2 =>
      walk_at "b2"
    case h3 =>
      walk_at "b2"
    case h4 =>
      walk_at "b2"
    case h5 =>
      walk_at "b2"
    case h6 =>
      unfold beh at hG
      rw [show mul k m.1 l.1 = add2 (mul k m.1 l.1) (mul k m.2.1 (0, 0)) by rw [mul_zero, add_zero]] at hG
      exact hG

end
end Y29

set_option Elab.async false
set_option linter.all false
set_option maxRecDepth 100000
set_option maxHeartbeats 8000000
namespace Y29
open PySem PySem.Spec PyProof.Rows L2 Evl Wz
local macro_rules | `(tactic| walk_at "bd") => `(tactic| (repeat (first | assumption | apply mate_b1 | apply mate_b2 | apply mul_b1 | apply mul_b2 | apply nrm_b | apply inv_b1 | apply inv_b2 | apply Bd.mul | apply Bd.add | apply Bd.sub | apply Bd.neg | exact Bd.z | exact Bd.of _)))
local macro_rules | `(tactic| walk_at "bm") => `(tactic| (first | assumption | exact Bd.mono (by walk_at "bd") (by decide)))
local macro_rules | `(tactic| walk_at "b2") => `(tactic| (repeat (first | assumption | apply And.intro | walk_at "bm" | decide | omega)))

theorem Bd.ofle {n : Nat} {i : Int} (h1 : 0 ≤ i) (h2 : i < 2 ^ n) : Bd n i := by
  have h3 : (0 : Int) < 2 ^ n := Int.pow_pos (by decide)
  exact Bd.rng (by omega) h2
/-- the stock, behind at most n draws -/
def Dk (n : Nat) (s : List Dat) : Prop := ∃ f m c : Int, s = [.int f, .int m, .int c] ∧ 0 ≤ f ∧ (0 ≤ m ∧ m < 2 ^ 94) ∧ 0 ≤ c ∧ c ≤ n
theorem Dk.mono {n m : Nat} {s : List Dat} (h : Dk n s) (l : n ≤ m) : Dk m s := by
  obtain ⟨f, a, c, h1, h2, h3, h4, h5⟩ := h
  exact ⟨f, a, c, h1, h2, h3, h4, by omega⟩
theorem Dk.nl {n : Nat} {s : List Dat} (h : Dk n s) : s.all noL = true := by
  obtain ⟨f, a, c, rfl, _⟩ := h
  rfl
theorem at_map {ns : List Int} {t : Nat} (h : ((t : Nat) : Int) < ((ns.map Dat.int).length : Int)) : (ns.map Dat.int)[t]? = some (.int (ns.getD t 0)) := by
  rw [List.length_map] at h
  have hl : t < ns.length := by omega
  rw [List.getElem?_map, List.getElem?_eq_getElem hl, List.getD_eq_getElem?_getD, List.getElem?_eq_getElem hl]
  rfl
theorem mod28 (x : Int) : 0 ≤ x % (10 ^ (28 : Int).toNat + 331) ∧ x % (10 ^ (28 : Int).toNat + 331) < 2 ^ 94 := by
  have h : (0 : Int) < 10 ^ (28 : Int).toNat + 331 := by decide
  have h2 : (10 ^ (28 : Int).toNat + 331 : Int) < 2 ^ 94 := by decide
  exact ⟨Int.emod_nonneg _ (by omega), Int.lt_trans (Int.emod_lt_of_pos _ h) h2⟩
section
variable {P : Program} {w : World} {K : PySem.W.Frag} {mg : Str → Option Value} {base : Heap}

/-! ### _law_stock -/
abbrev s__law_stock : Stmt := topS 34
theorem sc__law_stock : FnScope ["script", "spot", "cell", "figures"] ["script", "spot"] (defScope s__law_stock) := ⟨rfl, rfl, rfl, by decide +kernel, rfl, by decide +kernel, by decide +kernel⟩
def F__law_stock : FN := fun ds Q => ∃ (ns : List Int) (t : Nat), ds = [.lst (ns.map Dat.int), .int (t : Int)] ∧ ∀ s, Dk 0 s → Q s
theorem ok__law_stock {f : Addr} {fd : FuncData} (Fn : Fun K "_law_stock" "_law_stock" s__law_stock f fd) (m_len : mg "len" = none) (m_int : mg "int" = none) : FnOk P w K mg base CX0 1 f fd ["script", "spot"] (spN K F__law_stock) := by
  refine fn_N Fn sc__law_stock (fun ds G h => ?_) (fun cdv A outer s H Q E ds G hr hF hQ => ?_)
  · obtain ⟨ns, t, rfl, hG⟩ := h
    rfl
  · obtain ⟨ns, t, rfl, hG⟩ := hF
    refine (as_asg (i := 2) sc__law_stock.nd (c_if (t_lt (nm 1 rfl (c_lenL m_len (ca_cons (nm 0 rfl (ca_nil (And.intro (fun b1 => (c_ixL (nm 0 rfl (nm 1 rfl ⟨t, .int (ns.getD t 0), rfl, ?h1, (as_asg (i := 3) sc__law_stock.nd (c_if (t_ge (nm 2 rfl (c_powW (c_int (c_int (And.intro ?h2 (And.intro (fun b2 => (c_sub (nm 2 rfl (c_powW (c_int (c_int (And.intro ?h3 (as_retN hQ (n_disp (ca_cons (nm 3 rfl (ca_cons (c_mod (c_intI m_int (ca_cons (c_add (c_add (c_mulS (nm 2 rfl (c_int (And.intro (.inr (And.intro (by decide) (by decide))) (c_mulS (nm 1 rfl (c_int (And.intro (.inr (And.intro (by decide) (by decide))) (c_int (ca_nil (c_add (c_powW (c_int (c_int (And.intro ?h4 (c_int (And.intro ?h5 (ca_cons (c_int (ca_nil (And.intro (And.intro rfl (Nat.le_of_ble_eq_true rfl)) ?h6)))))))))))))))))))))))))))))))))))))) (fun b2 => (c_int (as_retN hQ (n_disp (ca_cons (nm 3 rfl (ca_cons (c_mod (c_intI m_int (ca_cons (c_add (c_add (c_mulS (nm 2 rfl (c_int (And.intro (.inr (And.intro (by decide) (by decide))) (c_mulS (nm 1 rfl (c_int (And.intro (.inr (And.intro (by decide) (by decide))) (c_int (ca_nil (c_add (c_powW (c_int (c_int (And.intro ?h7 (c_int (And.intro ?h8 (ca_cons (c_int (ca_nil (And.intro (And.intro rfl (Nat.le_of_ble_eq_true rfl)) ?h9))))))))))))))))))))))))))))))))))))))))))⟩)))) (fun b1 => (c_add (c_add (c_mulS (c_int (nm 1 rfl (And.intro (.inl (And.intro (by decide) (by decide))) (c_mulS (c_int (c_lenL m_len (ca_cons (nm 0 rfl (ca_nil (And.intro (.inl (And.intro (by decide) (by decide))) (c_int (as_asg (i := 3) sc__law_stock.nd (c_if (t_ge (nm 2 rfl (c_powW (c_int (c_int (And.intro ?h10 (And.intro (fun b3 => (c_sub (nm 2 rfl (c_powW (c_int (c_int (And.intro ?h11 (as_retN hQ (n_disp (ca_cons (nm 3 rfl (ca_cons (c_mod (c_intI m_int (ca_cons (c_add (c_add (c_mulS (nm 2 rfl (c_int (And.intro (.inr (And.intro (by decide) (by decide))) (c_mulS (nm 1 rfl (c_int (And.intro (.inr (And.intro (by decide) (by decide))) (c_int (ca_nil (c_add (c_powW (c_int (c_int (And.intro ?h12 (c_int (And.intro ?h13 (ca_cons (c_int (ca_nil (And.intro (And.intro rfl (Nat.le_of_ble_eq_true rfl)) ?h14)))))))))))))))))))))))))))))))))))))) (fun b3 => (c_int (as_retN hQ (n_disp (ca_cons (nm 3 rfl (ca_cons (c_mod (c_intI m_int (ca_cons (c_add (c_add (c_mulS (nm 2 rfl (c_int (And.intro (.inr (And.intro (by decide) (by decide))) (c_mulS (nm 1 rfl (c_int (And.intro (.inr (And.intro (by decide) (by decide))) (c_int (ca_nil (c_add (c_powW (c_int (c_int (And.intro ?h15 (c_int (And.intro ?h16 (ca_cons (c_int (ca_nil (And.intro (And.intro rfl (Nat.le_of_ble_eq_true rfl)) ?h17))))))))))))))))))))))))))))))))))))))))))))))))))))))))))))))))))
    case h1 =>
      exact at_map b1
    case h2 =>
      exact cpw (by first | omega | decide) (by walk_at "bd") (by decide)
    case h3 =>
      exact cpw (by first | omega | decide) (by walk_at "bd") (by decide)
    case h4 =>
      exact cpw (by first | omega | decide) (by walk_at "bd") (by decide)
    case h5 =>
      first | omega | decide
    case h6 =>
      first
        | exact hG _ ⟨_, _, _, rfl, by omega, mod28 _, Int.le_refl _, Int.le_refl _⟩
    case h7 =>
      exact cpw (by first | omega | decide) (by walk_at "bd") (by decide)
    case h8 =>
      first | omega | decide
    case h9 =>
      first
        | exact hG _ ⟨_, _, _, rfl, by omega, mod28 _, Int.le_refl _, Int.le_refl _⟩
    case h10 =>
      exact cpw (by first | omega | decide) (by walk_at "bd") (by decide)
    case h11 =>
      exact cpw (by first | omega | decide) (by walk_at "bd") (by decide)
    case h12 =>
      exact cpw (by first | omega | decide) (by walk_at "bd") (by decide)
    case h13 =>
      first | omega | decide
    case h14 =>
      first
        | exact hG _ ⟨_, _, _, rfl, by omega, mod28 _, Int.le_refl _, Int.le_refl _⟩
    case h15 =>
      exact cpw (by first | omega | decide) (by walk_at "bd") (by decide)
    case h16 =>
      first | omega | decide
    case h17 =>
      first
        | exact hG _ ⟨_, _, _, rfl, by omega, mod28 _, Int.le_refl _, Int.le_refl _⟩

theorem modp {x m : Int} (h : 0 < m) : 0 ≤ x % m ∧ x % m < m := ⟨Int.emod_nonneg _ (by omega), Int.emod_lt_of_pos _ h⟩
theorem divp {x m : Int} (h : 0 < m) (h0 : 0 ≤ x) : 0 ≤ x / m := Int.ediv_nonneg h0 (by omega)
theorem mod27 (x : Int) : Bd 93 (x % (10 ^ (27 : Int).toNat + 103)) := Bd.ofle (Int.emod_nonneg _ (by decide)) (Int.lt_trans (Int.emod_lt_of_pos _ (by decide)) (by decide))
theorem mod26 (x : Int) : 0 ≤ x % (10 ^ (26 : Int).toNat + 67) := Int.emod_nonneg _ (by decide)

/-! ### _law_pick -/
abbrev s__law_pick : Stmt := topS 35
theorem sc__law_pick : FnScope ["stock", "many", "figure", "mixed"] ["stock", "many"] (defScope s__law_pick) := ⟨rfl, rfl, rfl, by decide +kernel, rfl, by decide +kernel, by decide +kernel⟩
def F__law_pick : FD := fun ds c Q => ∃ (m : Int) (n : Nat), ds = [.int m] ∧ (0 < m ∧ Bd 100 m ∧ Dk n c ∧ n ≤ 1000000) ∧ ∀ v c', 0 ≤ v → v < m → Dk (n + 1) c' → Q (.int v) c'
theorem ok__law_pick {f : Addr} {fd : FuncData} (Fn : Fun K "_law_pick" "_law_pick" s__law_pick f fd) (m_int : mg "int" = none) : FnOk P w K mg base CX0 1 f fd ["stock", "many"] (spD K F__law_pick) := by
  refine fn_D Fn sc__law_pick (fun ds c G h => ?_) (fun cdv A outer s H Q E pa ds c G hr hF hQ => ?_)
  · obtain ⟨m, n, rfl, ⟨hm, hbm, ⟨f0, a0, c0, rfl, hf, ⟨ha0, ha1⟩, hc0, hc1⟩, hn⟩, hG⟩ := h
    rfl
  · obtain ⟨m, n, rfl, ⟨hm, hbm, ⟨f0, a0, c0, rfl, hf, ⟨ha0, ha1⟩, hc0, hc1⟩, hn⟩, hG⟩ := hF
    have hba : Bd 94 a0 := Bd.ofle ha0 ha1
    have hbc : Bd 20 c0 := Bd.ofle hc0 (by omega)
    have e1 := mod27
    refine (as_ifn (t_gt (c_ixLn (nm 0 rfl (c_int (And.intro (by decide) (c_int (And.intro (fun b1 => (as_asg (i := 2) sc__law_pick.nd (c_mod (c_intI m_int (ca_cons (c_ixLn (nm 0 rfl (c_int (And.intro (by decide) (ca_nil (nm 1 rfl (And.intro ?h1 (as_cell (c_fdiv (c_ixLn (nm 0 rfl (c_int (And.intro (by decide) (nm 1 rfl (And.intro ?h2 (nm 0 rfl (c_int (And.intro rfl ⟨_, 0, _, rfl, rfl, rfl, ?h3, (as_ret hQ (nm 2 rfl (And.intro rfl ?h4)))⟩))))))))))))))))))))))) (fun b1 => (as_cell (c_add (c_ixLn (nm 0 rfl (c_int (And.intro (by decide) (c_int (nm 0 rfl (c_int (And.intro rfl ⟨_, 2, _, rfl, rfl, rfl, ?h5, (as_asg (i := 3) sc__law_pick.nd (c_mod (c_powW (c_intI m_int (ca_cons (c_add (c_ixLn (nm 0 rfl (c_int (And.intro (by decide) (c_mulS (c_int (c_ixLn (nm 0 rfl (c_int (And.intro (by decide) (And.intro (.inl (And.intro (by decide) (by decide))) (ca_nil (c_int (And.intro ?h6 (c_add (c_powW (c_int (c_int (And.intro ?h7 (c_int (And.intro ?h8 (as_asg (i := 3) sc__law_pick.nd (c_mod (c_powW (c_intI m_int (ca_cons (c_add (nm 3 rfl (c_mul (c_mulS (c_int (c_ixLn (nm 0 rfl (c_int (And.intro (by decide) (And.intro (.inl (And.intro (by decide) (by decide))) (c_ixLn (nm 0 rfl (c_int (And.intro (by decide) (And.intro ?h9 (ca_nil (c_int (And.intro ?h10 (c_add (c_powW (c_int (c_int (And.intro ?h11 (c_int (And.intro ?h12 (as_ret hQ (c_mod (c_intI m_int (ca_cons (c_fdiv (nm 3 rfl (c_int (And.intro ?h13 (ca_nil (nm 1 rfl (And.intro ?h14 (And.intro rfl ?h15)))))))))))))))))))))))))))))))))))))))))))))))))))))))))))))))))))))⟩)))))))))))))))))))
    case h1 =>
      first | omega | decide
    case h2 =>
      first | exact cdw hm hbm (by decide) | exact cdw (by decide) (Bd.of _) (by decide)
    case h3 =>
      exact Nat.le_of_ble_eq_true rfl
    case h4 =>
      first
        | exact ⟨_, rfl, hG _ _ (modp hm).1 (modp hm).2 ⟨_, _, _, rfl, divp hm hf, ⟨ha0, ha1⟩, hc0, by omega⟩⟩
        | exact ⟨_, rfl, hG _ _ (modp hm).1 (modp hm).2 ⟨_, _, _, rfl, hf, ⟨ha0, ha1⟩, by omega, by omega⟩⟩
    case h5 =>
      exact Nat.le_of_ble_eq_true rfl
    case h6 =>
      exact cpw (by decide) (by repeat (first | assumption | exact mod27 _ | apply Bd.mul | apply Bd.add | exact Bd.of _)) (by decide)
    case h7 =>
      exact cpw (by decide) (by repeat (first | assumption | exact mod27 _ | apply Bd.mul | apply Bd.add | exact Bd.of _)) (by decide)
    case h8 =>
      first | omega | decide
    case h9 =>
      exact cm (by walk_at "bd") (by walk_at "bd") (by decide)
    case h10 =>
      exact cpw (by decide) (by repeat (first | assumption | exact mod27 _ | apply Bd.mul | apply Bd.add | exact Bd.of _)) (by decide)
    case h11 =>
      exact cpw (by decide) (by repeat (first | assumption | exact mod27 _ | apply Bd.mul | apply Bd.add | exact Bd.of _)) (by decide)
    case h12 =>
      first | omega | decide
    case h13 =>
      first | exact cdw hm hbm (by decide) | exact cdw (by decide) (Bd.of _) (by decide)
    case h14 =>
      first | omega | decide
    case h15 =>
      first
        | exact ⟨_, rfl, hG _ _ (modp hm).1 (modp hm).2 ⟨_, _, _, rfl, divp hm hf, ⟨ha0, ha1⟩, hc0, by omega⟩⟩
        | exact ⟨_, rfl, hG _ _ (modp hm).1 (modp hm).2 ⟨_, _, _, rfl, hf, ⟨ha0, ha1⟩, by omega, by omega⟩⟩

end
end Y29

set_option Elab.async false
set_option linter.all false
set_option maxRecDepth 100000
set_option maxHeartbeats 8000000
namespace Y29
open PySem PySem.Spec PyProof.Rows L2 Evl Wz
local macro_rules | `(tactic| walk_at "bd") => `(tactic| (repeat (first | assumption | apply mate_b1 | apply mate_b2 | apply mul_b1 | apply mul_b2 | apply nrm_b | apply inv_b1 | apply inv_b2 | apply Bd.mul | apply Bd.add | apply Bd.sub | apply Bd.neg | exact Bd.z | exact Bd.of _)))
local macro_rules | `(tactic| walk_at "bm") => `(tactic| (first | assumption | exact Bd.mono (by walk_at "bd") (by decide)))
local macro_rules | `(tactic| walk_at "b2") => `(tactic| (repeat (first | assumption | apply And.intro | walk_at "bm" | decide | omega)))

/-- what is compared: of a depth of at most n -/
def Sh : Nat → Dat → Prop
  | 0, d => (∃ i, d = .int i) ∨ (∃ b, d = .bl b)
  | n + 1, d => Sh 0 d ∨ ∃ xs : List Dat, (d = .tup xs ∨ d = .lst xs) ∧ xs.length ≤ 1000 ∧ ∀ (i : Nat) (e : Dat), xs[i]? = some e → Sh n e
def F__law_alike (n : Nat) : FP := fun ds Q => ∃ d, ds = [d, d] ∧ Sh n d ∧ Q (.bl true)
theorem rd_sh {n : Nat} {d : Dat} {k : Cs} (h : Sh n d) : rd k d = d := by
  cases n with
  | zero =>
    rw [Sh] at h
    rcases h with ⟨i, rfl⟩ | ⟨i, rfl⟩ <;> rfl
  | succ n =>
    rw [Sh, Sh] at h
    rcases h with (⟨i, rfl⟩ | ⟨i, rfl⟩) | ⟨xs, rfl | rfl, _⟩ <;> rfl
theorem all_rep (n : Nat) : (List.replicate n true).all id = true := by
  induction n with
  | zero => rfl
  | succ n ih => rw [List.replicate_succ, List.all_cons, ih]; rfl
section
variable {P : Program} {w : World} {K : PySem.W.Frag} {mg : Str → Option Value} {base : Heap}

/-! ### _law_alike -/
abbrev s__law_alike : Stmt := topS 36
theorem sc__law_alike : FnScope ["thing", "due", "one", "other"] ["thing", "due"] (defScope s__law_alike) := ⟨rfl, rfl, rfl, by decide +kernel, rfl, by decide +kernel, by decide +kernel⟩
theorem al_flat {f : Addr} {cdv : Value} {A : Around} {outer : List Env} {s : Shared} {H : Hp} {Q : VK} {E : XK} {d : Dat} {G : Dat → Prop} {j : Nat} (m_isinstance : mg "isinstance" = none) (m_bool : mg "bool" = none) (m_int : mg "int" = none) (m_str : mg "str" = none) (m_tuple : mg "tuple" = none) (m_list : mg "list" = none) (m_len : mg "len" = none) (m_all : mg "all" = none) (m_zip : mg "zip" = none) (hr : Room j (A.deeper (envOfC "_law_alike" (defScope s__law_alike) s.heap.objs.size f cdv))) (hd : Sh 0 d) (hG : G (.bl true)) (hQ : RetC K [] H Q (fun d _ => G d)) :
    AS (cxOf CX0 P w K mg base ["thing", "due", "one", "other"] "_law_alike" (defScope s__law_alike) f cdv A outer s H E).nox [] [] (defBody s__law_alike) { nx := fun _ H' => Q .non H', rt := Q } [some d, some d, none, none] [] H := by
  unfold Sh at hd
  rcases hd with ⟨i, rfl⟩ | ⟨i, rfl⟩
  ·
    refine (as_ifn (t_isN (nm 1 rfl (as_ifn (t_val (c_isi (U := "bool") m_isinstance (ca_cons (nm 1 rfl (ca_cons (c_ty (T := "bool") m_bool (by decide +kernel) (ca_nil ⟨rfl, _, false, rfl, (by decide +kernel), (as_ifn (t_val (c_isi (U := "int") m_isinstance (ca_cons (nm 1 rfl (ca_cons (c_ty (T := "int") m_int (by decide +kernel) (ca_nil ⟨rfl, _, true, rfl, (by decide +kernel), (as_ret hQ (c_and (c_isi (U := "int") m_isinstance (ca_cons (nm 0 rfl (ca_cons (c_ty (T := "int") m_int (by decide +kernel) (ca_nil ⟨rfl, _, true, rfl, (by decide +kernel), (c_and (c_not (c_isi (U := "bool") m_isinstance (ca_cons (nm 0 rfl (ca_cons (c_ty (T := "bool") m_bool (by decide +kernel) (ca_nil ⟨rfl, _, false, rfl, (by decide +kernel), (c_one (c_eqI (nm 0 rfl (nm 1 rfl (And.intro rfl ?h101)))))⟩))))))))⟩))))))))⟩))))))))⟩)))))))))))
    case h101 =>
      first
        | (rw [decide_eq_true rfl] at *; exact hG)
        | (simpa using hG)
  ·
    refine (as_ifn (t_isN (nm 1 rfl (as_ifn (t_val (c_isi (U := "bool") m_isinstance (ca_cons (nm 1 rfl (ca_cons (c_ty (T := "bool") m_bool (by decide +kernel) (ca_nil ⟨rfl, _, true, rfl, (by decide +kernel), (as_ret hQ (c_and (c_isi (U := "bool") m_isinstance (ca_cons (nm 0 rfl (ca_cons (c_ty (T := "bool") m_bool (by decide +kernel) (ca_nil ⟨rfl, _, true, rfl, (by decide +kernel), (c_one (c_eqF (nm 0 rfl (nm 1 rfl ⟨rfl, rfl, rfl, (And.intro rfl ?h201)⟩))))⟩))))))))⟩)))))))))))
    case h201 =>
      simpa using hG
theorem ok__law_alike {f : Addr} {fd : FuncData} (Fn : Fun K "_law_alike" "_law_alike" s__law_alike f fd) (hm : mg "_law_alike" = some (.ref f)) (hkp : PySem.W.keepIn K (.ref f) = true) (hb : Binds K fd ["thing", "due"] []) (m_isinstance : mg "isinstance" = none) (m_bool : mg "bool" = none) (m_int : mg "int" = none) (m_str : mg "str" = none) (m_tuple : mg "tuple" = none) (m_list : mg "list" = none) (m_len : mg "len" = none) (m_all : mg "all" = none) (m_zip : mg "zip" = none) : ∀ n : Nat, FnOk P w K mg base CX0 (n + 1) f fd ["thing", "due"] (spP K (F__law_alike n))
  | 0 => by
    refine fn_P Fn sc__law_alike (fun ds G h => ?_) (fun cdv A outer s H Q E ds G hr hF hQ => ?_)
    · obtain ⟨d, rfl, _⟩ := h
      rfl
    · obtain ⟨d, rfl, hd, hG⟩ := hF
      exact al_flat m_isinstance m_bool m_int m_str m_tuple m_list m_len m_all m_zip hr hd hG hQ
  | n + 1 => by
    have c__law_alike : Cl P w K mg base (n + 1) "_law_alike" ["thing", "due"] (spP K (F__law_alike n)) := ⟨f, fd, hm, hkp, hb, ok__law_alike Fn hm hkp hb m_isinstance m_bool m_int m_str m_tuple m_list m_len m_all m_zip n⟩
    refine fn_P Fn sc__law_alike (fun ds G h => ?_) (fun cdv A outer s H Q E ds G hr hF hQ => ?_)
    · obtain ⟨d, rfl, _⟩ := h
      rfl
    · obtain ⟨d, rfl, hd, hG⟩ := hF
      rw [Sh] at hd
      rcases hd with hd | ⟨xs, hx, hl, hs⟩
      · exact al_flat m_isinstance m_bool m_int m_str m_tuple m_list m_len m_all m_zip hr hd hG hQ
      · rcases hx with rfl | rfl
        ·
          refine (as_ifn (t_isN (nm 1 rfl (as_ifn (t_val (c_isi (U := "bool") m_isinstance (ca_cons (nm 1 rfl (ca_cons (c_ty (T := "bool") m_bool (by decide +kernel) (ca_nil ⟨rfl, _, false, rfl, (by decide +kernel), (as_ifn (t_val (c_isi (U := "int") m_isinstance (ca_cons (nm 1 rfl (ca_cons (c_ty (T := "int") m_int (by decide +kernel) (ca_nil ⟨rfl, _, false, rfl, (by decide +kernel), (as_ifn (t_val (c_isi (U := "str") m_isinstance (ca_cons (nm 1 rfl (ca_cons (c_ty (T := "str") m_str (by decide +kernel) (ca_nil ⟨rfl, _, false, rfl, (by decide +kernel), (as_ifn (t_w (w_or (t_w (w_and (t_val (c_isi (U := "tuple") m_isinstance (ca_cons (nm 1 rfl (ca_cons (c_ty (T := "tuple") m_tuple (by decide +kernel) (ca_nil ⟨rfl, _, true, rfl, (by decide +kernel), (w_and1 (t_not (t_val (c_isi (U := "tuple") m_isinstance (ca_cons (nm 0 rfl (ca_cons (c_ty (T := "tuple") m_tuple (by decide +kernel) (ca_nil ⟨rfl, _, true, rfl, (by decide +kernel), (w_or1 (t_w (w_and (t_val (c_isi (U := "list") m_isinstance (ca_cons (nm 1 rfl (ca_cons (c_ty (T := "list") m_list (by decide +kernel) (ca_nil ⟨rfl, _, false, rfl, (by decide +kernel), (as_ret hQ (c_andB (c_eqI (c_lenT m_len (ca_cons (nm 0 rfl (ca_nil (c_lenT m_len (ca_cons (nm 1 rfl (ca_nil (And.intro (fun b1 => (c_one (c_all rfl m_all (ca_cons (c_ofN (n_lcZ (i := 2) (j := 3) (by decide) rfl sc__law_alike.nd m_zip (blkOk_by (N := ["thing", "due", "one", "other"]) (sc := defScope s__law_alike) (by decide +kernel)) (fun _ _ _ _ _ => pg_tup rfl (pgs_cons (pg_name (i := 2) sc__law_alike.nd rfl (Or.inl rfl)) (pgs_cons (pg_name (i := 3) sc__law_alike.nd rfl (Or.inl rfl)) pgs_nil))) (ca_cons (nm 0 rfl (ca_cons (nm 1 rfl (ca_nil ⟨_, _, .inl ⟨rfl, rfl⟩, rfl, ?h306, (fun l acc q => acc = List.replicate l (Dat.bl true) ∧ q = []), ⟨rfl, rfl⟩, ⟨fun _ _ _ _ _ l d1 d2 acc q h1 h2 hw => ?h301⟩, fun acc q hw ha => ?h302⟩))))))))))) (fun b2 => (And.intro rfl ?h307))))))))))))))⟩))))))))))⟩)))))))))⟩))))))))))))⟩))))))))⟩))))))))⟩)))))))))))
          case h301 =>
            obtain ⟨rfl, rfl⟩ := hw
            rw [h1] at h2
            cases h2
            refine (c_call c__law_alike hr (ca_cons (nm 2 rfl (ca_cons (nm 3 rfl (ca_nil ⟨_, rfl, ?h303, And.intro rfl (And.intro rfl ⟨by rw [← List.replicate_succ'], rfl⟩)⟩))))))
            case h303 =>
              rw [rd_sh (hs _ _ h1)]
              exact hs _ _ h1
          case h302 =>
            obtain ⟨rfl, rfl⟩ := hw
            refine (ca_nil ⟨List.replicate xs.length true, ?h304, (And.intro rfl ?h305)⟩)
            case h304 =>
              rw [List.map_replicate]
            case h305 =>
              rw [all_rep]
              exact hG
          case h306 =>
            omega
          case h307 =>
            first
              | exact hG
              | (exfalso; simp at b2)
              | (rw [all_rep]; exact hG)
        ·
          refine (as_ifn (t_isN (nm 1 rfl (as_ifn (t_val (c_isi (U := "bool") m_isinstance (ca_cons (nm 1 rfl (ca_cons (c_ty (T := "bool") m_bool (by decide +kernel) (ca_nil ⟨rfl, _, false, rfl, (by decide +kernel), (as_ifn (t_val (c_isi (U := "int") m_isinstance (ca_cons (nm 1 rfl (ca_cons (c_ty (T := "int") m_int (by decide +kernel) (ca_nil ⟨rfl, _, false, rfl, (by decide +kernel), (as_ifn (t_val (c_isi (U := "str") m_isinstance (ca_cons (nm 1 rfl (ca_cons (c_ty (T := "str") m_str (by decide +kernel) (ca_nil ⟨rfl, _, false, rfl, (by decide +kernel), (as_ifn (t_w (w_or (t_w (w_and (t_val (c_isi (U := "tuple") m_isinstance (ca_cons (nm 1 rfl (ca_cons (c_ty (T := "tuple") m_tuple (by decide +kernel) (ca_nil ⟨rfl, _, false, rfl, (by decide +kernel), (w_or1 (t_w (w_and (t_val (c_isi (U := "list") m_isinstance (ca_cons (nm 1 rfl (ca_cons (c_ty (T := "list") m_list (by decide +kernel) (ca_nil ⟨rfl, _, true, rfl, (by decide +kernel), (w_and1 (t_not (t_val (c_isi (U := "list") m_isinstance (ca_cons (nm 0 rfl (ca_cons (c_ty (T := "list") m_list (by decide +kernel) (ca_nil ⟨rfl, _, true, rfl, (by decide +kernel), (as_ret hQ (c_andB (c_eqI (c_lenL m_len (ca_cons (nm 0 rfl (ca_nil (c_lenL m_len (ca_cons (nm 1 rfl (ca_nil (And.intro (fun b1 => (c_one (c_all rfl m_all (ca_cons (c_ofN (n_lcZ (i := 2) (j := 3) (by decide) rfl sc__law_alike.nd m_zip (blkOk_by (N := ["thing", "due", "one", "other"]) (sc := defScope s__law_alike) (by decide +kernel)) (fun _ _ _ _ _ => pg_tup rfl (pgs_cons (pg_name (i := 2) sc__law_alike.nd rfl (Or.inl rfl)) (pgs_cons (pg_name (i := 3) sc__law_alike.nd rfl (Or.inl rfl)) pgs_nil))) (ca_cons (nm 0 rfl (ca_cons (nm 1 rfl (ca_nil ⟨_, _, .inr ⟨rfl, rfl⟩, rfl, ?h406, (fun l acc q => acc = List.replicate l (Dat.bl true) ∧ q = []), ⟨rfl, rfl⟩, ⟨fun _ _ _ _ _ l d1 d2 acc q h1 h2 hw => ?h401⟩, fun acc q hw ha => ?h402⟩))))))))))) (fun b2 => (And.intro rfl ?h407))))))))))))))⟩)))))))))⟩))))))))))⟩))))))))))))⟩))))))))⟩))))))))⟩)))))))))))
          case h401 =>
            obtain ⟨rfl, rfl⟩ := hw
            rw [h1] at h2
            cases h2
            refine (c_call c__law_alike hr (ca_cons (nm 2 rfl (ca_cons (nm 3 rfl (ca_nil ⟨_, rfl, ?h403, And.intro rfl (And.intro rfl ⟨by rw [← List.replicate_succ'], rfl⟩)⟩))))))
            case h403 =>
              rw [rd_sh (hs _ _ h1)]
              exact hs _ _ h1
          case h402 =>
            obtain ⟨rfl, rfl⟩ := hw
            refine (ca_nil ⟨List.replicate xs.length true, ?h404, (And.intro rfl ?h405)⟩)
            case h404 =>
              rw [List.map_replicate]
            case h405 =>
              rw [all_rep]
              exact hG
          case h406 =>
            omega
          case h407 =>
            first
              | exact hG
              | (exfalso; simp at b2)
              | (rw [all_rep]; exact hG)

end
end Y29

set_option Elab.async false
set_option linter.all false
set_option maxRecDepth 100000
set_option maxHeartbeats 8000000
namespace Y29
open PySem PySem.Spec PyProof.Rows L2 Evl Wz
local macro_rules | `(tactic| walk_at "bd") => `(tactic| (repeat (first | assumption | apply mate_b1 | apply mate_b2 | apply mul_b1 | apply mul_b2 | apply nrm_b | apply inv_b1 | apply inv_b2 | apply Bd.mul | apply Bd.add | apply Bd.sub | apply Bd.neg | exact Bd.z | exact Bd.of _)))
local macro_rules | `(tactic| walk_at "bm") => `(tactic| (first | assumption | exact Bd.mono (by walk_at "bd") (by decide)))
local macro_rules | `(tactic| walk_at "b2") => `(tactic| (repeat (first | assumption | apply And.intro | walk_at "bm" | decide | omega)))

def absI (a : Int) : Int := if a < 0 then -a else a
theorem absI_nn (a : Int) : 0 ≤ absI a := by unfold absI; split <;> omega
theorem absI_na (a : Int) : (absI a).natAbs = a.natAbs := by unfold absI; split <;> omega
theorem gcd_step {h e : Int} (h0 : 0 ≤ h) (he : 0 < e) : Nat.gcd e.natAbs (h % e).natAbs = Nat.gcd h.natAbs e.natAbs := by
  obtain ⟨x, rfl⟩ := Int.eq_ofNat_of_zero_le h0
  obtain ⟨y, rfl⟩ := Int.eq_ofNat_of_zero_le (Int.le_of_lt he)
  rw [← Int.natCast_emod, Int.natAbs_natCast, Int.natAbs_natCast, Int.natAbs_natCast, Nat.gcd_comm x y, Nat.gcd_rec y x, Nat.gcd_comm]
theorem fdiv_mul {a g : Int} (h : g ≠ 0) (d : g ∣ a) : a.fdiv g * g = a := by
  obtain ⟨t, rfl⟩ := d
  rw [Int.mul_fdiv_cancel_left _ h, Int.mul_comm]
theorem fdiv_bd {x g : Int} {m : Nat} (hg : g ≠ 0) (d : g ∣ x) (h : Bd m x) : Bd m (x.fdiv g) := by
  have e := fdiv_mul hg d
  have h1 : x.natAbs < 2 ^ m := h
  show (x.fdiv g).natAbs < 2 ^ m
  rw [← e, Int.natAbs_mul] at h1
  have : 1 ≤ g.natAbs := by omega
  have : (x.fdiv g).natAbs * 1 ≤ (x.fdiv g).natAbs * g.natAbs := Nat.mul_le_mul_left _ this
  omega
/-- here, at the end -/
structure LowH (a b n h : Int) : Prop where
  ne : h ≠ 0
  da : h ∣ a
  db : h ∣ b
  dn : h ∣ n
  sg : 0 < n ↔ 0 < h
theorem lowH {a b n h : Int} (hn : n ≠ 0) (h0 : 0 ≤ h) (hg : h.natAbs = Nat.gcd (Nat.gcd a.natAbs b.natAbs) n.natAbs) : LowH a b n (if 0 < n then h else -h) := by
  have p : 0 < h.natAbs := by rw [hg]; exact Nat.gcd_pos_of_pos_right _ (by omega)
  have dn : h ∣ n := Int.natAbs_dvd_natAbs.mp (by rw [hg]; exact Nat.gcd_dvd_right _ _)
  have da : h ∣ a := Int.natAbs_dvd_natAbs.mp (by rw [hg]; exact Nat.dvd_trans (Nat.gcd_dvd_left _ _) (Nat.gcd_dvd_left _ _))
  have db : h ∣ b := Int.natAbs_dvd_natAbs.mp (by rw [hg]; exact Nat.dvd_trans (Nat.gcd_dvd_left _ _) (Nat.gcd_dvd_right _ _))
  split
  · exact ⟨by omega, da, db, dn, by omega⟩
  · exact ⟨by omega, Int.neg_dvd.mpr da, Int.neg_dvd.mpr db, Int.neg_dvd.mpr dn, by omega⟩
theorem LowH.bd {a b n h : Int} {m : Nat} (l : LowH a b n h) (hn : n ≠ 0) (hb : Bd m n) : Bd m h := by
  have h1 : h.natAbs ≤ n.natAbs := Nat.le_of_dvd (by omega) (Int.natAbs_dvd_natAbs.mpr l.dn)
  have h2 : n.natAbs < 2 ^ m := hb
  exact (by omega : h.natAbs < 2 ^ m)
theorem LowH.pos {a b n h : Int} (l : LowH a b n h) (hn : n ≠ 0) : 0 < n.fdiv h := by
  have e := fdiv_mul l.ne l.dn
  have s := l.sg
  have ne := l.ne
  refine Int.lt_of_not_ge fun z => ?_
  by_cases h0 : 0 < h
  · have := Int.mul_nonpos_of_nonpos_of_nonneg z (Int.le_of_lt h0)
    omega
  · have := Int.mul_nonneg_of_nonpos_of_nonpos z (show h ≤ 0 by omega)
    omega
theorem LowH.one {a b n h : Int} (l : LowH a b n h) (hn : n = 1 ∨ n = -1) : a.fdiv h = a * n ∧ b.fdiv h = b * n ∧ n.fdiv h = 1 := by
  have h1 : h.natAbs ≤ n.natAbs := Nat.le_of_dvd (by omega) (Int.natAbs_dvd_natAbs.mpr l.dn)
  have ne := l.ne
  have s := l.sg
  have e : h = n := by omega
  subst e
  have f1 : ∀ t : Int, t.fdiv (-1) = t * -1 := fun t => by
    have := Int.mul_fdiv_cancel_left (-t) (show (-1 : Int) ≠ 0 by decide)
    simpa using this
  rcases hn with rfl | rfl
  · simp
  · rw [f1, f1, f1]
    simp
theorem wl {h e : Int} {m : Nat} (h1 : 0 ≤ e) (ne : ¬ e = 0) (hm : e.toNat ≤ m) : (h % e).toNat < m := by
  have := Int.emod_lt_of_pos h (show 0 < e by omega)
  have := Int.emod_nonneg h ne
  omega

section
variable {P : Program} {w : World} {K : PySem.W.Frag} {mg : Str → Option Value} {base : Heap}
abbrev nD (a b n : Int) : Dat := .tup [.int a, .int b, .int n]
/-! ### _law_low -/
abbrev s__law_low : Stmt := topS 37
theorem sc__law_low : FnScope ["a", "b", "n", "here", "beside"] ["a", "b", "n"] (defScope s__law_low) := ⟨rfl, rfl, rfl, by decide +kernel, rfl, by decide +kernel, by decide +kernel⟩
def F__law_low : FP := fun ds Q => ∃ (a b n : Int) (m : Nat), ds = [.int a, .int b, .int n] ∧ (n ≠ 0 ∧ Bd m a ∧ Bd m b ∧ Bd m n ∧ m ≤ 4000) ∧ ∀ x y z, Bd m x → Bd m y → Bd m z → 0 < z → (n = 1 ∨ n = -1 → x = a * n ∧ y = b * n ∧ z = 1) → Q (nD x y z)
theorem ok__law_low {f : Addr} {fd : FuncData} (Fn : Fun K "_law_low" "_law_low" s__law_low f fd) (m_abs : mg "abs" = none) (m_int : mg "int" = none) : FnOk P w K mg base CX0 1 f fd ["a", "b", "n"] (spP K F__law_low) := by
  refine fn_P Fn sc__law_low (fun ds G h => ?_) (fun cdv A outer s H Q E ds G hr hF hQ => ?_)
  · obtain ⟨a, b, n, m0, rfl, ⟨hn, hba, hbb, hbn, hm0⟩, hG⟩ := h
    rfl
  · obtain ⟨a, b, n, m0, rfl, ⟨hn, hba, hbb, hbn, hm0⟩, hG⟩ := hF
    have lh : ∀ h : Int, h.natAbs = Nat.gcd (Nat.gcd a.natAbs b.natAbs) n.natAbs → 0 ≤ h → LowH a b n (if 0 < n then h else -h) := fun h hg h0 => lowH hn h0 hg
    refine (as_par (i := 3) (j := 4) sc__law_low.nd rfl (ca_cons (c_abs m_abs (ca_cons (nm 0 rfl (ca_nil (ca_cons (c_abs m_abs (ca_cons (nm 1 rfl (ca_nil (ca_nil ⟨_, _, rfl, (as_while (W := fun m es q => ∃ h e : Int, es = [some (.int a), some (.int b), some (.int n), some (.int h), some (.int e)] ∧ q = [] ∧ 0 ≤ h ∧ 0 ≤ e ∧ e.toNat ≤ m ∧ Nat.gcd h.natAbs e.natAbs = Nat.gcd a.natAbs b.natAbs) (B := fun _ _ => False) PassesOwn.never ((absI b).toNat) ⟨_, _, rfl, rfl, absI_nn a, absI_nn b, Nat.le_refl _, (by show Nat.gcd (absI a).natAbs (absI b).natAbs = _; rw [absI_na, absI_na])⟩ (fun m es q hw => ?h1) (fun _ _ h => h.elim))⟩))))))))))))
    case h1 =>
      obtain ⟨h, e, rfl, rfl, h0, h1, hm, hg⟩ := hw
      refine (t_neI (nm 4 rfl (c_int (And.intro (fun b1 => (as_par (i := 3) (j := 4) sc__law_low.nd rfl (ca_cons (nm 4 rfl (ca_cons (c_mod (c_intI m_int (ca_cons (nm 3 rfl (ca_nil (nm 4 rfl (And.intro ?h2 (ca_nil ⟨_, _, rfl, (as_end rfl ?h3)⟩))))))))))))) (fun b1 => (as_asg (i := 4) sc__law_low.nd (c_abs m_abs (ca_cons (nm 2 rfl (ca_nil (as_while (W := fun m es q => ∃ h e : Int, es = [some (.int a), some (.int b), some (.int n), some (.int h), some (.int e)] ∧ q = [] ∧ 0 ≤ h ∧ 0 ≤ e ∧ e.toNat ≤ m ∧ Nat.gcd h.natAbs e.natAbs = Nat.gcd (Nat.gcd a.natAbs b.natAbs) n.natAbs) (B := fun _ _ => False) PassesOwn.never ((absI n).toNat) ⟨_, _, rfl, rfl, h0, absI_nn n, Nat.le_refl _, (by show Nat.gcd h.natAbs (absI n).natAbs = _; rw [absI_na, ← hg, b1]; simp)⟩ (fun m es q hw => ?h4) (fun _ _ h => h.elim))))))))))))
      case h2 =>
        first | omega | decide
      case h3 =>
        exact ⟨(h % e).toNat, wl h1 (by assumption) hm, _, _, rfl, rfl, by omega, Int.emod_nonneg _ (by assumption), Nat.le_refl _, by rw [gcd_step h0 (by omega)]; exact hg⟩
      case h4 =>
        clear hm h1
        obtain ⟨h, e, rfl, rfl, h0, h1, hm, hg⟩ := hw
        refine (t_neI (nm 4 rfl (c_int (And.intro (fun b2 => (as_par (i := 3) (j := 4) sc__law_low.nd rfl (ca_cons (nm 4 rfl (ca_cons (c_mod (c_intI m_int (ca_cons (nm 3 rfl (ca_nil (nm 4 rfl (And.intro ?h5 (ca_nil ⟨_, _, rfl, (as_end rfl ?h6)⟩))))))))))))) (fun b2 => (as_asg (i := 3) sc__law_low.nd (c_if (t_gt (nm 2 rfl (c_int (And.intro (fun b3 => (nm 3 rfl (as_ret hQ (c_tup (ca_cons (c_fdivX (nm 0 rfl (nm 3 rfl (And.intro ?h7 (ca_cons (c_fdivX (nm 1 rfl (nm 3 rfl (And.intro ?h8 (ca_cons (c_fdivX (nm 2 rfl (nm 3 rfl (And.intro ?h9 (ca_nil (And.intro (And.intro rfl (Nat.le_of_ble_eq_true rfl)) (And.intro rfl ?h10)))))))))))))))))))))) (fun b3 => (c_neg (nm 3 rfl (as_ret hQ (c_tup (ca_cons (c_fdivX (nm 0 rfl (nm 3 rfl (And.intro ?h11 (ca_cons (c_fdivX (nm 1 rfl (nm 3 rfl (And.intro ?h12 (ca_cons (c_fdivX (nm 2 rfl (nm 3 rfl (And.intro ?h13 (ca_nil (And.intro (And.intro rfl (Nat.le_of_ble_eq_true rfl)) (And.intro rfl ?h14))))))))))))))))))))))))))))))))))
        case h5 =>
          first | omega | decide
        case h6 =>
          exact ⟨(h % e).toNat, wl h1 (by assumption) hm, _, _, rfl, rfl, by omega, Int.emod_nonneg _ (by assumption), Nat.le_refl _, by rw [gcd_step h0 (by omega)]; exact hg⟩
        case h7 =>
          have l := lh h (by rw [← hg, b2]; simp) h0
          first
            | rw [if_pos b3] at l
            | rw [if_neg b3] at l
          exact cdx l.ne (l.bd hn hbn) (by omega)
        case h8 =>
          have l := lh h (by rw [← hg, b2]; simp) h0
          first
            | rw [if_pos b3] at l
            | rw [if_neg b3] at l
          exact cdx l.ne (l.bd hn hbn) (by omega)
        case h9 =>
          have l := lh h (by rw [← hg, b2]; simp) h0
          first
            | rw [if_pos b3] at l
            | rw [if_neg b3] at l
          exact cdx l.ne (l.bd hn hbn) (by omega)
        case h10 =>
          have l := lh h (by rw [← hg, b2]; simp) h0
          first
            | rw [if_pos b3] at l
            | rw [if_neg b3] at l
          exact hG _ _ _ (fdiv_bd l.ne l.da hba) (fdiv_bd l.ne l.db hbb) (fdiv_bd l.ne l.dn hbn) (l.pos hn) l.one
        case h11 =>
          have l := lh h (by rw [← hg, b2]; simp) h0
          first
            | rw [if_pos b3] at l
            | rw [if_neg b3] at l
          exact cdx l.ne (l.bd hn hbn) (by omega)
        case h12 =>
          have l := lh h (by rw [← hg, b2]; simp) h0
          first
            | rw [if_pos b3] at l
            | rw [if_neg b3] at l
          exact cdx l.ne (l.bd hn hbn) (by omega)
        case h13 =>
          have l := lh h (by rw [← hg, b2]; simp) h0
          first
            | rw [if_pos b3] at l
            | rw [if_neg b3] at l
          exact cdx l.ne (l.bd hn hbn) (by omega)
        case h14 =>
          have l := lh h (by rw [← hg, b2]; simp) h0
          first
            | rw [if_pos b3] at l
            | rw [if_neg b3] at l
          exact hG _ _ _ (fdiv_bd l.ne l.da hba) (fdiv_bd l.ne l.db hbb) (fdiv_bd l.ne l.dn hbn) (l.pos hn) l.one

end
end Y29

set_option Elab.async false
set_option linter.all false
set_option maxRecDepth 100000
set_option maxHeartbeats 8000000
namespace Y29
open PySem PySem.Spec PyProof.Rows L2 Evl Wz
local macro_rules | `(tactic| walk_at "bd") => `(tactic| (repeat (first | assumption | apply mate_b1 | apply mate_b2 | apply mul_b1 | apply mul_b2 | apply nrm_b | apply inv_b1 | apply inv_b2 | apply Bd.mul | apply Bd.add | apply Bd.sub | apply Bd.neg | exact Bd.z | exact Bd.of _)))
local macro_rules | `(tactic| walk_at "bm") => `(tactic| (first | assumption | exact Bd.mono (by walk_at "bd") (by decide)))
local macro_rules | `(tactic| walk_at "b2") => `(tactic| (repeat (first | assumption | apply And.intro | walk_at "bm" | decide | omega)))

abbrev wD (p : Z2) : Dat := nD p.1 p.2 1
theorem mul_mate (k : Int) (p : Z2) : mul k p (mate k p) = (nrm k p, 0) := by
  unfold mul mate nrm
  by_cases h5 : k = 5
  · simp only [if_pos h5]
    exact Prod.ext (by grind) (by grind)
  · simp only [if_neg h5]
    exact Prod.ext (by grind) (by grind)
theorem one_mul (k : Int) (p : Z2) : mul k (1, 0) p = p := by
  unfold mul
  by_cases h5 : k = 5
  · simp only [if_pos h5]
    exact Prod.ext (by grind) (by grind)
  · simp only [if_neg h5]
    exact Prod.ext (by grind) (by grind)
theorem eqv_nD (a b c d e f : Int) : PyData.eqv (pd (nD a b c)) (pd (nD d e f)) = decide (a = d ∧ b = e ∧ c = f) := by
  by_cases h1 : a = d
  · by_cases h2 : b = e
    · by_cases h3 : c = f
      · subst h1 h2 h3
        simp [pd, pd.pds, PyData.eqv, PyData.eqvAll]
      · simp [pd, pd.pds, PyData.eqv, PyData.eqvAll, h3]
    · simp [pd, pd.pds, PyData.eqv, PyData.eqvAll, h2]
  · simp [pd, pd.pds, PyData.eqv, PyData.eqvAll, h1]
theorem pickI {k : Int} (h : Kd k) : pick (.int 2) (.int 3) (.int 1) k = .int (if k = 5 then 1 else k) := by
  rcases h with rfl | rfl | rfl <;> rfl
section
variable {P : Program} {w : World} {K : PySem.W.Frag} {mg : Str → Option Value} {base : Heap}

/-! ### _law_plus -/
abbrev s__law_plus : Stmt := topS 38
theorem sc__law_plus : FnScope ["p", "q"] ["p", "q"] (defScope s__law_plus) := ⟨rfl, rfl, rfl, by decide +kernel, rfl, by decide +kernel, by decide +kernel⟩
def F__law_plus : FP := fun ds Q => ∃ (a b c d e f : Int), ds = [nD a b c, nD d e f] ∧ (0 < c ∧ 0 < f ∧ Bd 200 a ∧ Bd 200 b ∧ Bd 200 c ∧ Bd 200 d ∧ Bd 200 e ∧ Bd 200 f) ∧ ∀ x y z, Bd 402 x → Bd 402 y → Bd 402 z → 0 < z → Q (nD x y z)
theorem ok__law_plus {f : Addr} {fd : FuncData} (Fn : Fun K "_law_plus" "_law_plus" s__law_plus f fd) (c__law_low : Cl P w K mg base 1 "_law_low" ["a", "b", "n"] (spP K F__law_low)) : FnOk P w K mg base CX0 2 f fd ["p", "q"] (spP K F__law_plus) := by
  refine fn_P Fn sc__law_plus (fun ds G h => ?_) (fun cdv A outer s H Q E ds G hr hF hQ => ?_)
  · obtain ⟨a, b, c, d, e, f, rfl, ⟨hc, hf, ha, hb, hbc, hd, he, hbf⟩, hG⟩ := h
    rfl
  · obtain ⟨a, b, c, d, e, f, rfl, ⟨hc, hf, ha, hb, hbc, hd, he, hbf⟩, hG⟩ := hF
    have hcf : 0 < c * f := Int.mul_pos hc hf
    refine (as_ret hQ (c_call c__law_low (hr.mono (by decide)) (ca_cons (c_add (c_mul (c_ixTn (nm 0 rfl (c_int (And.intro (by decide) (c_ixTn (nm 1 rfl (c_int (And.intro (by decide) (And.intro ?h1 (c_mul (c_ixTn (nm 1 rfl (c_int (And.intro (by decide) (c_ixTn (nm 0 rfl (c_int (And.intro (by decide) (And.intro ?h2 (ca_cons (c_add (c_mul (c_ixTn (nm 0 rfl (c_int (And.intro (by decide) (c_ixTn (nm 1 rfl (c_int (And.intro (by decide) (And.intro ?h3 (c_mul (c_ixTn (nm 1 rfl (c_int (And.intro (by decide) (c_ixTn (nm 0 rfl (c_int (And.intro (by decide) (And.intro ?h4 (ca_cons (c_mul (c_ixTn (nm 0 rfl (c_int (And.intro (by decide) (c_ixTn (nm 1 rfl (c_int (And.intro (by decide) (And.intro ?h5 (ca_nil ⟨_, _, _, 402, rfl, ?h6, fun x1 y1 z1 hx1 hy1 hz1 hp1 ho1 => And.intro rfl (And.intro rfl ?h7)⟩))))))))))))))))))))))))))))))))))))))))))))))))))))))))))
    case h1 =>
      exact cm (by walk_at "bd") (by walk_at "bd") (by decide)
    case h2 =>
      exact cm (by walk_at "bd") (by walk_at "bd") (by decide)
    case h3 =>
      exact cm (by walk_at "bd") (by walk_at "bd") (by decide)
    case h4 =>
      exact cm (by walk_at "bd") (by walk_at "bd") (by decide)
    case h5 =>
      exact cm (by walk_at "bd") (by walk_at "bd") (by decide)
    case h6 =>
      refine ⟨by omega, ?_, ?_, ?_, by decide⟩ <;> walk_at "bm"
    case h7 =>
      exact hG _ _ _ hx1 hy1 hz1 hp1

/-! ### _law_minus -/
abbrev s__law_minus : Stmt := topS 39
theorem sc__law_minus : FnScope ["p", "q"] ["p", "q"] (defScope s__law_minus) := ⟨rfl, rfl, rfl, by decide +kernel, rfl, by decide +kernel, by decide +kernel⟩
def F__law_minus : FP := fun ds Q => ∃ (a b c d e f : Int), ds = [nD a b c, nD d e f] ∧ (0 < c ∧ 0 < f ∧ Bd 200 a ∧ Bd 200 b ∧ Bd 200 c ∧ Bd 200 d ∧ Bd 200 e ∧ Bd 200 f) ∧ ∀ x y z, Bd 402 x → Bd 402 y → Bd 402 z → 0 < z → Q (nD x y z)
theorem ok__law_minus {f : Addr} {fd : FuncData} (Fn : Fun K "_law_minus" "_law_minus" s__law_minus f fd) (c__law_plus : Cl P w K mg base 2 "_law_plus" ["p", "q"] (spP K F__law_plus)) : FnOk P w K mg base CX0 3 f fd ["p", "q"] (spP K F__law_minus) := by
  refine fn_P Fn sc__law_minus (fun ds G h => ?_) (fun cdv A outer s H Q E ds G hr hF hQ => ?_)
  · obtain ⟨a, b, c, d, e, f, rfl, ⟨hc, hf, ha, hb, hbc, hd, he, hbf⟩, hG⟩ := h
    rfl
  · obtain ⟨a, b, c, d, e, f, rfl, ⟨hc, hf, ha, hb, hbc, hd, he, hbf⟩, hG⟩ := hF
    refine (as_ret hQ (c_call c__law_plus (hr.mono (by decide)) (ca_cons (nm 0 rfl (ca_cons (c_tup (ca_cons (c_neg (c_ixTn (nm 1 rfl (c_int (And.intro (by decide) (ca_cons (c_neg (c_ixTn (nm 1 rfl (c_int (And.intro (by decide) (ca_cons (c_ixTn (nm 1 rfl (c_int (And.intro (by decide) (ca_nil (And.intro (And.intro rfl (Nat.le_of_ble_eq_true rfl)) (ca_nil ⟨_, _, _, _, _, _, rfl, ?h1, fun x1 y1 z1 hx1 hy1 hz1 hp1 => And.intro rfl (And.intro rfl ?h2)⟩))))))))))))))))))))))))))
    case h1 =>
      walk_at "b2"
    case h2 =>
      exact hG _ _ _ hx1 hy1 hz1 hp1

/-! ### _law_times -/
abbrev s__law_times : Stmt := topS 40
theorem sc__law_times : FnScope ["kind", "p", "q", "both", "a", "b"] ["kind", "p", "q"] (defScope s__law_times) := ⟨rfl, rfl, rfl, by decide +kernel, rfl, by decide +kernel, by decide +kernel⟩
def F__law_times : FP := fun ds Q => ∃ (k : Int) (p q : Z2), ds = [.int k, wD p, wD q] ∧ (Kd k ∧ B2 1000 p ∧ B2 1000 q) ∧ Q (wD (mul k p q))
theorem ok__law_times {f : Addr} {fd : FuncData} (Fn : Fun K "_law_times" "_law_times" s__law_times f fd) (c__law_low : Cl P w K mg base 1 "_law_low" ["a", "b", "n"] (spP K F__law_low)) : FnOk P w K mg base CX0 2 f fd ["kind", "p", "q"] (spP K F__law_times) := by
  refine fn_P Fn sc__law_times (fun ds G h => ?_) (fun cdv A outer s H Q E ds G hr hF hQ => ?_)
  · obtain ⟨k, p, q, rfl, ⟨hk, ⟨hp1, hp2⟩, hq1, hq2⟩, hG⟩ := h
    rfl
  · obtain ⟨k, p, q, rfl, ⟨hk, ⟨hp1, hp2⟩, hq1, hq2⟩, hG⟩ := hF
    have hkb := hk.bd
    have hkc : Bd 3 (if k = 2 then 2 else if k = 3 then 3 else 1) := by rcases hk with rfl | rfl | rfl <;> (show Int.natAbs _ < 2 ^ 3; decide)
    have hk1 : ¬ k = 5 → (if k = 2 then 2 else if k = 3 then 3 else 1) = k := fun h => by rcases hk with rfl | rfl | rfl <;> first | rfl | exact absurd rfl h
    have hk2 : k = 5 → (if k = 2 then 2 else if k = 3 then 3 else 1) = (1 : Int) := fun h => by subst h; rfl
    refine (as_asg (i := 3) sc__law_times.nd (c_mul (c_ixTn (nm 1 rfl (c_int (And.intro (by decide) (c_ixTn (nm 2 rfl (c_int (And.intro (by decide) (And.intro ?h1 (as_par (i := 4) (j := 5) sc__law_times.nd rfl (ca_cons (c_add (c_mul (c_ixTn (nm 1 rfl (c_int (And.intro (by decide) (c_ixTn (nm 2 rfl (c_int (And.intro (by decide) (And.intro ?h2 (c_mul (nm 3 rfl (c_disp3I hr.units (fun _ hR => (c_int hR)) (fun _ hR => (c_int hR)) (fun _ hR => (c_int hR)) (nm 0 rfl (And.intro ?h3 (And.intro ?h4 (ca_cons (c_add (c_mul (c_ixTn (nm 1 rfl (c_int (And.intro (by decide) (c_ixTn (nm 2 rfl (c_int (And.intro (by decide) (And.intro ?h5 (c_mul (c_ixTn (nm 1 rfl (c_int (And.intro (by decide) (c_ixTn (nm 2 rfl (c_int (And.intro (by decide) (And.intro ?h6 (ca_nil ⟨_, _, rfl, (as_ret hQ (c_call c__law_low (hr.mono (by decide)) (ca_cons (nm 4 rfl (ca_cons (c_if (t_eqI (nm 0 rfl (c_int (And.intro (fun b1 => (c_add (nm 5 rfl (nm 3 rfl (ca_cons (c_mul (c_ixTn (nm 1 rfl (c_int (And.intro (by decide) (c_ixTn (nm 2 rfl (c_int (And.intro (by decide) (And.intro ?h7 (ca_nil ⟨_, _, _, 2010, rfl, ?h8, fun x1 y1 z1 hx1 hy1 hz1 hp1 ho1 => And.intro rfl (And.intro rfl ?h9)⟩)))))))))))))))) (fun b1 => (nm 5 rfl (ca_cons (c_mul (c_ixTn (nm 1 rfl (c_int (And.intro (by decide) (c_ixTn (nm 2 rfl (c_int (And.intro (by decide) (And.intro ?h10 (ca_nil ⟨_, _, _, 2010, rfl, ?h11, fun x1 y1 z1 hx1 hy1 hz1 hp1 ho1 => And.intro rfl (And.intro rfl ?h12)⟩))))))))))))))))))))))))⟩)))))))))))))))))))))))))))))))))))))))))))))))))))))
    case h1 =>
      exact cm (by walk_at "bd") (by walk_at "bd") (by decide)
    case h2 =>
      exact cm (by walk_at "bd") (by walk_at "bd") (by decide)
    case h3 =>
      assumption
    case h4 =>
      exact cm (by walk_at "bd") (by walk_at "bd") (by decide)
    case h5 =>
      exact cm (by walk_at "bd") (by walk_at "bd") (by decide)
    case h6 =>
      exact cm (by walk_at "bd") (by walk_at "bd") (by decide)
    case h7 =>
      exact cm (by walk_at "bd") (by walk_at "bd") (by decide)
    case h8 =>
      refine ⟨by decide, ?_, ?_, ?_, by decide⟩ <;> walk_at "bm"
    case h9 =>
      obtain ⟨e1, e2, e3⟩ := ho1 (.inl (by decide))
      have ek : mul k p q = (x1, y1) := by
        rw [e1, e2]
        unfold mul
        first
          | (rw [if_pos b1, hk2 b1]; exact Prod.ext (by grind) (by grind))
          | (rw [if_neg b1, hk1 b1]; exact Prod.ext (by grind) (by grind))
      rw [ek] at hG
      rw [e3]
      exact hG
    case h10 =>
      exact cm (by walk_at "bd") (by walk_at "bd") (by decide)
    case h11 =>
      refine ⟨by decide, ?_, ?_, ?_, by decide⟩ <;> walk_at "bm"
    case h12 =>
      obtain ⟨e1, e2, e3⟩ := ho1 (.inl (by decide))
      have ek : mul k p q = (x1, y1) := by
        rw [e1, e2]
        unfold mul
        first
          | (rw [if_pos b1, hk2 b1]; exact Prod.ext (by grind) (by grind))
          | (rw [if_neg b1, hk1 b1]; exact Prod.ext (by grind) (by grind))
      rw [ek] at hG
      rw [e3]
      exact hG

/-! ### _law_mate -/
abbrev s__law_mate : Stmt := topS 41
theorem sc__law_mate : FnScope ["kind", "p"] ["kind", "p"] (defScope s__law_mate) := ⟨rfl, rfl, rfl, by decide +kernel, rfl, by decide +kernel, by decide +kernel⟩
def F__law_mate : FP := fun ds Q => ∃ (k : Int) (p : Z2), ds = [.int k, wD p] ∧ (Kd k ∧ B2 1000 p) ∧ Q (wD (mate k p))
theorem ok__law_mate {f : Addr} {fd : FuncData} (Fn : Fun K "_law_mate" "_law_mate" s__law_mate f fd) (c__law_low : Cl P w K mg base 1 "_law_low" ["a", "b", "n"] (spP K F__law_low)) : FnOk P w K mg base CX0 2 f fd ["kind", "p"] (spP K F__law_mate) := by
  refine fn_P Fn sc__law_mate (fun ds G h => ?_) (fun cdv A outer s H Q E ds G hr hF hQ => ?_)
  · obtain ⟨k, p, rfl, ⟨hk, hp1, hp2⟩, hG⟩ := h
    rfl
  · obtain ⟨k, p, rfl, ⟨hk, hp1, hp2⟩, hG⟩ := hF
    refine (as_ret hQ (c_call c__law_low (hr.mono (by decide)) (ca_cons (c_if (t_eqI (nm 0 rfl (c_int (And.intro (fun b1 => (c_add (c_ixTn (nm 1 rfl (c_int (And.intro (by decide) (c_ixTn (nm 1 rfl (c_int (And.intro (by decide) (ca_cons (c_neg (c_ixTn (nm 1 rfl (c_int (And.intro (by decide) (ca_cons (c_ixTn (nm 1 rfl (c_int (And.intro (by decide) (ca_nil ⟨_, _, _, 2010, rfl, ?h1, fun x1 y1 z1 hx1 hy1 hz1 hp1 ho1 => And.intro rfl (And.intro rfl ?h2)⟩)))))))))))))))))))))) (fun b1 => (c_ixTn (nm 1 rfl (c_int (And.intro (by decide) (ca_cons (c_neg (c_ixTn (nm 1 rfl (c_int (And.intro (by decide) (ca_cons (c_ixTn (nm 1 rfl (c_int (And.intro (by decide) (ca_nil ⟨_, _, _, 2010, rfl, ?h3, fun x1 y1 z1 hx1 hy1 hz1 hp1 ho1 => And.intro rfl (And.intro rfl ?h4)⟩)))))))))))))))))))))))))
    case h1 =>
      refine ⟨by decide, ?_, ?_, ?_, by decide⟩ <;> walk_at "bm"
    case h2 =>
      obtain ⟨e1, e2, e3⟩ := ho1 (.inl rfl)
      have ek : mate k p = (x1, y1) := by
        rw [e1, e2]
        unfold mate
        first
          | (rw [if_pos b1]; exact Prod.ext (by grind) (by grind))
          | (rw [if_neg b1]; exact Prod.ext (by grind) (by grind))
      rw [ek] at hG
      rw [e3]
      exact hG
    case h3 =>
      refine ⟨by decide, ?_, ?_, ?_, by decide⟩ <;> walk_at "bm"
    case h4 =>
      obtain ⟨e1, e2, e3⟩ := ho1 (.inl rfl)
      have ek : mate k p = (x1, y1) := by
        rw [e1, e2]
        unfold mate
        first
          | (rw [if_pos b1]; exact Prod.ext (by grind) (by grind))
          | (rw [if_neg b1]; exact Prod.ext (by grind) (by grind))
      rw [ek] at hG
      rw [e3]
      exact hG

end
end Y29

set_option Elab.async false
set_option linter.all false
set_option maxRecDepth 100000
set_option maxHeartbeats 8000000
namespace Y29
open PySem PySem.Spec PyProof.Rows L2 Evl Wz
local macro_rules | `(tactic| walk_at "bd") => `(tactic| (repeat (first | assumption | apply mate_b1 | apply mate_b2 | apply inv_b1 | apply inv_b2 | apply mul_b1 | apply mul_b2 | apply nrm_b | apply Bd.mul | apply Bd.add | apply Bd.sub | apply Bd.neg | exact Bd.z | exact Bd.of _)))
local macro_rules | `(tactic| walk_at "bm") => `(tactic| (first | assumption | exact Bd.mono (by walk_at "bd") (by decide)))
local macro_rules | `(tactic| walk_at "b2") => `(tactic| (repeat (first | assumption | apply And.intro | walk_at "bm" | decide | omega)))
theorem nl1 {x y z : Int} {h : y = 0} : True := trivial
theorem by_is {k : Int} {q : Z2} : mul k (1, 0) (mate k q) = mate k q := one_mul k _
section
variable {P : Program} {w : World} {K : PySem.W.Frag} {mg : Str → Option Value} {base : Heap}

/-! ### _law_by -/
abbrev s__law_by : Stmt := topS 42
theorem sc__law_by : FnScope ["kind", "p", "q", "other", "below", "top"] ["kind", "p", "q"] (defScope s__law_by) := ⟨rfl, rfl, rfl, by decide +kernel, rfl, by decide +kernel, by decide +kernel⟩
def F__law_by : FP := fun ds Q => ∃ (k : Int) (q : Z2), ds = [.int k, wD (1, 0), wD q] ∧ (Kd k ∧ B2 300 q ∧ (nrm k q = 1 ∨ nrm k q = -1)) ∧ Q (wD (inv k q))
theorem ok__law_by {f : Addr} {fd : FuncData} (Fn : Fun K "_law_by" "_law_by" s__law_by f fd) (c__law_mate : Cl P w K mg base 2 "_law_mate" ["kind", "p"] (spP K F__law_mate)) (c__law_times : Cl P w K mg base 2 "_law_times" ["kind", "p", "q"] (spP K F__law_times)) (c__law_low : Cl P w K mg base 1 "_law_low" ["a", "b", "n"] (spP K F__law_low)) : FnOk P w K mg base CX0 3 f fd ["kind", "p", "q"] (spP K F__law_by) := by
  refine fn_P Fn sc__law_by (fun ds G h => ?_) (fun cdv A outer s H Q E ds G hr hF hQ => ?_)
  · obtain ⟨k, q, rfl, ⟨hk, ⟨hq1, hq2⟩, hn⟩, hG⟩ := h
    rfl
  · obtain ⟨k, q, rfl, ⟨hk, ⟨hq1, hq2⟩, hn⟩, hG⟩ := hF
    have e1 : (1 : Int) * (mul k q (mate k q)).1 = nrm k q := by rw [mul_mate]; omega
    have hb1 : Bd 5 (1 * (mul k q (mate k q)).1) := by rw [e1]; rcases hn with h | h <;> rw [h] <;> (show Int.natAbs _ < 2 ^ 5; decide)
    refine (as_asg (i := 3) sc__law_by.nd (c_call c__law_mate (hr.mono (by decide)) (ca_cons (nm 0 rfl (ca_cons (nm 2 rfl (ca_nil ⟨_, q, rfl, ?h1, And.intro rfl (as_asg (i := 4) sc__law_by.nd (c_call c__law_times (hr.mono (by decide)) (ca_cons (nm 0 rfl (ca_cons (nm 2 rfl (ca_cons (nm 3 rfl (ca_nil ⟨_, q, mate k q, rfl, ?h2, And.intro rfl (as_asg (i := 5) sc__law_by.nd (c_call c__law_times (hr.mono (by decide)) (ca_cons (nm 0 rfl (ca_cons (nm 1 rfl (ca_cons (nm 3 rfl (ca_nil ⟨_, (1, 0), mate k q, rfl, ?h3, And.intro rfl (as_ret hQ (c_call c__law_low (hr.mono (by decide)) (ca_cons (c_mul (c_ixTn (nm 5 rfl (c_int (And.intro (by decide) (c_ixTn (nm 4 rfl (c_int (And.intro (by decide) (And.intro ?h4 (ca_cons (c_mul (c_ixTn (nm 5 rfl (c_int (And.intro (by decide) (c_ixTn (nm 4 rfl (c_int (And.intro (by decide) (And.intro ?h5 (ca_cons (c_mul (c_ixTn (nm 5 rfl (c_int (And.intro (by decide) (c_ixTn (nm 4 rfl (c_int (And.intro (by decide) (And.intro ?h6 (ca_nil ⟨_, _, _, 2010, rfl, ?h7, fun x1 y1 z1 hx1 hy1 hz1 hp1 ho1 => And.intro rfl (And.intro rfl ?h8)⟩))))))))))))))))))))))))))))))))))))⟩)))))))))⟩)))))))))⟩)))))))
    case h1 =>
      walk_at "b2"
    case h2 =>
      walk_at "b2"
    case h3 =>
      walk_at "b2"
    case h4 =>
      exact cm (by walk_at "bd") (by walk_at "bd") (by decide)
    case h5 =>
      exact cm (by walk_at "bd") (by walk_at "bd") (by decide)
    case h6 =>
      exact cm (by walk_at "bd") (by walk_at "bd") (by decide)
    case h7 =>
      refine ⟨(by rw [e1]; rcases hn with h | h <;> rw [h] <;> decide), ?_, ?_, ?_, by decide⟩ <;> walk_at "bm"
    case h8 =>
      obtain ⟨z1e, z2e, z3e⟩ := ho1 (by rw [e1]; exact hn)
      rw [e1] at z1e z2e
      have ek : inv k q = (x1, y1) := by
        rw [z1e, z2e]
        have e2 : mul k (1, 0) (mate k q) = mate k q := one_mul k _
        rw [e2]
        unfold inv
        exact Prod.ext (by simp) (by simp)
      rw [ek] at hG
      rw [z3e]
      exact hG

/-! ### _law_sign -/
abbrev s__law_sign : Stmt := topS 43
theorem sc__law_sign : FnScope ["kind", "p", "part", "root", "ahead"] ["kind", "p"] (defScope s__law_sign) := ⟨rfl, rfl, rfl, by decide +kernel, rfl, by decide +kernel, by decide +kernel⟩
def F__law_sign : FP := fun ds Q => ∃ (k a b c : Int), ds = [.int k, nD a b c] ∧ (Kd k ∧ Bd 3000 a ∧ Bd 3000 b) ∧ ∀ s, (0 < s ↔ Pos k (a, b)) → -1 ≤ s → s ≤ 1 → Q (.int s)
theorem ok__law_sign {f : Addr} {fd : FuncData} (Fn : Fun K "_law_sign" "_law_sign" s__law_sign f fd) (m_int : mg "int" = none) : FnOk P w K mg base CX0 1 f fd ["kind", "p"] (spP K F__law_sign) := by
  refine fn_P Fn sc__law_sign (fun ds G h => ?_) (fun cdv A outer s H Q E ds G hr hF hQ => ?_)
  · obtain ⟨k, a, b, c, rfl, ⟨hk, ha, hb⟩, hG⟩ := h
    rfl
  · obtain ⟨k, a, b, c, rfl, ⟨hk, ha, hb⟩, hG⟩ := hF
    have hkb := hk.bd
    have hi1 := irr (d := k) (x := 2 * a + b) (y := b) hk
    have hi2 := irr (d := k) (x := a) (y := b) hk
    refine (as_unp2 (i := 2) (j := 3) sc__law_sign.nd rfl (c_if (t_eqI (nm 0 rfl (c_int (And.intro (fun b1 => (c_tup (ca_cons (c_add (c_mulS (c_int (c_ixTn (nm 1 rfl (c_int (And.intro (by decide) (And.intro (.inl (And.intro (by decide) (by decide))) (c_ixTn (nm 1 rfl (c_int (And.intro (by decide) (ca_cons (c_ixTn (nm 1 rfl (c_int (And.intro (by decide) (ca_nil (And.intro (And.intro rfl (Nat.le_of_ble_eq_true rfl)) ⟨_, _, rfl, (as_ifn (t_w (w_or (t_w (w_and (t_ge (nm 2 rfl (c_int (And.intro (fun b2 => (w_and1 (t_ge (nm 3 rfl (c_int (And.intro (fun b3 => (as_ret hQ (c_sub (c_intB m_int (ca_cons (c_orB (c_gt (nm 2 rfl (c_int (And.intro (fun b4 => (c_one (c_gt (nm 3 rfl (c_int (ca_nil (c_intB m_int (ca_cons (c_orB (c_lt (nm 2 rfl (c_int (And.intro (fun b6 => (c_one (c_lt (nm 3 rfl (c_int (ca_nil (And.intro rfl ?h1))))))) (fun b7 => (ca_nil (And.intro rfl ?h2)))))))))))))))) (fun b5 => (ca_nil (c_intB m_int (ca_cons (c_orB (c_lt (nm 2 rfl (c_int (And.intro (fun b8 => (c_one (c_lt (nm 3 rfl (c_int (ca_nil (And.intro rfl ?h3))))))) (fun b9 => (ca_nil (And.intro rfl ?h4)))))))))))))))))))))) (fun b3 => (w_or1 (t_w (w_and (t_le (nm 2 rfl (c_int (And.intro (fun b10 => (w_and1 (t_le (nm 3 rfl (c_int (And.intro (fun b11 => (as_ret hQ (c_sub (c_intB m_int (ca_cons (c_orB (c_gt (nm 2 rfl (c_int (And.intro (fun b12 => (c_one (c_gt (nm 3 rfl (c_int (ca_nil (c_intB m_int (ca_cons (c_orB (c_lt (nm 2 rfl (c_int (And.intro (fun b14 => (c_one (c_lt (nm 3 rfl (c_int (ca_nil (And.intro rfl ?h5))))))) (fun b15 => (ca_nil (And.intro rfl ?h6)))))))))))))))) (fun b13 => (ca_nil (c_intB m_int (ca_cons (c_orB (c_lt (nm 2 rfl (c_int (And.intro (fun b16 => (c_one (c_lt (nm 3 rfl (c_int (ca_nil (And.intro rfl ?h7))))))) (fun b17 => (ca_nil (And.intro rfl ?h8)))))))))))))))))))))) (fun b11 => (as_asg (i := 4) sc__law_sign.nd (c_sub (c_mul (nm 2 rfl (nm 2 rfl (And.intro ?h9 (c_mul (c_mul (nm 0 rfl (nm 3 rfl (And.intro ?h10 (nm 3 rfl (And.intro ?h11 (as_ret hQ (c_mulS (c_sub (c_intB m_int (ca_cons (c_gt (nm 4 rfl (c_int (ca_nil (c_intB m_int (ca_cons (c_lt (nm 4 rfl (c_int (ca_nil (c_if (t_gt (nm 2 rfl (c_int (And.intro (fun b18 => (c_int (And.intro (.inr (And.intro (by decide) (by decide))) (And.intro rfl ?h12)))) (fun b18 => (c_neg (c_int (And.intro (.inr (And.intro (by decide) (by decide))) (And.intro rfl ?h13))))))))))))))))))))))))))))))))))))))))))))) (fun b10 => (as_asg (i := 4) sc__law_sign.nd (c_sub (c_mul (nm 2 rfl (nm 2 rfl (And.intro ?h14 (c_mul (c_mul (nm 0 rfl (nm 3 rfl (And.intro ?h15 (nm 3 rfl (And.intro ?h16 (as_ret hQ (c_mulS (c_sub (c_intB m_int (ca_cons (c_gt (nm 4 rfl (c_int (ca_nil (c_intB m_int (ca_cons (c_lt (nm 4 rfl (c_int (ca_nil (c_if (t_gt (nm 2 rfl (c_int (And.intro (fun b19 => (c_int (And.intro (.inr (And.intro (by decide) (by decide))) (And.intro rfl ?h17)))) (fun b19 => (c_neg (c_int (And.intro (.inr (And.intro (by decide) (by decide))) (And.intro rfl ?h18))))))))))))))))))))))))))))))))))))))))))))))))))))) (fun b2 => (w_or1 (t_w (w_and (t_le (nm 2 rfl (c_int (And.intro (fun b20 => (w_and1 (t_le (nm 3 rfl (c_int (And.intro (fun b21 => (as_ret hQ (c_sub (c_intB m_int (ca_cons (c_orB (c_gt (nm 2 rfl (c_int (And.intro (fun b22 => (c_one (c_gt (nm 3 rfl (c_int (ca_nil (c_intB m_int (ca_cons (c_orB (c_lt (nm 2 rfl (c_int (And.intro (fun b24 => (c_one (c_lt (nm 3 rfl (c_int (ca_nil (And.intro rfl ?h19))))))) (fun b25 => (ca_nil (And.intro rfl ?h20)))))))))))))))) (fun b23 => (ca_nil (c_intB m_int (ca_cons (c_orB (c_lt (nm 2 rfl (c_int (And.intro (fun b26 => (c_one (c_lt (nm 3 rfl (c_int (ca_nil (And.intro rfl ?h21))))))) (fun b27 => (ca_nil (And.intro rfl ?h22)))))))))))))))))))))) (fun b21 => (as_asg (i := 4) sc__law_sign.nd (c_sub (c_mul (nm 2 rfl (nm 2 rfl (And.intro ?h23 (c_mul (c_mul (nm 0 rfl (nm 3 rfl (And.intro ?h24 (nm 3 rfl (And.intro ?h25 (as_ret hQ (c_mulS (c_sub (c_intB m_int (ca_cons (c_gt (nm 4 rfl (c_int (ca_nil (c_intB m_int (ca_cons (c_lt (nm 4 rfl (c_int (ca_nil (c_if (t_gt (nm 2 rfl (c_int (And.intro (fun b28 => (c_int (And.intro (.inr (And.intro (by decide) (by decide))) (And.intro rfl ?h26)))) (fun b28 => (c_neg (c_int (And.intro (.inr (And.intro (by decide) (by decide))) (And.intro rfl ?h27))))))))))))))))))))))))))))))))))))))))))))) (fun b20 => (as_asg (i := 4) sc__law_sign.nd (c_sub (c_mul (nm 2 rfl (nm 2 rfl (And.intro ?h28 (c_mul (c_mul (nm 0 rfl (nm 3 rfl (And.intro ?h29 (nm 3 rfl (And.intro ?h30 (as_ret hQ (c_mulS (c_sub (c_intB m_int (ca_cons (c_gt (nm 4 rfl (c_int (ca_nil (c_intB m_int (ca_cons (c_lt (nm 4 rfl (c_int (ca_nil (c_if (t_gt (nm 2 rfl (c_int (And.intro (fun b29 => (c_int (And.intro (.inr (And.intro (by decide) (by decide))) (And.intro rfl ?h31)))) (fun b29 => (c_neg (c_int (And.intro (.inr (And.intro (by decide) (by decide))) (And.intro rfl ?h32))))))))))))))))))))))))))))))))))))))))))))))))))))))))⟩)))))))))))))))))))))) (fun b1 => (c_tup (ca_cons (c_ixTn (nm 1 rfl (c_int (And.intro (by decide) (ca_cons (c_ixTn (nm 1 rfl (c_int (And.intro (by decide) (ca_nil (And.intro (And.intro rfl (Nat.le_of_ble_eq_true rfl)) ⟨_, _, rfl, (as_ifn (t_w (w_or (t_w (w_and (t_ge (nm 2 rfl (c_int (And.intro (fun b30 => (w_and1 (t_ge (nm 3 rfl (c_int (And.intro (fun b31 => (as_ret hQ (c_sub (c_intB m_int (ca_cons (c_orB (c_gt (nm 2 rfl (c_int (And.intro (fun b32 => (c_one (c_gt (nm 3 rfl (c_int (ca_nil (c_intB m_int (ca_cons (c_orB (c_lt (nm 2 rfl (c_int (And.intro (fun b34 => (c_one (c_lt (nm 3 rfl (c_int (ca_nil (And.intro rfl ?h33))))))) (fun b35 => (ca_nil (And.intro rfl ?h34)))))))))))))))) (fun b33 => (ca_nil (c_intB m_int (ca_cons (c_orB (c_lt (nm 2 rfl (c_int (And.intro (fun b36 => (c_one (c_lt (nm 3 rfl (c_int (ca_nil (And.intro rfl ?h35))))))) (fun b37 => (ca_nil (And.intro rfl ?h36)))))))))))))))))))))) (fun b31 => (w_or1 (t_w (w_and (t_le (nm 2 rfl (c_int (And.intro (fun b38 => (w_and1 (t_le (nm 3 rfl (c_int (And.intro (fun b39 => (as_ret hQ (c_sub (c_intB m_int (ca_cons (c_orB (c_gt (nm 2 rfl (c_int (And.intro (fun b40 => (c_one (c_gt (nm 3 rfl (c_int (ca_nil (c_intB m_int (ca_cons (c_orB (c_lt (nm 2 rfl (c_int (And.intro (fun b42 => (c_one (c_lt (nm 3 rfl (c_int (ca_nil (And.intro rfl ?h37))))))) (fun b43 => (ca_nil (And.intro rfl ?h38)))))))))))))))) (fun b41 => (ca_nil (c_intB m_int (ca_cons (c_orB (c_lt (nm 2 rfl (c_int (And.intro (fun b44 => (c_one (c_lt (nm 3 rfl (c_int (ca_nil (And.intro rfl ?h39))))))) (fun b45 => (ca_nil (And.intro rfl ?h40)))))))))))))))))))))) (fun b39 => (as_asg (i := 4) sc__law_sign.nd (c_sub (c_mul (nm 2 rfl (nm 2 rfl (And.intro ?h41 (c_mul (c_mul (nm 0 rfl (nm 3 rfl (And.intro ?h42 (nm 3 rfl (And.intro ?h43 (as_ret hQ (c_mulS (c_sub (c_intB m_int (ca_cons (c_gt (nm 4 rfl (c_int (ca_nil (c_intB m_int (ca_cons (c_lt (nm 4 rfl (c_int (ca_nil (c_if (t_gt (nm 2 rfl (c_int (And.intro (fun b46 => (c_int (And.intro (.inr (And.intro (by decide) (by decide))) (And.intro rfl ?h44)))) (fun b46 => (c_neg (c_int (And.intro (.inr (And.intro (by decide) (by decide))) (And.intro rfl ?h45))))))))))))))))))))))))))))))))))))))))))))) (fun b38 => (as_asg (i := 4) sc__law_sign.nd (c_sub (c_mul (nm 2 rfl (nm 2 rfl (And.intro ?h46 (c_mul (c_mul (nm 0 rfl (nm 3 rfl (And.intro ?h47 (nm 3 rfl (And.intro ?h48 (as_ret hQ (c_mulS (c_sub (c_intB m_int (ca_cons (c_gt (nm 4 rfl (c_int (ca_nil (c_intB m_int (ca_cons (c_lt (nm 4 rfl (c_int (ca_nil (c_if (t_gt (nm 2 rfl (c_int (And.intro (fun b47 => (c_int (And.intro (.inr (And.intro (by decide) (by decide))) (And.intro rfl ?h49)))) (fun b47 => (c_neg (c_int (And.intro (.inr (And.intro (by decide) (by decide))) (And.intro rfl ?h50))))))))))))))))))))))))))))))))))))))))))))))))))))) (fun b30 => (w_or1 (t_w (w_and (t_le (nm 2 rfl (c_int (And.intro (fun b48 => (w_and1 (t_le (nm 3 rfl (c_int (And.intro (fun b49 => (as_ret hQ (c_sub (c_intB m_int (ca_cons (c_orB (c_gt (nm 2 rfl (c_int (And.intro (fun b50 => (c_one (c_gt (nm 3 rfl (c_int (ca_nil (c_intB m_int (ca_cons (c_orB (c_lt (nm 2 rfl (c_int (And.intro (fun b52 => (c_one (c_lt (nm 3 rfl (c_int (ca_nil (And.intro rfl ?h51))))))) (fun b53 => (ca_nil (And.intro rfl ?h52)))))))))))))))) (fun b51 => (ca_nil (c_intB m_int (ca_cons (c_orB (c_lt (nm 2 rfl (c_int (And.intro (fun b54 => (c_one (c_lt (nm 3 rfl (c_int (ca_nil (And.intro rfl ?h53))))))) (fun b55 => (ca_nil (And.intro rfl ?h54)))))))))))))))))))))) (fun b49 => (as_asg (i := 4) sc__law_sign.nd (c_sub (c_mul (nm 2 rfl (nm 2 rfl (And.intro ?h55 (c_mul (c_mul (nm 0 rfl (nm 3 rfl (And.intro ?h56 (nm 3 rfl (And.intro ?h57 (as_ret hQ (c_mulS (c_sub (c_intB m_int (ca_cons (c_gt (nm 4 rfl (c_int (ca_nil (c_intB m_int (ca_cons (c_lt (nm 4 rfl (c_int (ca_nil (c_if (t_gt (nm 2 rfl (c_int (And.intro (fun b56 => (c_int (And.intro (.inr (And.intro (by decide) (by decide))) (And.intro rfl ?h58)))) (fun b56 => (c_neg (c_int (And.intro (.inr (And.intro (by decide) (by decide))) (And.intro rfl ?h59))))))))))))))))))))))))))))))))))))))))))))) (fun b48 => (as_asg (i := 4) sc__law_sign.nd (c_sub (c_mul (nm 2 rfl (nm 2 rfl (And.intro ?h60 (c_mul (c_mul (nm 0 rfl (nm 3 rfl (And.intro ?h61 (nm 3 rfl (And.intro ?h62 (as_ret hQ (c_mulS (c_sub (c_intB m_int (ca_cons (c_gt (nm 4 rfl (c_int (ca_nil (c_intB m_int (ca_cons (c_lt (nm 4 rfl (c_int (ca_nil (c_if (t_gt (nm 2 rfl (c_int (And.intro (fun b57 => (c_int (And.intro (.inr (And.intro (by decide) (by decide))) (And.intro rfl ?h63)))) (fun b57 => (c_neg (c_int (And.intro (.inr (And.intro (by decide) (by decide))) (And.intro rfl ?h64))))))))))))))))))))))))))))))))))))))))))))))))))))))))⟩))))))))))))))))))))
    case h1 =>
      first
        | (refine hG _ (ws_ret hk (2 * a + b) (by subst b1; exact pos5) ?_) ?_ ?_ <;> (simp only [decide_eq_true_eq, decide_eq_false_iff_not] at *; (repeat' split) <;> first | omega | exact absurd trivial (by assumption)))
        | (refine hG _ (ws_ret hk a (posN b1) ?_) ?_ ?_ <;> (simp only [decide_eq_true_eq, decide_eq_false_iff_not] at *; (repeat' split) <;> first | omega | exact absurd trivial (by assumption)))
    case h2 =>
      first
        | (refine hG _ (ws_ret hk (2 * a + b) (by subst b1; exact pos5) ?_) ?_ ?_ <;> (simp only [decide_eq_true_eq, decide_eq_false_iff_not] at *; (repeat' split) <;> first | omega | exact absurd trivial (by assumption)))
        | (refine hG _ (ws_ret hk a (posN b1) ?_) ?_ ?_ <;> (simp only [decide_eq_true_eq, decide_eq_false_iff_not] at *; (repeat' split) <;> first | omega | exact absurd trivial (by assumption)))
    case h3 =>
      first
        | (refine hG _ (ws_ret hk (2 * a + b) (by subst b1; exact pos5) ?_) ?_ ?_ <;> (simp only [decide_eq_true_eq, decide_eq_false_iff_not] at *; (repeat' split) <;> first | omega | exact absurd trivial (by assumption)))
        | (refine hG _ (ws_ret hk a (posN b1) ?_) ?_ ?_ <;> (simp only [decide_eq_true_eq, decide_eq_false_iff_not] at *; (repeat' split) <;> first | omega | exact absurd trivial (by assumption)))
    case h4 =>
      first
        | (refine hG _ (ws_ret hk (2 * a + b) (by subst b1; exact pos5) ?_) ?_ ?_ <;> (simp only [decide_eq_true_eq, decide_eq_false_iff_not] at *; (repeat' split) <;> first | omega | exact absurd trivial (by assumption)))
        | (refine hG _ (ws_ret hk a (posN b1) ?_) ?_ ?_ <;> (simp only [decide_eq_true_eq, decide_eq_false_iff_not] at *; (repeat' split) <;> first | omega | exact absurd trivial (by assumption)))
    case h5 =>
      first
        | (refine hG _ (ws_ret hk (2 * a + b) (by subst b1; exact pos5) ?_) ?_ ?_ <;> (simp only [decide_eq_true_eq, decide_eq_false_iff_not] at *; (repeat' split) <;> first | omega | exact absurd trivial (by assumption)))
        | (refine hG _ (ws_ret hk a (posN b1) ?_) ?_ ?_ <;> (simp only [decide_eq_true_eq, decide_eq_false_iff_not] at *; (repeat' split) <;> first | omega | exact absurd trivial (by assumption)))
    case h6 =>
      first
        | (refine hG _ (ws_ret hk (2 * a + b) (by subst b1; exact pos5) ?_) ?_ ?_ <;> (simp only [decide_eq_true_eq, decide_eq_false_iff_not] at *; (repeat' split) <;> first | omega | exact absurd trivial (by assumption)))
        | (refine hG _ (ws_ret hk a (posN b1) ?_) ?_ ?_ <;> (simp only [decide_eq_true_eq, decide_eq_false_iff_not] at *; (repeat' split) <;> first | omega | exact absurd trivial (by assumption)))
    case h7 =>
      first
        | (refine hG _ (ws_ret hk (2 * a + b) (by subst b1; exact pos5) ?_) ?_ ?_ <;> (simp only [decide_eq_true_eq, decide_eq_false_iff_not] at *; (repeat' split) <;> first | omega | exact absurd trivial (by assumption)))
        | (refine hG _ (ws_ret hk a (posN b1) ?_) ?_ ?_ <;> (simp only [decide_eq_true_eq, decide_eq_false_iff_not] at *; (repeat' split) <;> first | omega | exact absurd trivial (by assumption)))
    case h8 =>
      first
        | (refine hG _ (ws_ret hk (2 * a + b) (by subst b1; exact pos5) ?_) ?_ ?_ <;> (simp only [decide_eq_true_eq, decide_eq_false_iff_not] at *; (repeat' split) <;> first | omega | exact absurd trivial (by assumption)))
        | (refine hG _ (ws_ret hk a (posN b1) ?_) ?_ ?_ <;> (simp only [decide_eq_true_eq, decide_eq_false_iff_not] at *; (repeat' split) <;> first | omega | exact absurd trivial (by assumption)))
    case h9 =>
      exact cm (by walk_at "bd") (by walk_at "bd") (by decide)
    case h10 =>
      exact cm (by walk_at "bd") (by walk_at "bd") (by decide)
    case h11 =>
      exact cm (by walk_at "bd") (by walk_at "bd") (by decide)
    case h12 =>
      first
        | (refine hG _ (ws_ret hk (2 * a + b) (by subst b1; exact pos5) ?_) ?_ ?_ <;> (simp only [decide_eq_true_eq, decide_eq_false_iff_not] at *; (repeat' split) <;> first | omega | exact absurd trivial (by assumption)))
        | (refine hG _ (ws_ret hk a (posN b1) ?_) ?_ ?_ <;> (simp only [decide_eq_true_eq, decide_eq_false_iff_not] at *; (repeat' split) <;> first | omega | exact absurd trivial (by assumption)))
    case h13 =>
      first
        | (refine hG _ (ws_ret hk (2 * a + b) (by subst b1; exact pos5) ?_) ?_ ?_ <;> (simp only [decide_eq_true_eq, decide_eq_false_iff_not] at *; (repeat' split) <;> first | omega | exact absurd trivial (by assumption)))
        | (refine hG _ (ws_ret hk a (posN b1) ?_) ?_ ?_ <;> (simp only [decide_eq_true_eq, decide_eq_false_iff_not] at *; (repeat' split) <;> first | omega | exact absurd trivial (by assumption)))
    case h14 =>
      exact cm (by walk_at "bd") (by walk_at "bd") (by decide)
    case h15 =>
      exact cm (by walk_at "bd") (by walk_at "bd") (by decide)
    case h16 =>
      exact cm (by walk_at "bd") (by walk_at "bd") (by decide)
    case h17 =>
      first
        | (refine hG _ (ws_ret hk (2 * a + b) (by subst b1; exact pos5) ?_) ?_ ?_ <;> (simp only [decide_eq_true_eq, decide_eq_false_iff_not] at *; (repeat' split) <;> first | omega | exact absurd trivial (by assumption)))
        | (refine hG _ (ws_ret hk a (posN b1) ?_) ?_ ?_ <;> (simp only [decide_eq_true_eq, decide_eq_false_iff_not] at *; (repeat' split) <;> first | omega | exact absurd trivial (by assumption)))
    case h18 =>
      first
        | (refine hG _ (ws_ret hk (2 * a + b) (by subst b1; exact pos5) ?_) ?_ ?_ <;> (simp only [decide_eq_true_eq, decide_eq_false_iff_not] at *; (repeat' split) <;> first | omega | exact absurd trivial (by assumption)))
        | (refine hG _ (ws_ret hk a (posN b1) ?_) ?_ ?_ <;> (simp only [decide_eq_true_eq, decide_eq_false_iff_not] at *; (repeat' split) <;> first | omega | exact absurd trivial (by assumption)))
    case h19 =>
      first
        | (refine hG _ (ws_ret hk (2 * a + b) (by subst b1; exact pos5) ?_) ?_ ?_ <;> (simp only [decide_eq_true_eq, decide_eq_false_iff_not] at *; (repeat' split) <;> first | omega | exact absurd trivial (by assumption)))
        | (refine hG _ (ws_ret hk a (posN b1) ?_) ?_ ?_ <;> (simp only [decide_eq_true_eq, decide_eq_false_iff_not] at *; (repeat' split) <;> first | omega | exact absurd trivial (by assumption)))
    case h20 =>
      first
        | (refine hG _ (ws_ret hk (2 * a + b) (by subst b1; exact pos5) ?_) ?_ ?_ <;> (simp only [decide_eq_true_eq, decide_eq_false_iff_not] at *; (repeat' split) <;> first | omega | exact absurd trivial (by assumption)))
        | (refine hG _ (ws_ret hk a (posN b1) ?_) ?_ ?_ <;> (simp only [decide_eq_true_eq, decide_eq_false_iff_not] at *; (repeat' split) <;> first | omega | exact absurd trivial (by assumption)))
    case h21 =>
      first
        | (refine hG _ (ws_ret hk (2 * a + b) (by subst b1; exact pos5) ?_) ?_ ?_ <;> (simp only [decide_eq_true_eq, decide_eq_false_iff_not] at *; (repeat' split) <;> first | omega | exact absurd trivial (by assumption)))
        | (refine hG _ (ws_ret hk a (posN b1) ?_) ?_ ?_ <;> (simp only [decide_eq_true_eq, decide_eq_false_iff_not] at *; (repeat' split) <;> first | omega | exact absurd trivial (by assumption)))
    case h22 =>
      first
        | (refine hG _ (ws_ret hk (2 * a + b) (by subst b1; exact pos5) ?_) ?_ ?_ <;> (simp only [decide_eq_true_eq, decide_eq_false_iff_not] at *; (repeat' split) <;> first | omega | exact absurd trivial (by assumption)))
        | (refine hG _ (ws_ret hk a (posN b1) ?_) ?_ ?_ <;> (simp only [decide_eq_true_eq, decide_eq_false_iff_not] at *; (repeat' split) <;> first | omega | exact absurd trivial (by assumption)))
    case h23 =>
      exact cm (by walk_at "bd") (by walk_at "bd") (by decide)
    case h24 =>
      exact cm (by walk_at "bd") (by walk_at "bd") (by decide)
    case h25 =>
      exact cm (by walk_at "bd") (by walk_at "bd") (by decide)
    case h26 =>
      first
        | (refine hG _ (ws_ret hk (2 * a + b) (by subst b1; exact pos5) ?_) ?_ ?_ <;> (simp only [decide_eq_true_eq, decide_eq_false_iff_not] at *; (repeat' split) <;> first | omega | exact absurd trivial (by assumption)))
        | (refine hG _ (ws_ret hk a (posN b1) ?_) ?_ ?_ <;> (simp only [decide_eq_true_eq, decide_eq_false_iff_not] at *; (repeat' split) <;> first | omega | exact absurd trivial (by assumption)))
    case h27 =>
      first
        | (refine hG _ (ws_ret hk (2 * a + b) (by subst b1; exact pos5) ?_) ?_ ?_ <;> (simp only [decide_eq_true_eq, decide_eq_false_iff_not] at *; (repeat' split) <;> first | omega | exact absurd trivial (by assumption)))
        | (refine hG _ (ws_ret hk a (posN b1) ?_) ?_ ?_ <;> (simp only [decide_eq_true_eq, decide_eq_false_iff_not] at *; (repeat' split) <;> first | omega | exact absurd trivial (by assumption)))
    case h28 =>
      exact cm (by walk_at "bd") (by walk_at "bd") (by decide)
    case h29 =>
      exact cm (by walk_at "bd") (by walk_at "bd") (by decide)
    case h30 =>
      exact cm (by walk_at "bd") (by walk_at "bd") (by decide)
    case h31 =>
      first
        | (refine hG _ (ws_ret hk (2 * a + b) (by subst b1; exact pos5) ?_) ?_ ?_ <;> (simp only [decide_eq_true_eq, decide_eq_false_iff_not] at *; (repeat' split) <;> first | omega | exact absurd trivial (by assumption)))
        | (refine hG _ (ws_ret hk a (posN b1) ?_) ?_ ?_ <;> (simp only [decide_eq_true_eq, decide_eq_false_iff_not] at *; (repeat' split) <;> first | omega | exact absurd trivial (by assumption)))
    case h32 =>
      first
        | (refine hG _ (ws_ret hk (2 * a + b) (by subst b1; exact pos5) ?_) ?_ ?_ <;> (simp only [decide_eq_true_eq, decide_eq_false_iff_not] at *; (repeat' split) <;> first | omega | exact absurd trivial (by assumption)))
        | (refine hG _ (ws_ret hk a (posN b1) ?_) ?_ ?_ <;> (simp only [decide_eq_true_eq, decide_eq_false_iff_not] at *; (repeat' split) <;> first | omega | exact absurd trivial (by assumption)))
    case h33 =>
      first
        | (refine hG _ (ws_ret hk (2 * a + b) (by subst b1; exact pos5) ?_) ?_ ?_ <;> (simp only [decide_eq_true_eq, decide_eq_false_iff_not] at *; (repeat' split) <;> first | omega | exact absurd trivial (by assumption)))
        | (refine hG _ (ws_ret hk a (posN b1) ?_) ?_ ?_ <;> (simp only [decide_eq_true_eq, decide_eq_false_iff_not] at *; (repeat' split) <;> first | omega | exact absurd trivial (by assumption)))
    case h34 =>
      first
        | (refine hG _ (ws_ret hk (2 * a + b) (by subst b1; exact pos5) ?_) ?_ ?_ <;> (simp only [decide_eq_true_eq, decide_eq_false_iff_not] at *; (repeat' split) <;> first | omega | exact absurd trivial (by assumption)))
        | (refine hG _ (ws_ret hk a (posN b1) ?_) ?_ ?_ <;> (simp only [decide_eq_true_eq, decide_eq_false_iff_not] at *; (repeat' split) <;> first | omega | exact absurd trivial (by assumption)))
    case h35 =>
      first
        | (refine hG _ (ws_ret hk (2 * a + b) (by subst b1; exact pos5) ?_) ?_ ?_ <;> (simp only [decide_eq_true_eq, decide_eq_false_iff_not] at *; (repeat' split) <;> first | omega | exact absurd trivial (by assumption)))
        | (refine hG _ (ws_ret hk a (posN b1) ?_) ?_ ?_ <;> (simp only [decide_eq_true_eq, decide_eq_false_iff_not] at *; (repeat' split) <;> first | omega | exact absurd trivial (by assumption)))
    case h36 =>
      first
        | (refine hG _ (ws_ret hk (2 * a + b) (by subst b1; exact pos5) ?_) ?_ ?_ <;> (simp only [decide_eq_true_eq, decide_eq_false_iff_not] at *; (repeat' split) <;> first | omega | exact absurd trivial (by assumption)))
        | (refine hG _ (ws_ret hk a (posN b1) ?_) ?_ ?_ <;> (simp only [decide_eq_true_eq, decide_eq_false_iff_not] at *; (repeat' split) <;> first | omega | exact absurd trivial (by assumption)))
    case h37 =>
      first
        | (refine hG _ (ws_ret hk (2 * a + b) (by subst b1; exact pos5) ?_) ?_ ?_ <;> (simp only [decide_eq_true_eq, decide_eq_false_iff_not] at *; (repeat' split) <;> first | omega | exact absurd trivial (by assumption)))
        | (refine hG _ (ws_ret hk a (posN b1) ?_) ?_ ?_ <;> (simp only [decide_eq_true_eq, decide_eq_false_iff_not] at *; (repeat' split) <;> first | omega | exact absurd trivial (by assumption)))
    case h38 =>
      first
        | (refine hG _ (ws_ret hk (2 * a + b) (by subst b1; exact pos5) ?_) ?_ ?_ <;> (simp only [decide_eq_true_eq, decide_eq_false_iff_not] at *; (repeat' split) <;> first | omega | exact absurd trivial (by assumption)))
        | (refine hG _ (ws_ret hk a (posN b1) ?_) ?_ ?_ <;> (simp only [decide_eq_true_eq, decide_eq_false_iff_not] at *; (repeat' split) <;> first | omega | exact absurd trivial (by assumption)))
    case h39 =>
      first
        | (refine hG _ (ws_ret hk (2 * a + b) (by subst b1; exact pos5) ?_) ?_ ?_ <;> (simp only [decide_eq_true_eq, decide_eq_false_iff_not] at *; (repeat' split) <;> first | omega | exact absurd trivial (by assumption)))
        | (refine hG _ (ws_ret hk a (posN b1) ?_) ?_ ?_ <;> (simp only [decide_eq_true_eq, decide_eq_false_iff_not] at *; (repeat' split) <;> first | omega | exact absurd trivial (by assumption)))
    case h40 =>
      first
        | (refine hG _ (ws_ret hk (2 * a + b) (by subst b1; exact pos5) ?_) ?_ ?_ <;> (simp only [decide_eq_true_eq, decide_eq_false_iff_not] at *; (repeat' split) <;> first | omega | exact absurd trivial (by assumption)))
        | (refine hG _ (ws_ret hk a (posN b1) ?_) ?_ ?_ <;> (simp only [decide_eq_true_eq, decide_eq_false_iff_not] at *; (repeat' split) <;> first | omega | exact absurd trivial (by assumption)))
    case h41 =>
      exact cm (by walk_at "bd") (by walk_at "bd") (by decide)
    case h42 =>
      exact cm (by walk_at "bd") (by walk_at "bd") (by decide)
    case h43 =>
      exact cm (by walk_at "bd") (by walk_at "bd") (by decide)
    case h44 =>
      first
        | (refine hG _ (ws_ret hk (2 * a + b) (by subst b1; exact pos5) ?_) ?_ ?_ <;> (simp only [decide_eq_true_eq, decide_eq_false_iff_not] at *; (repeat' split) <;> first | omega | exact absurd trivial (by assumption)))
        | (refine hG _ (ws_ret hk a (posN b1) ?_) ?_ ?_ <;> (simp only [decide_eq_true_eq, decide_eq_false_iff_not] at *; (repeat' split) <;> first | omega | exact absurd trivial (by assumption)))
    case h45 =>
      first
        | (refine hG _ (ws_ret hk (2 * a + b) (by subst b1; exact pos5) ?_) ?_ ?_ <;> (simp only [decide_eq_true_eq, decide_eq_false_iff_not] at *; (repeat' split) <;> first | omega | exact absurd trivial (by assumption)))
        | (refine hG _ (ws_ret hk a (posN b1) ?_) ?_ ?_ <;> (simp only [decide_eq_true_eq, decide_eq_false_iff_not] at *; (repeat' split) <;> first | omega | exact absurd trivial (by assumption)))
    case h46 =>
      exact cm (by walk_at "bd") (by walk_at "bd") (by decide)
    case h47 =>
      exact cm (by walk_at "bd") (by walk_at "bd") (by decide)
    case h48 =>
      exact cm (by walk_at "bd") (by walk_at "bd") (by decide)
    case h49 =>
      first
        | (refine hG _ (ws_ret hk (2 * a + b) (by subst b1; exact pos5) ?_) ?_ ?_ <;> (simp only [decide_eq_true_eq, decide_eq_false_iff_not] at *; (repeat' split) <;> first | omega | exact absurd trivial (by assumption)))
        | (refine hG _ (ws_ret hk a (posN b1) ?_) ?_ ?_ <;> (simp only [decide_eq_true_eq, decide_eq_false_iff_not] at *; (repeat' split) <;> first | omega | exact absurd trivial (by assumption)))
    case h50 =>
      first
        | (refine hG _ (ws_ret hk (2 * a + b) (by subst b1; exact pos5) ?_) ?_ ?_ <;> (simp only [decide_eq_true_eq, decide_eq_false_iff_not] at *; (repeat' split) <;> first | omega | exact absurd trivial (by assumption)))
        | (refine hG _ (ws_ret hk a (posN b1) ?_) ?_ ?_ <;> (simp only [decide_eq_true_eq, decide_eq_false_iff_not] at *; (repeat' split) <;> first | omega | exact absurd trivial (by assumption)))
    case h51 =>
      first
        | (refine hG _ (ws_ret hk (2 * a + b) (by subst b1; exact pos5) ?_) ?_ ?_ <;> (simp only [decide_eq_true_eq, decide_eq_false_iff_not] at *; (repeat' split) <;> first | omega | exact absurd trivial (by assumption)))
        | (refine hG _ (ws_ret hk a (posN b1) ?_) ?_ ?_ <;> (simp only [decide_eq_true_eq, decide_eq_false_iff_not] at *; (repeat' split) <;> first | omega | exact absurd trivial (by assumption)))
    case h52 =>
      first
        | (refine hG _ (ws_ret hk (2 * a + b) (by subst b1; exact pos5) ?_) ?_ ?_ <;> (simp only [decide_eq_true_eq, decide_eq_false_iff_not] at *; (repeat' split) <;> first | omega | exact absurd trivial (by assumption)))
        | (refine hG _ (ws_ret hk a (posN b1) ?_) ?_ ?_ <;> (simp only [decide_eq_true_eq, decide_eq_false_iff_not] at *; (repeat' split) <;> first | omega | exact absurd trivial (by assumption)))
    case h53 =>
      first
        | (refine hG _ (ws_ret hk (2 * a + b) (by subst b1; exact pos5) ?_) ?_ ?_ <;> (simp only [decide_eq_true_eq, decide_eq_false_iff_not] at *; (repeat' split) <;> first | omega | exact absurd trivial (by assumption)))
        | (refine hG _ (ws_ret hk a (posN b1) ?_) ?_ ?_ <;> (simp only [decide_eq_true_eq, decide_eq_false_iff_not] at *; (repeat' split) <;> first | omega | exact absurd trivial (by assumption)))
    case h54 =>
      first
        | (refine hG _ (ws_ret hk (2 * a + b) (by subst b1; exact pos5) ?_) ?_ ?_ <;> (simp only [decide_eq_true_eq, decide_eq_false_iff_not] at *; (repeat' split) <;> first | omega | exact absurd trivial (by assumption)))
        | (refine hG _ (ws_ret hk a (posN b1) ?_) ?_ ?_ <;> (simp only [decide_eq_true_eq, decide_eq_false_iff_not] at *; (repeat' split) <;> first | omega | exact absurd trivial (by assumption)))
    case h55 =>
      exact cm (by walk_at "bd") (by walk_at "bd") (by decide)
    case h56 =>
      exact cm (by walk_at "bd") (by walk_at "bd") (by decide)
    case h57 =>
      exact cm (by walk_at "bd") (by walk_at "bd") (by decide)
    case h58 =>
      first
        | (refine hG _ (ws_ret hk (2 * a + b) (by subst b1; exact pos5) ?_) ?_ ?_ <;> (simp only [decide_eq_true_eq, decide_eq_false_iff_not] at *; (repeat' split) <;> first | omega | exact absurd trivial (by assumption)))
        | (refine hG _ (ws_ret hk a (posN b1) ?_) ?_ ?_ <;> (simp only [decide_eq_true_eq, decide_eq_false_iff_not] at *; (repeat' split) <;> first | omega | exact absurd trivial (by assumption)))
    case h59 =>
      first
        | (refine hG _ (ws_ret hk (2 * a + b) (by subst b1; exact pos5) ?_) ?_ ?_ <;> (simp only [decide_eq_true_eq, decide_eq_false_iff_not] at *; (repeat' split) <;> first | omega | exact absurd trivial (by assumption)))
        | (refine hG _ (ws_ret hk a (posN b1) ?_) ?_ ?_ <;> (simp only [decide_eq_true_eq, decide_eq_false_iff_not] at *; (repeat' split) <;> first | omega | exact absurd trivial (by assumption)))
    case h60 =>
      exact cm (by walk_at "bd") (by walk_at "bd") (by decide)
    case h61 =>
      exact cm (by walk_at "bd") (by walk_at "bd") (by decide)
    case h62 =>
      exact cm (by walk_at "bd") (by walk_at "bd") (by decide)
    case h63 =>
      first
        | (refine hG _ (ws_ret hk (2 * a + b) (by subst b1; exact pos5) ?_) ?_ ?_ <;> (simp only [decide_eq_true_eq, decide_eq_false_iff_not] at *; (repeat' split) <;> first | omega | exact absurd trivial (by assumption)))
        | (refine hG _ (ws_ret hk a (posN b1) ?_) ?_ ?_ <;> (simp only [decide_eq_true_eq, decide_eq_false_iff_not] at *; (repeat' split) <;> first | omega | exact absurd trivial (by assumption)))
    case h64 =>
      first
        | (refine hG _ (ws_ret hk (2 * a + b) (by subst b1; exact pos5) ?_) ?_ ?_ <;> (simp only [decide_eq_true_eq, decide_eq_false_iff_not] at *; (repeat' split) <;> first | omega | exact absurd trivial (by assumption)))
        | (refine hG _ (ws_ret hk a (posN b1) ?_) ?_ ?_ <;> (simp only [decide_eq_true_eq, decide_eq_false_iff_not] at *; (repeat' split) <;> first | omega | exact absurd trivial (by assumption)))

end
end Y29

set_option Elab.async false
set_option linter.all false
set_option maxRecDepth 100000
set_option maxHeartbeats 8000000
namespace Y29
open PySem PySem.Spec PyProof.Rows L2 Evl Wz
local macro_rules | `(tactic| walk_at "bd") => `(tactic| (repeat (first | assumption | apply mate_b1 | apply mate_b2 | apply inv_b1 | apply inv_b2 | apply mul_b1 | apply mul_b2 | apply nrm_b | apply Bd.mul | apply Bd.add | apply Bd.sub | apply Bd.neg | exact Bd.z | exact Bd.of _)))
local macro_rules | `(tactic| walk_at "bm") => `(tactic| (first | assumption | exact Bd.mono (by walk_at "bd") (by decide)))
local macro_rules | `(tactic| walk_at "b2") => `(tactic| (repeat (first | assumption | apply And.intro | walk_at "bm" | decide | omega)))

theorem cut2 (a b c : Dat) : cutD [a, b, c] none (some 2) = [a, b] := rfl
theorem pq_eta (p : Z2) : (p.1, p.2) = p := rfl
section
variable {P : Program} {w : World} {K : PySem.W.Frag} {mg : Str → Option Value} {base : Heap}

/-! ### _law_under -/
abbrev s__law_under : Stmt := topS 44
theorem sc__law_under : FnScope ["kind", "p", "q"] ["kind", "p", "q"] (defScope s__law_under) := ⟨rfl, rfl, rfl, by decide +kernel, rfl, by decide +kernel, by decide +kernel⟩
def F__law_under : FP := fun ds Q => ∃ (k a b c d e f : Int), ds = [.int k, nD a b c, nD d e f] ∧ (Kd k ∧ 0 < c ∧ 0 < f ∧ Bd 200 a ∧ Bd 200 b ∧ Bd 200 c ∧ Bd 200 d ∧ Bd 200 e ∧ Bd 200 f) ∧ ∀ z, Q (.bl z)
theorem ok__law_under {f : Addr} {fd : FuncData} (Fn : Fun K "_law_under" "_law_under" s__law_under f fd) (c__law_sign : Cl P w K mg base 1 "_law_sign" ["kind", "p"] (spP K F__law_sign)) (c__law_minus : Cl P w K mg base 3 "_law_minus" ["p", "q"] (spP K F__law_minus)) : FnOk P w K mg base CX0 4 f fd ["kind", "p", "q"] (spP K F__law_under) := by
  refine fn_P Fn sc__law_under (fun ds G h => ?_) (fun cdv A outer s H Q E ds G hr hF hQ => ?_)
  · obtain ⟨k, a, b, c, d, e, f, rfl, ⟨hk, hc, hf, ha, hb, hbc, hd, he, hbf⟩, hG⟩ := h
    rfl
  · obtain ⟨k, a, b, c, d, e, f, rfl, ⟨hk, hc, hf, ha, hb, hbc, hd, he, hbf⟩, hG⟩ := hF
    refine (as_ret hQ (c_lt (c_call c__law_sign (hr.mono (by decide)) (ca_cons (nm 0 rfl (ca_cons (c_call c__law_minus (hr.mono (by decide)) (ca_cons (nm 1 rfl (ca_cons (nm 2 rfl (ca_nil ⟨_, _, _, _, _, _, rfl, ?h1, fun x1 y1 z1 hx1 hy1 hz1 hp1 => And.intro rfl (ca_nil ⟨_, _, _, _, rfl, ?h2, fun s1 hs1 hl1 hu1 => And.intro rfl (c_int (And.intro rfl ?h3))⟩)⟩))))))))))))
    case h1 =>
      walk_at "b2"
    case h2 =>
      walk_at "b2"
    case h3 =>
      exact hG _

/-! ### _law_whole -/
abbrev s__law_whole : Stmt := topS 45
theorem sc__law_whole : FnScope ["kind", "p", "q"] ["kind", "p", "q"] (defScope s__law_whole) := ⟨rfl, rfl, rfl, by decide +kernel, rfl, by decide +kernel, by decide +kernel⟩
def F__law_whole : FP := fun ds Q => ∃ (k : Int) (p q : Z2), ds = [.int k, pD p, pD q] ∧ (Kd k ∧ B2 1000 p ∧ B2 1000 q) ∧ Q (pD (mul k p q))
theorem ok__law_whole {f : Addr} {fd : FuncData} (Fn : Fun K "_law_whole" "_law_whole" s__law_whole f fd) (c__law_times : Cl P w K mg base 2 "_law_times" ["kind", "p", "q"] (spP K F__law_times)) : FnOk P w K mg base CX0 3 f fd ["kind", "p", "q"] (spP K F__law_whole) := by
  refine fn_P Fn sc__law_whole (fun ds G h => ?_) (fun cdv A outer s H Q E ds G hr hF hQ => ?_)
  · obtain ⟨k, p, q, rfl, ⟨hk, ⟨hp1, hp2⟩, hq1, hq2⟩, hG⟩ := h
    rfl
  · obtain ⟨k, p, q, rfl, ⟨hk, ⟨hp1, hp2⟩, hq1, hq2⟩, hG⟩ := hF
    refine (as_ret hQ (c_cutT (c_call c__law_times (hr.mono (by decide)) (ca_cons (nm 0 rfl (ca_cons (c_catT (nm 1 rfl (c_tup (ca_cons (c_int (ca_nil (And.intro (And.intro rfl (Nat.le_of_ble_eq_true rfl)) (And.intro (Nat.le_of_ble_eq_true rfl) (ca_cons (c_catT (nm 2 rfl (c_tup (ca_cons (c_int (ca_nil (And.intro (And.intro rfl (Nat.le_of_ble_eq_true rfl)) (And.intro (Nat.le_of_ble_eq_true rfl) (ca_nil ⟨_, p, q, rfl, ?h1, And.intro rfl (o_none (o_some (c_int (And.intro rfl ?h2))))⟩))))))))))))))))))))))))
    case h1 =>
      walk_at "b2"
    case h2 =>
      exact hG

/-! ### _law_is_sense -/
abbrev s__law_is_sense : Stmt := topS 47
theorem sc__law_is_sense : FnScope ["kind", "told", "mate", "norm"] ["kind", "told"] (defScope s__law_is_sense) := ⟨rfl, rfl, rfl, by decide +kernel, rfl, by decide +kernel, by decide +kernel⟩
def F__law_is_sense : FP := fun ds Q => ∃ (k : Int) (p : Z2), ds = [.int k, pD p] ∧ (Kd k ∧ B2 400 p) ∧ Q (.bl (decide (U k p)))
theorem ok__law_is_sense {f : Addr} {fd : FuncData} (Fn : Fun K "_law_is_sense" "_law_is_sense" s__law_is_sense f fd) (c__law_mate : Cl P w K mg base 2 "_law_mate" ["kind", "p"] (spP K F__law_mate)) (c__law_times : Cl P w K mg base 2 "_law_times" ["kind", "p", "q"] (spP K F__law_times)) (c__law_sign : Cl P w K mg base 1 "_law_sign" ["kind", "p"] (spP K F__law_sign)) : FnOk P w K mg base CX0 3 f fd ["kind", "told"] (spP K F__law_is_sense) := by
  refine fn_P Fn sc__law_is_sense (fun ds G h => ?_) (fun cdv A outer s H Q E ds G hr hF hQ => ?_)
  · obtain ⟨k, p, rfl, ⟨hk, hp1, hp2⟩, hG⟩ := h
    rfl
  · obtain ⟨k, p, rfl, ⟨hk, hp1, hp2⟩, hG⟩ := hF
    have key : ((pd.pds [nD 1 0 1, nD (-1) 0 1]).any fun z => PyData.eqv z (pd (wD (mul k p (mate k p))))) = decide (nrm k p = 1 ∨ nrm k p = -1) := by
      show (PyData.eqv (pd (nD 1 0 1)) (pd (wD (mul k p (mate k p)))) || (PyData.eqv (pd (nD (-1) 0 1)) (pd (wD (mul k p (mate k p)))) || false)) = _
      rw [mul_mate, eqv_nD, eqv_nD]
      by_cases h1 : nrm k p = 1
      · simp [h1]
      · by_cases h2 : nrm k p = -1
        · simp [h2]
        · have h3 : ¬ 1 = nrm k p := fun e => h1 e.symm
          have h4 : ¬ -1 = nrm k p := fun e => h2 e.symm
          simp [h1, h2, h3, h4]
    refine (as_asg (i := 2) ?h1 (c_call c__law_mate (hr.mono (by decide)) (ca_cons (nm 0 rfl (ca_cons (c_catT (nm 1 rfl (c_tup (ca_cons (c_int (ca_nil (And.intro (And.intro rfl (Nat.le_of_ble_eq_true rfl)) (And.intro (Nat.le_of_ble_eq_true rfl) (ca_nil ⟨_, p, rfl, ?h2, And.intro rfl (as_asg (i := 3) ?h3 (c_call c__law_times (hr.mono (by decide)) (ca_cons (nm 0 rfl (ca_cons (c_catT (nm 1 rfl (c_tup (ca_cons (c_int (ca_nil (And.intro (And.intro rfl (Nat.le_of_ble_eq_true rfl)) (And.intro (Nat.le_of_ble_eq_true rfl) (ca_cons (nm 2 rfl (ca_nil ⟨_, p, mate k p, rfl, ?h4, And.intro rfl (as_ret hQ (c_andB (c_inDT ?h5 (nm 3 rfl (c_tup (ca_cons (c_tup (ca_cons (c_int (ca_cons (c_int (ca_cons (c_int (ca_nil (And.intro (And.intro rfl (Nat.le_of_ble_eq_true rfl)) (ca_cons (c_tup (ca_cons (c_neg (c_int (ca_cons (c_int (ca_cons (c_int (ca_nil (And.intro (And.intro rfl (Nat.le_of_ble_eq_true rfl)) (ca_nil (And.intro (And.intro rfl (Nat.le_of_ble_eq_true rfl)) (And.intro ?h6 (And.intro (fun b1 => (c_one (c_gt (c_call c__law_sign (hr.mono (by decide)) (ca_cons (nm 0 rfl (ca_cons (nm 2 rfl (ca_nil ⟨_, _, _, _, rfl, ?h7, fun s1 hs1 hl1 hu1 => And.intro rfl (c_int (And.intro rfl ?h8))⟩))))))))) (fun b2 => (And.intro rfl ?h9))))))))))))))))))))))))))))))))⟩))))))))))))))))⟩))))))))))))))
    case h1 =>
      exact sc__law_is_sense.nd
    case h2 =>
      walk_at "b2"
    case h3 =>
      exact sc__law_is_sense.nd
    case h4 =>
      walk_at "b2"
    case h5 =>
      exact Nat.lt_of_le_of_lt (Nat.le_trans (Nat.add_le_add_left (by decide : 65 ≤ 16 * 2 + 200) _) (Nat.le_of_eq (Nat.add_assoc _ _ _).symm)) hr.un
    case h6 =>
      exact ⟨⟨rfl, rfl⟩, rfl, rfl⟩
    case h7 =>
      walk_at "b2"
    case h8 =>
      first
        | (have e1 := of_decide_eq_true (key.symm.trans b1)
           rw [show decide (U k p) = decide (0 < s1) from decide_eq_decide.mpr ⟨fun q => hs1.mpr q.2, fun q => ⟨e1, hs1.mp q⟩⟩] at hG
           exact hG)
        | (have e1 := of_decide_eq_false (key.symm.trans b2)
           rw [show decide (U k p) = false from decide_eq_false (fun q => e1 q.1)] at hG
           exact hG)
    case h9 =>
      first
        | (have e1 := of_decide_eq_true (key.symm.trans b1)
           rw [show decide (U k p) = decide (0 < s1) from decide_eq_decide.mpr ⟨fun q => hs1.mpr q.2, fun q => ⟨e1, hs1.mp q⟩⟩] at hG
           exact hG)
        | (have e1 := of_decide_eq_false (key.symm.trans b2)
           rw [show decide (U k p) = false from decide_eq_false (fun q => e1 q.1)] at hG
           exact hG)

/-! ### _law_add -/
abbrev s__law_add : Stmt := topS 48
theorem sc__law_add : FnScope ["p", "q"] ["p", "q"] (defScope s__law_add) := ⟨rfl, rfl, rfl, by decide +kernel, rfl, by decide +kernel, by decide +kernel⟩
def F__law_add : FP := fun ds Q => ∃ (p q : Z2), ds = [pD p, pD q] ∧ Q (pD (add2 p q))
theorem ok__law_add {f : Addr} {fd : FuncData} (Fn : Fun K "_law_add" "_law_add" s__law_add f fd)  : FnOk P w K mg base CX0 1 f fd ["p", "q"] (spP K F__law_add) := by
  refine fn_P Fn sc__law_add (fun ds G h => ?_) (fun cdv A outer s H Q E ds G hr hF hQ => ?_)
  · obtain ⟨p, q, rfl, hG⟩ := h
    rfl
  · obtain ⟨p, q, rfl, hG⟩ := hF
    refine (as_ret hQ (c_tup (ca_cons (c_add (c_ixTn (nm 0 rfl (c_int (And.intro (by decide) (c_ixTn (nm 1 rfl (c_int (And.intro (by decide) (ca_cons (c_add (c_ixTn (nm 0 rfl (c_int (And.intro (by decide) (c_ixTn (nm 1 rfl (c_int (And.intro (by decide) (ca_nil (And.intro (And.intro rfl (Nat.le_of_ble_eq_true rfl)) (And.intro rfl ?h1)))))))))))))))))))))))))
    case h1 =>
      exact hG

/-! ### _law_taken -/
abbrev s__law_taken : Stmt := topS 50
theorem sc__law_taken : FnScope ["kind", "matrix", "place", "p", "q", "none", "t", "x", "y"] ["kind", "matrix", "place"] (defScope s__law_taken) := ⟨rfl, rfl, rfl, by decide +kernel, rfl, by decide +kernel, by decide +kernel⟩
def F__law_taken : FP := fun ds Q => ∃ (k : Int) (m : Mx) (x : Z2 × Z2), ds = [.int k, xD m, lD x] ∧ (Kd k ∧ MB 300 m ∧ B2 300 x.1 ∧ B2 300 x.2) ∧ Q (lD (tak k m x))
theorem ok__law_taken {f : Addr} {fd : FuncData} (Fn : Fun K "_law_taken" "_law_taken" s__law_taken f fd) (c__law_add : Cl P w K mg base 1 "_law_add" ["p", "q"] (spP K F__law_add)) (c__law_whole : Cl P w K mg base 3 "_law_whole" ["kind", "p", "q"] (spP K F__law_whole)) : FnOk P w K mg base CX0 4 f fd ["kind", "matrix", "place"] (spP K F__law_taken) := by
  refine fn_P Fn sc__law_taken (fun ds G h => ?_) (fun cdv A outer s H Q E ds G hr hF hQ => ?_)
  · obtain ⟨k, m, x, rfl, ⟨hk, ⟨⟨ha1, ha2⟩, ⟨hb1, hb2⟩, ⟨ht1, ht2⟩⟩, ⟨hx1, hx2⟩, ⟨hy1, hy2⟩⟩, hG⟩ := h
    rfl
  · obtain ⟨k, m, x, rfl, ⟨hk, ⟨⟨ha1, ha2⟩, ⟨hb1, hb2⟩, ⟨ht1, ht2⟩⟩, ⟨hx1, hx2⟩, ⟨hy1, hy2⟩⟩, hG⟩ := hF
    refine (as_unp22 (i := 3) (j := 4) (l := 5) (m := 6) ?h1 rfl (nm 1 rfl ⟨_, _, _, _, rfl, (as_unp2 (i := 7) (j := 8) ?h2 rfl (nm 2 rfl ⟨_, _, rfl, (as_ret hQ (c_tup (ca_cons (c_call c__law_add (hr.mono (by decide)) (ca_cons (c_call c__law_whole (hr.mono (by decide)) (ca_cons (nm 0 rfl (ca_cons (nm 3 rfl (ca_cons (nm 7 rfl (ca_nil ⟨_, m.1, x.1, rfl, ?h3, And.intro rfl (ca_cons (c_call c__law_whole (hr.mono (by decide)) (ca_cons (nm 0 rfl (ca_cons (nm 4 rfl (ca_cons (nm 8 rfl (ca_nil ⟨_, m.2.1, x.2, rfl, ?h4, And.intro rfl (ca_nil ⟨mul k m.1 x.1, mul k m.2.1 x.2, rfl, And.intro rfl (ca_cons (c_call c__law_whole (hr.mono (by decide)) (ca_cons (nm 0 rfl (ca_cons (nm 6 rfl (ca_cons (nm 8 rfl (ca_nil ⟨_, m.2.2, x.2, rfl, ?h5, And.intro rfl (ca_nil (And.intro (And.intro rfl (Nat.le_of_ble_eq_true rfl)) (And.intro rfl ?h6)))⟩)))))))))⟩)⟩)))))))))⟩)))))))))))))⟩))⟩))
    case h1 =>
      exact sc__law_taken.nd
    case h2 =>
      exact sc__law_taken.nd
    case h3 =>
      walk_at "b2"
    case h4 =>
      walk_at "b2"
    case h5 =>
      walk_at "b2"
    case h6 =>
      exact hG

/-! ### _law_inverse -/
abbrev s__law_inverse : Stmt := topS 51
theorem sc__law_inverse : FnScope ["kind", "p"] ["kind", "p"] (defScope s__law_inverse) := ⟨rfl, rfl, rfl, by decide +kernel, rfl, by decide +kernel, by decide +kernel⟩
def F__law_inverse : FP := fun ds Q => ∃ (k : Int) (q : Z2), ds = [.int k, pD q] ∧ (Kd k ∧ B2 300 q ∧ (nrm k q = 1 ∨ nrm k q = -1)) ∧ Q (pD (inv k q))
theorem ok__law_inverse {f : Addr} {fd : FuncData} (Fn : Fun K "_law_inverse" "_law_inverse" s__law_inverse f fd) (c__law_by : Cl P w K mg base 3 "_law_by" ["kind", "p", "q"] (spP K F__law_by)) : FnOk P w K mg base CX0 4 f fd ["kind", "p"] (spP K F__law_inverse) := by
  refine fn_P Fn sc__law_inverse (fun ds G h => ?_) (fun cdv A outer s H Q E ds G hr hF hQ => ?_)
  · obtain ⟨k, q, rfl, ⟨hk, ⟨hq1, hq2⟩, hn⟩, hG⟩ := h
    rfl
  · obtain ⟨k, q, rfl, ⟨hk, ⟨hq1, hq2⟩, hn⟩, hG⟩ := hF
    refine (as_ret hQ (c_cutT (c_call c__law_by (hr.mono (by decide)) (ca_cons (nm 0 rfl (ca_cons (c_tup (ca_cons (c_int (ca_cons (c_int (ca_cons (c_int (ca_nil (And.intro (And.intro rfl (Nat.le_of_ble_eq_true rfl)) (ca_cons (c_catT (nm 1 rfl (c_tup (ca_cons (c_int (ca_nil (And.intro (And.intro rfl (Nat.le_of_ble_eq_true rfl)) (And.intro (Nat.le_of_ble_eq_true rfl) (ca_nil ⟨_, q, rfl, ?h1, And.intro rfl (o_none (o_some (c_int (And.intro rfl ?h2))))⟩)))))))))))))))))))))))))
    case h1 =>
      walk_at "b2"
    case h2 =>
      exact hG

/-! ### _law_undone -/
abbrev s__law_undone : Stmt := topS 52
theorem sc__law_undone : FnScope ["kind", "matrix", "p", "q", "none", "t", "one", "last", "a", "b"] ["kind", "matrix"] (defScope s__law_undone) := ⟨rfl, rfl, rfl, by decide +kernel, rfl, by decide +kernel, by decide +kernel⟩
def F__law_undone : FP := fun ds Q => ∃ (k : Int) (m : Mx), ds = [.int k, xD m] ∧ (Kd k ∧ MB 60 m ∧ MU k m) ∧ Q (xD (und k m))
theorem ok__law_undone {f : Addr} {fd : FuncData} (Fn : Fun K "_law_undone" "_law_undone" s__law_undone f fd) (c__law_inverse : Cl P w K mg base 4 "_law_inverse" ["kind", "p"] (spP K F__law_inverse)) (c__law_whole : Cl P w K mg base 3 "_law_whole" ["kind", "p", "q"] (spP K F__law_whole)) : FnOk P w K mg base CX0 5 f fd ["kind", "matrix"] (spP K F__law_undone) := by
  refine fn_P Fn sc__law_undone (fun ds G h => ?_) (fun cdv A outer s H Q E ds G hr hF hQ => ?_)
  · obtain ⟨k, m, rfl, ⟨hk, ⟨⟨ha1, ha2⟩, ⟨hb1, hb2⟩, ⟨ht1, ht2⟩⟩, ⟨ua, ut⟩⟩, hG⟩ := h
    rfl
  · obtain ⟨k, m, rfl, ⟨hk, ⟨⟨ha1, ha2⟩, ⟨hb1, hb2⟩, ⟨ht1, ht2⟩⟩, ⟨ua, ut⟩⟩, hG⟩ := hF
    refine (as_unp22 (i := 2) (j := 3) (l := 4) (m := 5) ?h1 rfl (nm 1 rfl ⟨_, _, _, _, rfl, (as_par (i := 6) (j := 7) ?h2 rfl (ca_cons (c_call c__law_inverse (hr.mono (by decide)) (ca_cons (nm 0 rfl (ca_cons (nm 2 rfl (ca_nil ⟨_, m.1, rfl, ⟨hk, ⟨ha1.mono (by decide), ha2.mono (by decide)⟩, ua.1⟩, And.intro rfl (ca_cons (c_call c__law_inverse (hr.mono (by decide)) (ca_cons (nm 0 rfl (ca_cons (nm 5 rfl (ca_nil ⟨_, m.2.2, rfl, ⟨hk, ⟨ht1.mono (by decide), ht2.mono (by decide)⟩, ut.1⟩, And.intro rfl (ca_nil ⟨_, _, rfl, (as_unp2 (i := 8) (j := 9) ?h3 rfl (c_call c__law_whole (hr.mono (by decide)) (ca_cons (nm 0 rfl (ca_cons (c_call c__law_whole (hr.mono (by decide)) (ca_cons (nm 0 rfl (ca_cons (nm 6 rfl (ca_cons (nm 3 rfl (ca_nil ⟨_, inv k m.1, m.2.1, rfl, ?h4, And.intro rfl (ca_cons (nm 7 rfl (ca_nil ⟨_, mul k (inv k m.1) m.2.1, inv k m.2.2, rfl, ?h5, And.intro rfl ⟨_, _, rfl, (as_ret hQ (c_tup (ca_cons (c_tup (ca_cons (nm 6 rfl (ca_cons (c_tup (ca_cons (c_neg (nm 8 rfl (ca_cons (c_neg (nm 9 rfl (ca_nil (And.intro (And.intro rfl (Nat.le_of_ble_eq_true rfl)) (ca_nil (And.intro (And.intro rfl (Nat.le_of_ble_eq_true rfl)) (ca_cons (c_tup (ca_cons (c_tup (ca_cons (c_int (ca_cons (c_int (ca_nil (And.intro (And.intro rfl (Nat.le_of_ble_eq_true rfl)) (ca_cons (nm 7 rfl (ca_nil (And.intro (And.intro rfl (Nat.le_of_ble_eq_true rfl)) (ca_nil (And.intro (And.intro rfl (Nat.le_of_ble_eq_true rfl)) (And.intro rfl ?h6)))))))))))))))))))))))))))))))))))⟩⟩)))⟩)))))))))))))⟩)⟩)))))))⟩))))))))⟩))
    case h1 =>
      exact sc__law_undone.nd
    case h2 =>
      exact sc__law_undone.nd
    case h3 =>
      exact sc__law_undone.nd
    case h4 =>
      walk_at "b2"
    case h5 =>
      walk_at "b2"
    case h6 =>
      have e : und k m = (inv k m.1, (-(mul k (mul k (inv k m.1) m.2.1) (inv k m.2.2)).1, -(mul k (mul k (inv k m.1) m.2.1) (inv k m.2.2)).2), inv k m.2.2) := by
        unfold und neg2
        rw [mul_assoc]
        exact Prod.ext rfl (Prod.ext (Prod.ext (by simp) (by simp)) rfl)
      rw [e] at hG
      exact hG

/-! ### _law_behind -/
abbrev s__law_behind : Stmt := topS 53
theorem sc__law_behind : FnScope ["kind", "one", "two", "p", "q", "none", "t", "a", "b", "c", "mixed"] ["kind", "one", "two"] (defScope s__law_behind) := ⟨rfl, rfl, rfl, by decide +kernel, rfl, by decide +kernel, by decide +kernel⟩
def F__law_behind : FP := fun ds Q => ∃ (k : Int) (m l : Mx), ds = [.int k, xD m, xD l] ∧ (Kd k ∧ MB 300 m ∧ MB 300 l) ∧ Q (xD (beh k m l))
theorem ok__law_behind {f : Addr} {fd : FuncData} (Fn : Fun K "_law_behind" "_law_behind" s__law_behind f fd) (c__law_add : Cl P w K mg base 1 "_law_add" ["p", "q"] (spP K F__law_add)) (c__law_whole : Cl P w K mg base 3 "_law_whole" ["kind", "p", "q"] (spP K F__law_whole)) : FnOk P w K mg base CX0 4 f fd ["kind", "one", "two"] (spP K F__law_behind) := by
  refine fn_P Fn sc__law_behind (fun ds G h => ?_) (fun cdv A outer s H Q E ds G hr hF hQ => ?_)
  · obtain ⟨k, m, l, rfl, ⟨hk, ⟨⟨ha1, ha2⟩, ⟨hb1, hb2⟩, ⟨ht1, ht2⟩⟩, ⟨⟨la1, la2⟩, ⟨lb1, lb2⟩, ⟨lt1, lt2⟩⟩⟩, hG⟩ := h
    rfl
  · obtain ⟨k, m, l, rfl, ⟨hk, ⟨⟨ha1, ha2⟩, ⟨hb1, hb2⟩, ⟨ht1, ht2⟩⟩, ⟨⟨la1, la2⟩, ⟨lb1, lb2⟩, ⟨lt1, lt2⟩⟩⟩, hG⟩ := hF
    refine (as_unp22 (i := 3) (j := 4) (l := 5) (m := 6) ?h1 rfl (nm 1 rfl ⟨_, _, _, _, rfl, (as_unp22 (i := 7) (j := 8) (l := 5) (m := 9) ?h2 rfl (nm 2 rfl ⟨_, _, _, _, rfl, (as_asg (i := 10) ?h3 (c_call c__law_add (hr.mono (by decide)) (ca_cons (c_call c__law_whole (hr.mono (by decide)) (ca_cons (nm 0 rfl (ca_cons (nm 3 rfl (ca_cons (nm 8 rfl (ca_nil ⟨_, m.1, l.2.1, rfl, ?h4, And.intro rfl (ca_cons (c_call c__law_whole (hr.mono (by decide)) (ca_cons (nm 0 rfl (ca_cons (nm 4 rfl (ca_cons (nm 9 rfl (ca_nil ⟨_, m.2.1, l.2.2, rfl, ?h5, And.intro rfl (ca_nil ⟨mul k m.1 l.2.1, mul k m.2.1 l.2.2, rfl, And.intro rfl (as_ret hQ (c_tup (ca_cons (c_tup (ca_cons (c_call c__law_whole (hr.mono (by decide)) (ca_cons (nm 0 rfl (ca_cons (nm 3 rfl (ca_cons (nm 7 rfl (ca_nil ⟨_, m.1, l.1, rfl, ?h6, And.intro rfl (ca_cons (nm 10 rfl (ca_nil (And.intro (And.intro rfl (Nat.le_of_ble_eq_true rfl)) (ca_cons (c_tup (ca_cons (c_tup (ca_cons (c_int (ca_cons (c_int (ca_nil (And.intro (And.intro rfl (Nat.le_of_ble_eq_true rfl)) (ca_cons (c_call c__law_whole (hr.mono (by decide)) (ca_cons (nm 0 rfl (ca_cons (nm 6 rfl (ca_cons (nm 9 rfl (ca_nil ⟨_, m.2.2, l.2.2, rfl, ?h7, And.intro rfl (ca_nil (And.intro (And.intro rfl (Nat.le_of_ble_eq_true rfl)) (ca_nil (And.intro (And.intro rfl (Nat.le_of_ble_eq_true rfl)) (And.intro rfl ?h8)))))⟩)))))))))))))))))))))))⟩)))))))))))))⟩)⟩)))))))))⟩)))))))))))⟩))⟩))
    case h1 =>
      exact sc__law_behind.nd
    case h2 =>
      exact sc__law_behind.nd
    case h3 =>
      exact sc__law_behind.nd
    case h4 =>
      walk_at "b2"
    case h5 =>
      walk_at "b2"
    case h6 =>
      walk_at "b2"
    case h7 =>
      walk_at "b2"
    case h8 =>
      exact hG

/-! ### _law_is_unit -/
abbrev s__law_is_unit : Stmt := topS 54
theorem sc__law_is_unit : FnScope ["kind", "told"] ["kind", "told"] (defScope s__law_is_unit) := ⟨rfl, rfl, rfl, by decide +kernel, rfl, by decide +kernel, by decide +kernel⟩
def F__law_is_unit : FP := fun ds Q => ∃ (k : Int) (p : Z2), ds = [.int k, pD p] ∧ (Kd k ∧ B2 400 p) ∧ Q (.bl (decide (U k p ∧ Pos k p)))
theorem ok__law_is_unit {f : Addr} {fd : FuncData} (Fn : Fun K "_law_is_unit" "_law_is_unit" s__law_is_unit f fd) (c__law_is_sense : Cl P w K mg base 3 "_law_is_sense" ["kind", "told"] (spP K F__law_is_sense)) (c__law_sign : Cl P w K mg base 1 "_law_sign" ["kind", "p"] (spP K F__law_sign)) : FnOk P w K mg base CX0 4 f fd ["kind", "told"] (spP K F__law_is_unit) := by
  refine fn_P Fn sc__law_is_unit (fun ds G h => ?_) (fun cdv A outer s H Q E ds G hr hF hQ => ?_)
  · obtain ⟨k, p, rfl, ⟨hk, hp1, hp2⟩, hG⟩ := h
    rfl
  · obtain ⟨k, p, rfl, ⟨hk, hp1, hp2⟩, hG⟩ := hF
    refine (as_ret hQ (c_andB (c_call c__law_is_sense (hr.mono (by decide)) (ca_cons (nm 0 rfl (ca_cons (nm 1 rfl (ca_nil ⟨_, p, rfl, ?h1, And.intro rfl (And.intro (fun b1 => (c_one (c_gt (c_call c__law_sign (hr.mono (by decide)) (ca_cons (nm 0 rfl (ca_cons (c_catT (nm 1 rfl (c_tup (ca_cons (c_int (ca_nil (And.intro (And.intro rfl (Nat.le_of_ble_eq_true rfl)) (And.intro (Nat.le_of_ble_eq_true rfl) (ca_nil ⟨_, _, _, _, rfl, ?h2, fun s1 hs1 hl1 hu1 => And.intro rfl (c_int (And.intro rfl ?h3))⟩)))))))))))))))) (fun b2 => (And.intro rfl ?h4)))⟩))))))))
    case h1 =>
      walk_at "b2"
    case h2 =>
      walk_at "b2"
    case h3 =>
      first
        | (have e1 : U k p := of_decide_eq_true b1
           rw [show decide (U k p ∧ Pos k p) = decide (0 < s1) from decide_eq_decide.mpr ⟨fun q => hs1.mpr q.2, fun q => ⟨e1, hs1.mp q⟩⟩] at hG
           exact hG)
        | (have e1 : ¬ U k p := of_decide_eq_false b2
           rw [show decide (U k p ∧ Pos k p) = false from decide_eq_false (fun q => e1 q.1)] at hG
           exact hG)
    case h4 =>
      first
        | (have e1 : U k p := of_decide_eq_true b1
           rw [show decide (U k p ∧ Pos k p) = decide (0 < s1) from decide_eq_decide.mpr ⟨fun q => hs1.mpr q.2, fun q => ⟨e1, hs1.mp q⟩⟩] at hG
           exact hG)
        | (have e1 : ¬ U k p := of_decide_eq_false b2
           rw [show decide (U k p ∧ Pos k p) = false from decide_eq_false (fun q => e1 q.1)] at hG
           exact hG)

/-! ### _law_is_matrix -/
abbrev s__law_is_matrix : Stmt := topS 57
theorem sc__law_is_matrix : FnScope ["kind", "told", "p", "q", "none", "t"] ["kind", "told"] (defScope s__law_is_matrix) := ⟨rfl, rfl, rfl, by decide +kernel, rfl, by decide +kernel, by decide +kernel⟩
def F__law_is_matrix : FP := fun ds Q => ∃ k a b z t, ds = [.int k, mD a b z t] ∧ (Kd k ∧ B2 400 a ∧ B2 400 t) ∧ Q (.bl (decide (z = (0, 0) ∧ U k a ∧ U k t)))
theorem ok__law_is_matrix {f : Addr} {fd : FuncData} (Fn : Fun K "_law_is_matrix" "_law_is_matrix" s__law_is_matrix f fd) (c__law_is_sense : Cl P w K mg base 3 "_law_is_sense" ["kind", "told"] (spP K F__law_is_sense)) : FnOk P w K mg base CX0 4 f fd ["kind", "told"] (spP K F__law_is_matrix) := by
  refine fn_P Fn sc__law_is_matrix (fun ds G h => ?_) (fun cdv A outer s H Q E ds G hr hF hQ => ?_)
  · obtain ⟨k, a, b, z, t, rfl, ⟨hk, ⟨ha1, ha2⟩, ht1, ht2⟩, hG⟩ := h
    rfl
  · obtain ⟨k, a, b, z, t, rfl, ⟨hk, ⟨ha1, ha2⟩, ht1, ht2⟩, hG⟩ := hF
    refine (as_unp22 (i := 2) (j := 3) (l := 4) (m := 5) ?h1 rfl (nm 1 rfl ⟨_, _, _, _, rfl, (as_ret hQ (c_andB (c_eqD hr.units (nm 4 rfl (c_tup (ca_cons (c_int (ca_cons (c_int (ca_nil (And.intro (And.intro rfl (Nat.le_of_ble_eq_true rfl)) (And.intro ?h2 (And.intro (fun b1 => (c_andB (c_call c__law_is_sense (hr.mono (by decide)) (ca_cons (nm 0 rfl (ca_cons (nm 2 rfl (ca_nil ⟨_, a, rfl, ?h3, And.intro rfl (And.intro (fun b3 => (c_one (c_call c__law_is_sense (hr.mono (by decide)) (ca_cons (nm 0 rfl (ca_cons (nm 5 rfl (ca_nil ⟨_, t, rfl, ?h4, And.intro rfl (And.intro rfl ?h5)⟩)))))))) (fun b4 => (And.intro rfl ?h6)))⟩)))))))) (fun b2 => (And.intro rfl ?h7)))))))))))))))⟩))
    case h1 =>
      exact sc__law_is_matrix.nd
    case h2 =>
      exact ⟨⟨rfl, rfl⟩, rfl, rfl⟩
    case h3 =>
      walk_at "b2"
    case h4 =>
      walk_at "b2"
    case h5 =>
      first
        | (have e1 : z = (0, 0) := of_decide_eq_true ((eqv_pD z (0, 0)).symm.trans b1)
           have e2 : U k a := of_decide_eq_true b3
           rw [show decide (z = (0, 0) ∧ U k a ∧ U k t) = decide (U k t) from decide_eq_decide.mpr ⟨fun q => q.2.2, fun q => ⟨e1, e2, q⟩⟩] at hG
           exact hG)
        | (have e1 : ¬ z = (0, 0) := of_decide_eq_false ((eqv_pD z (0, 0)).symm.trans b2)
           rw [show decide (z = (0, 0) ∧ U k a ∧ U k t) = false from decide_eq_false (fun q => e1 q.1)] at hG
           exact hG)
        | (have e1 : ¬ U k a := of_decide_eq_false b4
           rw [show decide (z = (0, 0) ∧ U k a ∧ U k t) = false from decide_eq_false (fun q => e1 q.2.1)] at hG
           exact hG)
    case h6 =>
      first
        | (have e1 : z = (0, 0) := of_decide_eq_true ((eqv_pD z (0, 0)).symm.trans b1)
           have e2 : U k a := of_decide_eq_true b3
           rw [show decide (z = (0, 0) ∧ U k a ∧ U k t) = decide (U k t) from decide_eq_decide.mpr ⟨fun q => q.2.2, fun q => ⟨e1, e2, q⟩⟩] at hG
           exact hG)
        | (have e1 : ¬ z = (0, 0) := of_decide_eq_false ((eqv_pD z (0, 0)).symm.trans b2)
           rw [show decide (z = (0, 0) ∧ U k a ∧ U k t) = false from decide_eq_false (fun q => e1 q.1)] at hG
           exact hG)
        | (have e1 : ¬ U k a := of_decide_eq_false b4
           rw [show decide (z = (0, 0) ∧ U k a ∧ U k t) = false from decide_eq_false (fun q => e1 q.2.1)] at hG
           exact hG)
    case h7 =>
      first
        | (have e1 : z = (0, 0) := of_decide_eq_true ((eqv_pD z (0, 0)).symm.trans b1)
           have e2 : U k a := of_decide_eq_true b3
           rw [show decide (z = (0, 0) ∧ U k a ∧ U k t) = decide (U k t) from decide_eq_decide.mpr ⟨fun q => q.2.2, fun q => ⟨e1, e2, q⟩⟩] at hG
           exact hG)
        | (have e1 : ¬ z = (0, 0) := of_decide_eq_false ((eqv_pD z (0, 0)).symm.trans b2)
           rw [show decide (z = (0, 0) ∧ U k a ∧ U k t) = false from decide_eq_false (fun q => e1 q.1)] at hG
           exact hG)
        | (have e1 : ¬ U k a := of_decide_eq_false b4
           rw [show decide (z = (0, 0) ∧ U k a ∧ U k t) = false from decide_eq_false (fun q => e1 q.2.1)] at hG
           exact hG)

end
end Y29

set_option Elab.async false
set_option linter.all false
set_option maxRecDepth 100000
set_option maxHeartbeats 8000000
namespace Y29
open PySem PySem.Spec PyProof.Rows L2 Evl Wz
local macro_rules | `(tactic| walk_at "bd") => `(tactic| (repeat (first | assumption | apply mate_b1 | apply mate_b2 | apply inv_b1 | apply inv_b2 | apply mul_b1 | apply mul_b2 | apply nrm_b | apply Bd.mul | apply Bd.add | apply Bd.sub | apply Bd.neg | exact Bd.z | exact Bd.of _)))
local macro_rules | `(tactic| walk_at "bm") => `(tactic| (first | assumption | exact Bd.mono (by walk_at "bd") (by decide)))
local macro_rules | `(tactic| walk_at "b2") => `(tactic| (repeat (first | assumption | apply And.intro | walk_at "bm" | decide | omega)))

def bA (k : Int) : Z2 := if k = 2 then (3, 2) else if k = 3 then (2, 1) else (1, 1)
def bB (k : Int) : Z2 := if k = 2 then (1, -1) else if k = 3 then (2, -1) else (1, -1)
abbrev bL (k : Int) : Dat := .lst [pD (bA k), pD (bB k)]
theorem pick_base {k : Int} (h : Kd k) : pick (.lst [.tup [.int 3, .int 2], .tup [.int 1, .int (-1)]]) (.lst [.tup [.int 2, .int 1], .tup [.int 2, .int (-1)]]) (.lst [.tup [.int 1, .int 1], .tup [.int 1, .int (-1)]]) k = bL k := by
  rcases h with rfl | rfl | rfl <;> rfl
theorem at2 {k i : Int} {C : Dat → Prop} (hk : Kd k) (h0 : 0 ≤ i) (h1 : i < 2) (h : ∀ u, U k u → B2 2 u → C (pD u)) : onAt [pD (bA k), pD (bB k)] i C := by
  have hA : U k (bA k) ∧ B2 2 (bA k) := by rcases hk with rfl | rfl | rfl <;> exact ⟨by decide, (by decide : Int.natAbs _ < 2 ^ 2), (by decide : Int.natAbs _ < 2 ^ 2)⟩
  have hB : U k (bB k) ∧ B2 2 (bB k) := by rcases hk with rfl | rfl | rfl <;> exact ⟨by decide, (by decide : Int.natAbs _ < 2 ^ 2), (by decide : Int.natAbs _ < 2 ^ 2)⟩
  by_cases e : i = 0
  · exact ⟨0, _, by omega, rfl, h _ hA.1 hA.2⟩
  · exact ⟨1, _, by omega, rfl, h _ hB.1 hB.2⟩
theorem at3k {i : Int} {C : Dat → Prop} (h0 : 0 ≤ i) (h1 : i < 3) (h : ∀ k, Kd k → C (.int k)) : onAt [.int 2, .int 3, .int 5] i C := by
  by_cases e : i = 0
  · exact ⟨0, _, by omega, rfl, h _ (.inl rfl)⟩
  · by_cases e1 : i = 1
    · exact ⟨1, _, by omega, rfl, h _ (.inr (.inl rfl))⟩
    · exact ⟨2, _, by omega, rfl, h _ (.inr (.inr rfl))⟩
theorem U.one {k : Int} (h : Kd k) : U k (1, 0) := by rcases h with rfl | rfl | rfl <;> decide
/-- all are such pairs -/
def AP (n : Nat) : List Dat → Prop
  | [] => True
  | d :: ds => (∃ u : Z2, d = pD u ∧ B2 n u) ∧ AP n ds
theorem AP.at {n : Nat} : ∀ {ds : List Dat} {j : Nat} {d : Dat}, AP n ds → ds[j]? = some d → ∃ u : Z2, d = pD u ∧ B2 n u
  | [], _, _, _, h => by simp at h
  | d :: ds, 0, e, h, q => by
    have : d = e := by simpa using q
    subst this
    exact h.1
  | d :: ds, j + 1, e, h, q => AP.at h.2 (by simpa using q)
theorem atAP {n : Nat} {as : List Dat} {i : Int} {C : Dat → Prop} (h0 : 0 ≤ i) (h1 : i < as.length) (ha : AP n as) (h : ∀ u, B2 n u → C (pD u)) : onAt as i C := by
  have hl : i.toNat < as.length := by omega
  have e : as[i.toNat]? = some as[i.toNat] := List.getElem?_eq_getElem hl
  obtain ⟨u, hu, hb⟩ := AP.at ha e
  refine ⟨i.toNat, _, by omega, e, ?_⟩
  rw [hu]
  exact h u hb
def AM (n : Nat) : List Dat → Prop
  | [] => True
  | d :: ds => (∃ a b z t : Z2, d = mD a b z t ∧ B2 n a ∧ B2 n t) ∧ AM n ds
theorem AM.at {n : Nat} : ∀ {ds : List Dat} {j : Nat} {d : Dat}, AM n ds → ds[j]? = some d → ∃ a b z t : Z2, d = mD a b z t ∧ B2 n a ∧ B2 n t
  | [], _, _, _, h => by simp at h
  | d :: ds, 0, e, h, q => by
    have : d = e := by simpa using q
    subst this
    exact h.1
  | d :: ds, j + 1, e, h, q => AM.at h.2 (by simpa using q)
theorem AM.app {n : Nat} : ∀ {ds es : List Dat}, AM n ds → AM n es → AM n (ds ++ es)
  | [], _, _, h => h
  | _ :: _, _, h, g => ⟨h.1, AM.app h.2 g⟩
theorem atAM {n : Nat} {as : List Dat} {i : Int} {C : Dat → Prop} (h0 : 0 ≤ i) (h1 : i < as.length) (ha : AM n as) (h : ∀ a b z t, B2 n a → B2 n t → C (mD a b z t)) : onAt as i C := by
  have hl : i.toNat < as.length := by omega
  have e : as[i.toNat]? = some as[i.toNat] := List.getElem?_eq_getElem hl
  obtain ⟨a, b, z, t, hu, hb, hc⟩ := AM.at ha e
  refine ⟨i.toNat, _, by omega, e, ?_⟩
  rw [hu]
  exact h a b z t hb hc
theorem e_2x {X : Cx} {o : Os} {ds : List (Option Dat)} {k : Cs} {a b c d : Int} {j1 j2 j3 j4 : _} {x1 x2 : Nat} {p1 p2 p3 p4 q1 q2 q3 q4 : PySem.Pos} : Ev X o (Expr.List [Expr.Tuple [Expr.Constant (.int a) j1 p1, Expr.Constant (.int b) j2 p2] x1 q1, Expr.Tuple [Expr.Constant (.int c) j3 p3, Expr.UnaryOp .USub (Expr.Constant (.int d) j4 p4) q2] x2 q3] q4) ds k (.lst [.tup [.int a, .int b], .tup [.int c, .int (-d)]]) k :=
  fun _ hR => (c_ofN (n_disp (ca_cons (c_tup (ca_cons (c_int (ca_cons (c_int (ca_nil (And.intro (And.intro rfl (Nat.le_of_ble_eq_true rfl)) (ca_cons (c_tup (ca_cons (c_int (ca_cons (c_neg (c_int (ca_nil (And.intro (And.intro rfl (Nat.le_of_ble_eq_true rfl)) (ca_nil (And.intro (And.intro rfl (Nat.le_of_ble_eq_true rfl)) hR)))))))))))))))))))))
section
variable {P : Program} {w : World} {K : PySem.W.Frag} {mg : Str → Option Value} {base : Heap}

/-! ### _law_unit -/
abbrev s__law_unit : Stmt := topS 46
theorem sc__law_unit : FnScope ["stock", "kind", "most", "base", "found", "turn", "end", "far"] ["stock", "kind", "most"] (defScope s__law_unit) := ⟨rfl, rfl, rfl, by decide +kernel, rfl, by decide +kernel, by decide +kernel⟩
def F__law_unit : FD := fun ds c Q => ∃ (k m : Int) (n : Nat), ds = [.int k, .int m] ∧ (Kd k ∧ 0 ≤ m ∧ m ≤ 4 ∧ Dk n c ∧ n ≤ 100000) ∧ ∀ u c', U k u → B2 40 u → Dk (n + 10) c' → Q (pD u) c'
theorem ok__law_unit {f : Addr} {fd : FuncData} (Fn : Fun K "_law_unit" "_law_unit" s__law_unit f fd) (c__law_pick : Cl P w K mg base 1 "_law_pick" ["stock", "many"] (spD K F__law_pick)) (c__law_whole : Cl P w K mg base 3 "_law_whole" ["kind", "p", "q"] (spP K F__law_whole)) (c__law_mate : Cl P w K mg base 2 "_law_mate" ["kind", "p"] (spP K F__law_mate)) (c__law_times : Cl P w K mg base 2 "_law_times" ["kind", "p", "q"] (spP K F__law_times)) (c__law_sign : Cl P w K mg base 1 "_law_sign" ["kind", "p"] (spP K F__law_sign)) (c__law_under : Cl P w K mg base 4 "_law_under" ["kind", "p", "q"] (spP K F__law_under)) (m_range : mg "range" = none) : FnOk P w K mg base CX0 5 f fd ["stock", "kind", "most"] (spD K F__law_unit) := by
  refine fn_D Fn sc__law_unit (fun ds c G h => ?_) (fun cdv A outer s H Q E pa ds c G hr hF hQ => ?_)
  · obtain ⟨k, m, n, rfl, ⟨hk, hm0, hm1, hdk, hn⟩, hG⟩ := h
    rfl
  · obtain ⟨k, m, n, rfl, ⟨hk, hm0, hm1, hdk, hn⟩, hG⟩ := hF
    refine (as_asg (i := 3) ?h34 ?h1)
    case h1 =>
      refine (c_disp3 (d1 := .lst [.tup [.int 3, .int 2], .tup [.int 1, .int (-1)]]) (d2 := .lst [.tup [.int 2, .int 1], .tup [.int 2, .int (-1)]]) (d3 := .lst [.tup [.int 1, .int 1], .tup [.int 1, .int (-1)]]) ?b_hu ?b_e1 ?b_e2 ?b_e3 ?b_nn ?b_b (hs := ?b_hs))
      case b_hu => exact hr.units
      case b_e1 => exact e_2x
      case b_e2 => exact e_2x
      case b_e3 => exact e_2x
      case b_nn => exact ⟨rfl, rfl, rfl⟩
      case b_hs => exact fun _ _ => rfl
      refine (nm 1 rfl (And.intro hk ?_))
      rw [pick_base hk]
      refine (as_asg (i := 4) ?h2 (c_tup (ca_cons (c_int (ca_cons (c_int (ca_nil (And.intro (And.intro rfl (Nat.le_of_ble_eq_true rfl)) (as_forR1 (i := 5) ?h3 rfl PassesOwn.never m_range (ca_cons (c_callD c__law_pick (hr.mono (by decide)) (ca_cons (nm 0 rfl (ca_cons (c_add (nm 2 rfl (c_int (ca_nil (And.intro rfl ⟨_, _, rfl, ⟨?h4, ?h5, (by assumption), ?h6⟩, fun v1 c1 hv1 hw1 hd1 => And.intro rfl (ca_nil ⟨_, (fun j es q => ∃ (u : Z2) (c1 : List Dat) (x : Option Dat), es = [some (.cel 0), some (.int k), some (.int m), some (bL k), some (pD u), x, none, none] ∧ q = [c1] ∧ U k u ∧ B2 (6 * j + 2) u ∧ Dk (n + 1 + j) c1), (fun _ _ => False), rfl, ?h33, ⟨_, _, _, rfl, rfl, U.one hk, ⟨(by decide : (1 : Int).natAbs < 2 ^ 2), (by decide : (0 : Int).natAbs < 2 ^ 2)⟩, (by assumption)⟩, ⟨fun H10 e10 fr0 j d es q hj hd hw => ?h7, fun es q hw => ?h8, fun _ _ h => h.elim⟩⟩)⟩)))))))))))))))))))
      case h2 =>
        exact sc__law_unit.nd
      case h3 =>
        exact sc__law_unit.nd
      case h4 =>
        first | decide | omega
      case h5 =>
        first | walk_at "bm" | exact Bd.mono (n := 3) (Bd.rng (by omega) (by omega)) (by decide)
      case h6 =>
        first | decide | omega
      case h7 =>
        obtain ⟨u, c1, x, rfl, rfl, hu, ⟨hb1, hb2⟩, hd1⟩ := hw
        cases hd
        have hB1 : Bd 1000 u.1 := hb1.mono (by omega)
        have hB2 : Bd 1000 u.2 := hb2.mono (by omega)
        refine (as_asg (i := 4) ?h9 (c_call c__law_whole (hr.mono (by decide)) (ca_cons (nm 1 rfl (ca_cons (nm 4 rfl (ca_cons (c_ixL (nm 3 rfl (c_callD c__law_pick (hr.mono (by decide)) (ca_cons (nm 0 rfl (ca_cons (c_int (ca_nil (And.intro rfl ⟨_, _, rfl, ⟨?h10, ?h11, (by assumption), ?h12⟩, fun v2 c2 hv2 hw2 hd2 => And.intro rfl (at2 hk hv2 hw2 (fun ub hUub hBub => (ca_nil ⟨_, u, ub, rfl, ?h13, And.intro rfl (as_end rfl ⟨_, _, _, rfl, rfl, U.mul hk hu hUub, ⟨(mul_b1 hk hb1 hb2 hBub.1 hBub.2).mono (by omega), (mul_b2 hb1 hb2 hBub.1 hBub.2).mono (by omega)⟩, ?h14⟩)⟩)))⟩))))))))))))))))
        case h9 =>
          exact sc__law_unit.nd
        case h10 =>
          first | decide | omega
        case h11 =>
          first | walk_at "bm" | exact Bd.mono (n := 3) (Bd.rng (by omega) (by omega)) (by decide)
        case h12 =>
          first | decide | omega
        case h13 =>
          first | (obtain ⟨hg1, hg2⟩ := hBub; walk_at "b2") | walk_at "b2"
        case h14 =>
          exact Dk.mono (by assumption) (by omega)
      case h8 =>
        obtain ⟨u, c1, x, rfl, rfl, hu, ⟨hb1, hb2⟩, hd1⟩ := hw
        have hB1 : Bd 34 u.1 := hb1.mono (by omega)
        have hB2 : Bd 34 u.2 := hb2.mono (by omega)
        refine (as_forL (i := 6) ?h15 rfl PassesOwn.never (c_ofN (n_disp (ca_cons (c_catT (nm 4 rfl (c_tup (ca_cons (c_int (ca_nil (And.intro (And.intro rfl (Nat.le_of_ble_eq_true rfl)) (And.intro (Nat.le_of_ble_eq_true rfl) (ca_cons (c_call c__law_mate (hr.mono (by decide)) (ca_cons (nm 1 rfl (ca_cons (c_catT (nm 4 rfl (c_tup (ca_cons (c_int (ca_nil (And.intro (And.intro rfl (Nat.le_of_ble_eq_true rfl)) (And.intro (Nat.le_of_ble_eq_true rfl) (ca_nil ⟨_, u, rfl, ?h16, And.intro rfl (ca_nil (And.intro (And.intro rfl (Nat.le_of_ble_eq_true rfl)) ⟨(fun j es q => ∃ x y z : Option Dat, es = [some (.cel 0), some (.int k), some (.int m), some (bL k), some (pD u), x, y, z] ∧ q = [c1]), (fun _ _ => False), ⟨_, _, _, rfl, rfl⟩, ⟨fun H11 e11 fr1 j d es q hj hd hw => ?h17, fun es q hw => ?h18, fun _ _ h => h.elim⟩⟩))⟩))))))))))))))))))))))))))
        case h15 =>
          exact sc__law_unit.nd
        case h16 =>
          first | (obtain ⟨hg1, hg2⟩ := hBub; walk_at "b2") | walk_at "b2"
        case h17 =>
          obtain ⟨x, y, z, rfl, rfl⟩ := hw
          obtain ⟨p, rfl, hp1, hp2⟩ : ∃ p : Z2, d = wD p ∧ Bd 35 p.1 ∧ Bd 35 p.2 := by
            match j, hj, hd with
            | 0, _, h => exact ⟨u, (Option.some.inj h).symm, hB1.mono (by decide), hB2.mono (by decide)⟩
            | 1, _, h => exact ⟨mate k u, (Option.some.inj h).symm, mate_b1 hB1 hB2, mate_b2 hB2⟩
          refine (as_asg (i := 7) ?h19 (c_call c__law_times (hr.mono (by decide)) (ca_cons (nm 1 rfl (ca_cons (nm 6 rfl (ca_cons (c_tup (ca_cons (c_call c__law_sign (hr.mono (by decide)) (ca_cons (nm 1 rfl (ca_cons (nm 6 rfl (ca_nil ⟨_, _, _, _, rfl, ?h20, fun s1 hs1 hl1 hu1 => And.intro rfl (ca_cons (c_int (ca_cons (c_int (ca_nil (And.intro (And.intro rfl (Nat.le_of_ble_eq_true rfl)) (ca_nil ⟨_, p, (s1, 0), rfl, ?h21, And.intro rfl (as_ifn (t_w (w_or (t_valB (c_call c__law_under (hr.mono (by decide)) (ca_cons (nm 1 rfl (ca_cons (c_tup (ca_cons (c_int (ca_cons (c_int (ca_cons (c_int (ca_nil (And.intro (And.intro rfl (Nat.le_of_ble_eq_true rfl)) (ca_cons (nm 7 rfl (ca_nil ⟨_, _, _, _, _, _, _, rfl, ?h22, fun z1 => And.intro rfl (And.intro (fun b1 => (as_ret (RetC.sub hQ e11 fr1) (c_ixL (nm 3 rfl (c_callD c__law_pick (hr.mono (by decide)) (ca_cons (nm 0 rfl (ca_cons (c_int (ca_nil (And.intro rfl ⟨_, _, rfl, ⟨?h23, ?h24, (by assumption), ?h25⟩, fun v3 c3 hv3 hw3 hd3 => And.intro rfl (at2 hk hv3 hw3 (fun ub hUub hBub => (And.intro rfl ?h26)))⟩))))))))))) (fun b1 => (w_or1 (t_valB (c_call c__law_under (hr.mono (by decide)) (ca_cons (nm 1 rfl (ca_cons (nm 7 rfl (ca_cons (c_tup (ca_cons (c_int (ca_cons (c_int (ca_cons (c_int (ca_nil (And.intro (And.intro rfl (Nat.le_of_ble_eq_true rfl)) (ca_nil ⟨_, _, _, _, _, _, _, rfl, ?h27, fun z1 => And.intro rfl (And.intro (fun b2 => (as_ret (RetC.sub hQ e11 fr1) (c_ixL (nm 3 rfl (c_callD c__law_pick (hr.mono (by decide)) (ca_cons (nm 0 rfl (ca_cons (c_int (ca_nil (And.intro rfl ⟨_, _, rfl, ⟨?h28, ?h29, (by assumption), ?h30⟩, fun v4 c4 hv4 hw4 hd4 => And.intro rfl (at2 hk hv4 hw4 (fun ub hUub hBub => (And.intro rfl ?h31)))⟩))))))))))) (fun b2 => (as_end rfl ⟨_, _, _, rfl, rfl⟩)))⟩))))))))))))))))))))⟩))))))))))))))))))))⟩)))))))⟩)))))))))))))))
          case h19 =>
            exact sc__law_unit.nd
          case h20 =>
            first
              | (have hs : Bd 2 s1 := Bd.rng (by omega) (by omega)
                 have hz : Bd 2 ((s1, (0 : Int)).2) := (by decide : Int.natAbs 0 < 2 ^ 2)
                 walk_at "b2")
              | walk_at "b2"
          case h21 =>
            first
              | (have hs : Bd 2 s1 := Bd.rng (by omega) (by omega)
                 have hz : Bd 2 ((s1, (0 : Int)).2) := (by decide : Int.natAbs 0 < 2 ^ 2)
                 walk_at "b2")
              | walk_at "b2"
          case h22 =>
            first
              | (have hs : Bd 2 s1 := Bd.rng (by omega) (by omega)
                 have hz : Bd 2 ((s1, (0 : Int)).2) := (by decide : Int.natAbs 0 < 2 ^ 2)
                 walk_at "b2")
              | walk_at "b2"
          case h23 =>
            first | decide | omega
          case h24 =>
            walk_at "bm"
          case h25 =>
            first | decide | omega
          case h26 =>
            exact ⟨_, rfl, hG _ _ hUub ⟨hBub.1.mono (by decide), hBub.2.mono (by decide)⟩ (Dk.mono (by assumption) (by omega))⟩
          case h27 =>
            first
              | (have hs : Bd 2 s1 := Bd.rng (by omega) (by omega)
                 have hz : Bd 2 ((s1, (0 : Int)).2) := (by decide : Int.natAbs 0 < 2 ^ 2)
                 walk_at "b2")
              | walk_at "b2"
          case h28 =>
            first | decide | omega
          case h29 =>
            walk_at "bm"
          case h30 =>
            first | decide | omega
          case h31 =>
            exact ⟨_, rfl, hG _ _ hUub ⟨hBub.1.mono (by decide), hBub.2.mono (by decide)⟩ (Dk.mono (by assumption) (by omega))⟩
        case h18 =>
          obtain ⟨x, y, z, rfl, rfl⟩ := hw
          refine (as_ret hQ (nm 4 rfl (And.intro rfl ?h32)))
          case h32 =>
            exact ⟨_, rfl, hG _ _ hu ⟨hB1.mono (by decide), hB2.mono (by decide)⟩ (Dk.mono (by assumption) (by omega))⟩
      case h33 =>
        omega
    case h34 =>
      exact sc__law_unit.nd

end
end Y29

set_option Elab.async false
set_option linter.all false
set_option maxRecDepth 100000
set_option maxHeartbeats 8000000
namespace Y29
open PySem PySem.Spec PyProof.Rows L2 Evl Wz
local macro_rules | `(tactic| walk_at "bd") => `(tactic| (repeat (first | assumption | apply mate_b1 | apply mate_b2 | apply inv_b1 | apply inv_b2 | apply mul_b1 | apply mul_b2 | apply nrm_b | apply Bd.mul | apply Bd.add | apply Bd.sub | apply Bd.neg | exact Bd.z | exact Bd.of _)))
local macro_rules | `(tactic| walk_at "bm") => `(tactic| (first | assumption | exact Bd.mono (by walk_at "bd") (by decide)))
local macro_rules | `(tactic| walk_at "b2") => `(tactic| (repeat (first | assumption | apply And.intro | walk_at "bm" | decide | omega)))
section
variable {P : Program} {w : World} {K : PySem.W.Frag} {mg : Str → Option Value} {base : Heap}

/-! ### _law_matrix -/
abbrev s__law_matrix : Stmt := topS 49
theorem sc__law_matrix : FnScope ["stock", "kind", "far"] ["stock", "kind"] (defScope s__law_matrix) := ⟨rfl, rfl, rfl, by decide +kernel, rfl, by decide +kernel, by decide +kernel⟩
def F__law_matrix : FD := fun ds c Q => ∃ (k : Int) (n : Nat), ds = [.int k] ∧ (Kd k ∧ Dk n c ∧ n ≤ 10000) ∧ ∀ (m : Mx) c', MU k m → MB 40 m → Dk (n + 30) c' → Q (xD m) c'
theorem ok__law_matrix {f : Addr} {fd : FuncData} (Fn : Fun K "_law_matrix" "_law_matrix" s__law_matrix f fd) (c__law_pick : Cl P w K mg base 1 "_law_pick" ["stock", "many"] (spD K F__law_pick)) (c__law_unit : Cl P w K mg base 5 "_law_unit" ["stock", "kind", "most"] (spD K F__law_unit)) : FnOk P w K mg base CX0 6 f fd ["stock", "kind"] (spD K F__law_matrix) := by
  refine fn_D Fn sc__law_matrix (fun ds c G h => ?_) (fun cdv A outer s H Q E pa ds c G hr hF hQ => ?_)
  · obtain ⟨k, n, rfl, ⟨hk, hdk, hn⟩, hG⟩ := h
    rfl
  · obtain ⟨k, n, rfl, ⟨hk, hdk, hn⟩, hG⟩ := hF
    refine (as_asg (i := 2) ?h1 (c_tup (ca_cons (c_sub (c_callD c__law_pick (hr.mono (by decide)) (ca_cons (nm 0 rfl (ca_cons (c_int (ca_nil (And.intro rfl ⟨_, _, rfl, ⟨?h2, ?h3, (by assumption), ?h4⟩, fun v1 c1 hv1 hw1 hd1 => And.intro rfl (c_int (ca_cons (c_sub (c_callD c__law_pick (hr.mono (by decide)) (ca_cons (nm 0 rfl (ca_cons (c_int (ca_nil (And.intro rfl ⟨_, _, rfl, ⟨?h5, ?h6, (by assumption), ?h7⟩, fun v2 c2 hv2 hw2 hd2 => And.intro rfl (c_int (ca_nil (And.intro (And.intro rfl (Nat.le_of_ble_eq_true rfl)) (as_ret hQ (c_tup (ca_cons (c_tup (ca_cons (c_callD c__law_unit (hr.mono (by decide)) (ca_cons (nm 0 rfl (ca_cons (nm 1 rfl (ca_cons (c_int (ca_nil (And.intro rfl ⟨_, _, _, rfl, ⟨?h8, ?h9, ?h10, (by assumption), ?h11⟩, fun u1 cu1 hU1 hB1 hDu1 => And.intro rfl (ca_cons (nm 2 rfl (ca_nil (And.intro (And.intro rfl (Nat.le_of_ble_eq_true rfl)) (ca_cons (c_tup (ca_cons (c_tup (ca_cons (c_int (ca_cons (c_int (ca_nil (And.intro (And.intro rfl (Nat.le_of_ble_eq_true rfl)) (ca_cons (c_callD c__law_unit (hr.mono (by decide)) (ca_cons (nm 0 rfl (ca_cons (nm 1 rfl (ca_cons (c_int (ca_nil (And.intro rfl ⟨_, _, _, rfl, ⟨?h12, ?h13, ?h14, (by assumption), ?h15⟩, fun u2 cu2 hU2 hB2 hDu2 => And.intro rfl (ca_nil (And.intro (And.intro rfl (Nat.le_of_ble_eq_true rfl)) (ca_nil (And.intro (And.intro rfl (Nat.le_of_ble_eq_true rfl)) (And.intro rfl ?h16)))))⟩))))))))))))))))))))))))⟩)))))))))))))))))⟩))))))))))⟩)))))))))))
    case h1 =>
      exact sc__law_matrix.nd
    case h2 =>
      first | decide | omega
    case h3 =>
      walk_at "bm"
    case h4 =>
      first | decide | omega
    case h5 =>
      first | decide | omega
    case h6 =>
      walk_at "bm"
    case h7 =>
      first | decide | omega
    case h8 =>
      assumption
    case h9 =>
      first | decide | omega
    case h10 =>
      first | decide | omega
    case h11 =>
      first | decide | omega
    case h12 =>
      assumption
    case h13 =>
      first | decide | omega
    case h14 =>
      first | decide | omega
    case h15 =>
      first | decide | omega
    case h16 =>
      exact ⟨_, rfl, hG (u1, (v1 - 4, v2 - 4), u2) _ ⟨hU1, hU2⟩ ⟨hB1, ⟨Bd.rng (by show _ < v1 - 4; omega) (by show v1 - 4 < _; omega), Bd.rng (by show _ < v2 - 4; omega) (by show v2 - 4 < _; omega)⟩, hB2⟩ (Dk.mono (by assumption) (by omega))⟩

end
end Y29

set_option Elab.async false
set_option linter.all false
set_option maxRecDepth 100000
set_option maxHeartbeats 8000000
namespace Y29
open PySem PySem.Spec PyProof.Rows L2 Evl Wz
local macro_rules | `(tactic| walk_at "bd") => `(tactic| (repeat (first | assumption | apply mate_b1 | apply mate_b2 | apply inv_b1 | apply inv_b2 | apply mul_b1 | apply mul_b2 | apply nrm_b | apply Bd.mul | apply Bd.add | apply Bd.sub | apply Bd.neg | exact Bd.z | exact Bd.of _)))
local macro_rules | `(tactic| walk_at "bm") => `(tactic| (first | assumption | exact Bd.mono (by walk_at "bd") (by decide)))
local macro_rules | `(tactic| walk_at "b2") => `(tactic| (repeat (first | assumption | apply And.intro | walk_at "bm" | decide | omega)))
section
variable {P : Program} {w : World} {K : PySem.W.Frag} {mg : Str → Option Value} {base : Heap}

/-! ### _law_near_unit -/
abbrev s__law_near_unit : Stmt := topS 55
theorem sc__law_near_unit : FnScope ["stock", "kind", "a", "b", "some"] ["stock", "kind"] (defScope s__law_near_unit) := ⟨rfl, rfl, rfl, by decide +kernel, rfl, by decide +kernel, by decide +kernel⟩
def F__law_near_unit : FD := fun ds c Q => ∃ (k : Int) (n : Nat), ds = [.int k] ∧ (Kd k ∧ Dk n c ∧ n ≤ 10000) ∧ ∀ u c', B2 42 u → Dk (n + 12) c' → Q (pD u) c'
theorem ok__law_near_unit {f : Addr} {fd : FuncData} (Fn : Fun K "_law_near_unit" "_law_near_unit" s__law_near_unit f fd) (c__law_unit : Cl P w K mg base 5 "_law_unit" ["stock", "kind", "most"] (spD K F__law_unit)) (c__law_pick : Cl P w K mg base 1 "_law_pick" ["stock", "many"] (spD K F__law_pick)) : FnOk P w K mg base CX0 6 f fd ["stock", "kind"] (spD K F__law_near_unit) := by
  refine fn_D Fn sc__law_near_unit (fun ds c G h => ?_) (fun cdv A outer s H Q E pa ds c G hr hF hQ => ?_)
  · obtain ⟨k, n, rfl, ⟨hk, hdk, hn⟩, hG⟩ := h
    rfl
  · obtain ⟨k, n, rfl, ⟨hk, hdk, hn⟩, hG⟩ := hF
    refine (as_unp2 (i := 2) (j := 3) ?h1 rfl (c_callD c__law_unit (hr.mono (by decide)) (ca_cons (nm 0 rfl (ca_cons (nm 1 rfl (ca_cons (c_int (ca_nil (And.intro rfl ⟨_, _, _, rfl, ⟨?h2, ?h3, ?h4, (by assumption), ?h5⟩, fun u1 cu1 hU1 hB1 hDu1 => And.intro rfl ⟨_, _, rfl, (as_asg (i := 4) ?h6 (c_ofN (n_disp (ca_cons (c_tup (ca_cons (nm 2 rfl (ca_cons (nm 3 rfl (ca_nil (And.intro (And.intro rfl (Nat.le_of_ble_eq_true rfl)) (ca_cons (c_tup (ca_cons (c_neg (nm 2 rfl (ca_cons (c_neg (nm 3 rfl (ca_nil (And.intro (And.intro rfl (Nat.le_of_ble_eq_true rfl)) (ca_cons (c_tup (ca_cons (nm 2 rfl (ca_cons (c_neg (nm 3 rfl (ca_nil (And.intro (And.intro rfl (Nat.le_of_ble_eq_true rfl)) (ca_cons (c_tup (ca_cons (nm 3 rfl (ca_cons (nm 2 rfl (ca_nil (And.intro (And.intro rfl (Nat.le_of_ble_eq_true rfl)) (ca_cons (c_tup (ca_cons (c_add (nm 2 rfl (c_int (ca_cons (nm 3 rfl (ca_nil (And.intro (And.intro rfl (Nat.le_of_ble_eq_true rfl)) (ca_cons (c_tup (ca_cons (nm 2 rfl (ca_cons (c_sub (nm 3 rfl (c_int (ca_nil (And.intro (And.intro rfl (Nat.le_of_ble_eq_true rfl)) (ca_cons (c_tup (ca_cons (c_int (ca_cons (c_int (ca_nil (And.intro (And.intro rfl (Nat.le_of_ble_eq_true rfl)) (ca_cons (c_tup (ca_cons (c_mulS (c_int (nm 2 rfl (And.intro (.inl (And.intro (by decide) (by decide))) (ca_cons (c_mulS (c_int (nm 3 rfl (And.intro (.inl (And.intro (by decide) (by decide))) (ca_nil (And.intro (And.intro rfl (Nat.le_of_ble_eq_true rfl)) (ca_cons (c_tup (ca_cons (c_neg (nm 2 rfl (ca_cons (nm 3 rfl (ca_nil (And.intro (And.intro rfl (Nat.le_of_ble_eq_true rfl)) (ca_cons (c_tup (ca_cons (nm 2 rfl (ca_cons (nm 3 rfl (ca_nil (And.intro (And.intro rfl (Nat.le_of_ble_eq_true rfl)) (ca_nil (And.intro (And.intro rfl (Nat.le_of_ble_eq_true rfl)) (as_ret hQ (c_ixL (nm 4 rfl (c_callD c__law_pick (hr.mono (by decide)) (ca_cons (nm 0 rfl (ca_cons (c_int (ca_nil (And.intro rfl ⟨_, _, rfl, ⟨?h7, ?h8, (by assumption), ?h9⟩, fun v1 c1 hv1 hw1 hd1 => And.intro rfl (atAP (n := 42) hv1 hw1 ?h10 (fun un hBn => (And.intro rfl ?h11)))⟩)))))))))))))))))))))))))))))))))))))))))))))))))))))))))))))))))))))))))))))))))))))))))))))))))))))))))))))⟩⟩))))))))))
    case h1 =>
      exact sc__law_near_unit.nd
    case h2 =>
      assumption
    case h3 =>
      first | decide | omega
    case h4 =>
      first | decide | omega
    case h5 =>
      first | decide | omega
    case h6 =>
      exact sc__law_near_unit.nd
    case h7 =>
      first | decide | omega
    case h8 =>
      walk_at "bm"
    case h9 =>
      first | decide | omega
    case h10 =>
      obtain ⟨hb1, hb2⟩ := hB1
      obtain ⟨a, b⟩ := u1
      dsimp only at hb1 hb2 ⊢
      refine And.intro ⟨(a, b), rfl, ?_, ?_⟩ ?_
      · walk_at "bm"
      · walk_at "bm"
      refine And.intro ⟨(-a, -b), rfl, ?_, ?_⟩ ?_
      · walk_at "bm"
      · walk_at "bm"
      refine And.intro ⟨(a, -b), rfl, ?_, ?_⟩ ?_
      · walk_at "bm"
      · walk_at "bm"
      refine And.intro ⟨(b, a), rfl, ?_, ?_⟩ ?_
      · walk_at "bm"
      · walk_at "bm"
      refine And.intro ⟨(a + 1, b), rfl, ?_, ?_⟩ ?_
      · walk_at "bm"
      · walk_at "bm"
      refine And.intro ⟨(a, b - 1), rfl, ?_, ?_⟩ ?_
      · walk_at "bm"
      · walk_at "bm"
      refine And.intro ⟨(0, 0), rfl, ?_, ?_⟩ ?_
      · walk_at "bm"
      · walk_at "bm"
      refine And.intro ⟨(2 * a, 2 * b), rfl, ?_, ?_⟩ ?_
      · walk_at "bm"
      · walk_at "bm"
      refine And.intro ⟨(-a, b), rfl, ?_, ?_⟩ ?_
      · walk_at "bm"
      · walk_at "bm"
      refine And.intro ⟨(a, b), rfl, ?_, ?_⟩ ?_
      · walk_at "bm"
      · walk_at "bm"
      exact trivial
    case h11 =>
      exact ⟨_, rfl, hG _ _ hBn (Dk.mono (by assumption) (by omega))⟩

end
end Y29

set_option Elab.async false
set_option linter.all false
set_option maxRecDepth 100000
set_option maxHeartbeats 8000000
namespace Y29
open PySem PySem.Spec PyProof.Rows L2 Evl Wz
local macro_rules | `(tactic| walk_at "bd") => `(tactic| (repeat (first | assumption | apply mate_b1 | apply mate_b2 | apply inv_b1 | apply inv_b2 | apply mul_b1 | apply mul_b2 | apply nrm_b | apply Bd.mul | apply Bd.add | apply Bd.sub | apply Bd.neg | exact Bd.z | exact Bd.of _)))
local macro_rules | `(tactic| walk_at "bm") => `(tactic| (first | assumption | exact Bd.mono (by walk_at "bd") (by decide)))
local macro_rules | `(tactic| walk_at "b2") => `(tactic| (repeat (first | assumption | apply And.intro | walk_at "bm" | decide | omega)))
section
variable {P : Program} {w : World} {K : PySem.W.Frag} {mg : Str → Option Value} {base : Heap}

/-! ### _law_near_matrix -/
abbrev s__law_near_matrix : Stmt := topS 56
theorem sc__law_near_matrix : FnScope ["stock", "kind", "p", "q", "none", "t", "some"] ["stock", "kind"] (defScope s__law_near_matrix) := ⟨rfl, rfl, rfl, by decide +kernel, rfl, by decide +kernel, by decide +kernel⟩
def F__law_near_matrix : FD := fun ds c Q => ∃ (k : Int) (n : Nat), ds = [.int k] ∧ (Kd k ∧ Dk n c ∧ n ≤ 1000) ∧ ∀ a b z t c', B2 42 a → B2 42 t → Dk (n + 60) c' → Q (mD a b z t) c'
theorem ok__law_near_matrix {f : Addr} {fd : FuncData} (Fn : Fun K "_law_near_matrix" "_law_near_matrix" s__law_near_matrix f fd) (c__law_matrix : Cl P w K mg base 6 "_law_matrix" ["stock", "kind"] (spD K F__law_matrix)) (c__law_near_unit : Cl P w K mg base 6 "_law_near_unit" ["stock", "kind"] (spD K F__law_near_unit)) (c__law_pick : Cl P w K mg base 1 "_law_pick" ["stock", "many"] (spD K F__law_pick)) : FnOk P w K mg base CX0 7 f fd ["stock", "kind"] (spD K F__law_near_matrix) := by
  refine fn_D Fn sc__law_near_matrix (fun ds c G h => ?_) (fun cdv A outer s H Q E pa ds c G hr hF hQ => ?_)
  · obtain ⟨k, n, rfl, ⟨hk, hdk, hn⟩, hG⟩ := h
    rfl
  · obtain ⟨k, n, rfl, ⟨hk, hdk, hn⟩, hG⟩ := hF
    refine (as_unp22 (i := 2) (j := 3) (l := 4) (m := 5) ?h1 rfl (c_callD c__law_matrix (hr.mono (by decide)) (ca_cons (nm 0 rfl (ca_cons (nm 1 rfl (ca_nil (And.intro rfl ⟨_, _, rfl, ⟨?h2, (by assumption), ?h3⟩, fun mx1 cm1 hMU1 hMB1 hDm1 => And.intro rfl ⟨_, _, _, _, rfl, (as_asgN (i := 6) ?h4 (n_disp (ca_cons (c_tup (ca_cons (c_tup (ca_cons (nm 2 rfl (ca_cons (nm 3 rfl (ca_nil (And.intro (And.intro rfl (Nat.le_of_ble_eq_true rfl)) (ca_cons (c_tup (ca_cons (c_tup (ca_cons (c_int (ca_cons (c_int (ca_nil (And.intro (And.intro rfl (Nat.le_of_ble_eq_true rfl)) (ca_cons (nm 5 rfl (ca_nil (And.intro (And.intro rfl (Nat.le_of_ble_eq_true rfl)) (ca_nil (And.intro (And.intro rfl (Nat.le_of_ble_eq_true rfl)) (ca_cons (c_tup (ca_cons (c_tup (ca_cons (nm 2 rfl (ca_cons (nm 3 rfl (ca_nil (And.intro (And.intro rfl (Nat.le_of_ble_eq_true rfl)) (ca_cons (c_tup (ca_cons (c_tup (ca_cons (c_int (ca_cons (c_int (ca_nil (And.intro (And.intro rfl (Nat.le_of_ble_eq_true rfl)) (ca_cons (nm 5 rfl (ca_nil (And.intro (And.intro rfl (Nat.le_of_ble_eq_true rfl)) (ca_nil (And.intro (And.intro rfl (Nat.le_of_ble_eq_true rfl)) (ca_cons (c_tup (ca_cons (c_tup (ca_cons (c_callD c__law_near_unit (hr.mono (by decide)) (ca_cons (nm 0 rfl (ca_cons (nm 1 rfl (ca_nil (And.intro rfl ⟨_, _, rfl, ⟨?h5, (by assumption), ?h6⟩, fun nu1 cn1 hNB1 hDn1 => And.intro rfl (ca_cons (nm 3 rfl (ca_nil (And.intro (And.intro rfl (Nat.le_of_ble_eq_true rfl)) (ca_cons (c_tup (ca_cons (nm 4 rfl (ca_cons (nm 5 rfl (ca_nil (And.intro (And.intro rfl (Nat.le_of_ble_eq_true rfl)) (ca_nil (And.intro (And.intro rfl (Nat.le_of_ble_eq_true rfl)) (ca_nil (And.intro (And.intro rfl (Nat.le_of_ble_eq_true rfl)) (And.intro ?h7 (fun _ => (as_asgN (i := 6) ?h8 (n_cat (nm 6 rfl (c_ofN (n_disp (ca_cons (c_tup (ca_cons (c_tup (ca_cons (nm 2 rfl (ca_cons (nm 5 rfl (ca_nil (And.intro (And.intro rfl (Nat.le_of_ble_eq_true rfl)) (ca_cons (c_tup (ca_cons (nm 4 rfl (ca_cons (nm 3 rfl (ca_nil (And.intro (And.intro rfl (Nat.le_of_ble_eq_true rfl)) (ca_nil (And.intro (And.intro rfl (Nat.le_of_ble_eq_true rfl)) (ca_cons (c_tup (ca_cons (c_tup (ca_cons (nm 2 rfl (ca_cons (nm 3 rfl (ca_nil (And.intro (And.intro rfl (Nat.le_of_ble_eq_true rfl)) (ca_cons (c_tup (ca_cons (nm 4 rfl (ca_cons (c_callD c__law_near_unit (hr.mono (by decide)) (ca_cons (nm 0 rfl (ca_cons (nm 1 rfl (ca_nil (And.intro rfl ⟨_, _, rfl, ⟨?h9, (by assumption), ?h10⟩, fun nu2 cn2 hNB2 hDn2 => And.intro rfl (ca_nil (And.intro (And.intro rfl (Nat.le_of_ble_eq_true rfl)) (ca_nil (And.intro (And.intro rfl (Nat.le_of_ble_eq_true rfl)) (ca_cons (c_tup (ca_cons (c_tup (ca_cons (nm 2 rfl (ca_cons (nm 4 rfl (ca_nil (And.intro (And.intro rfl (Nat.le_of_ble_eq_true rfl)) (ca_cons (c_tup (ca_cons (nm 3 rfl (ca_cons (nm 5 rfl (ca_nil (And.intro (And.intro rfl (Nat.le_of_ble_eq_true rfl)) (ca_nil (And.intro (And.intro rfl (Nat.le_of_ble_eq_true rfl)) (ca_nil (And.intro (And.intro rfl (Nat.le_of_ble_eq_true rfl)) (And.intro ?h11 (And.intro ?h12 (fun _ => (as_drop (c_append (nm 6 rfl (ca_cons (c_tup (ca_cons (c_tup (ca_cons (nm 2 rfl (ca_cons (nm 3 rfl (ca_nil (And.intro (And.intro rfl (Nat.le_of_ble_eq_true rfl)) (ca_cons (c_tup (ca_cons (nm 4 rfl (ca_cons (nm 5 rfl (ca_nil (And.intro (And.intro rfl (Nat.le_of_ble_eq_true rfl)) (ca_nil (And.intro (And.intro rfl (Nat.le_of_ble_eq_true rfl)) (ca_nil ⟨rfl, _, rfl, ?h13, (as_ret hQ (c_ixL (nm 6 rfl (c_callD c__law_pick (hr.mono (by decide)) (ca_cons (nm 0 rfl (ca_cons (c_int (ca_nil (And.intro rfl ⟨_, _, rfl, ⟨?h14, ?h15, (by assumption), ?h16⟩, fun v1 c1 hv1 hw1 hd1 => And.intro rfl (atAM (n := 42) hv1 hw1 ?h17 (fun ra rb rz rt hra hrt => (And.intro rfl ?h18)))⟩))))))))))⟩)))))))))))))))))))))))))))))))))))))))))))))))))))))⟩)))))))))))))))))))))))))))))))))))))))))))))))))))))))))))))))))⟩))))))))))))))))))))))))))))))))))))))))))))))))))))))))))))))))))⟩⟩))))))))
    case h1 =>
      exact sc__law_near_matrix.nd
    case h2 =>
      assumption
    case h3 =>
      first | decide | omega
    case h4 =>
      exact sc__law_near_matrix.nd
    case h5 =>
      assumption
    case h6 =>
      first | decide | omega
    case h7 =>
      first | rfl | decide | simp [noL, noLs]
    case h8 =>
      exact sc__law_near_matrix.nd
    case h9 =>
      assumption
    case h10 =>
      first | decide | omega
    case h11 =>
      exact Nat.le_of_ble_eq_true rfl
    case h12 =>
      first | rfl | decide | simp [noL, noLs]
    case h13 =>
      exact Nat.le_of_ble_eq_true rfl
    case h14 =>
      first | decide | omega
    case h15 =>
      walk_at "bm"
    case h16 =>
      first | decide | omega
    case h17 =>
      refine And.intro ⟨mx1.1, mx1.2.1, (0, 1), mx1.2.2, rfl, ?_, ?_⟩ ?_
      · first | exact ⟨hMB1.1.1.mono (by decide), hMB1.1.2.mono (by decide)⟩ | exact ⟨hNB1.1.mono (by decide), hNB1.2.mono (by decide)⟩
      · first | exact ⟨hMB1.2.2.1.mono (by decide), hMB1.2.2.2.mono (by decide)⟩ | exact ⟨hMB1.2.1.1.mono (by decide), hMB1.2.1.2.mono (by decide)⟩ | exact ⟨hNB2.1.mono (by decide), hNB2.2.mono (by decide)⟩
      refine And.intro ⟨mx1.1, mx1.2.1, (1, 0), mx1.2.2, rfl, ?_, ?_⟩ ?_
      · first | exact ⟨hMB1.1.1.mono (by decide), hMB1.1.2.mono (by decide)⟩ | exact ⟨hNB1.1.mono (by decide), hNB1.2.mono (by decide)⟩
      · first | exact ⟨hMB1.2.2.1.mono (by decide), hMB1.2.2.2.mono (by decide)⟩ | exact ⟨hMB1.2.1.1.mono (by decide), hMB1.2.1.2.mono (by decide)⟩ | exact ⟨hNB2.1.mono (by decide), hNB2.2.mono (by decide)⟩
      refine And.intro ⟨nu1, mx1.2.1, (0, 0), mx1.2.2, rfl, ?_, ?_⟩ ?_
      · first | exact ⟨hMB1.1.1.mono (by decide), hMB1.1.2.mono (by decide)⟩ | exact ⟨hNB1.1.mono (by decide), hNB1.2.mono (by decide)⟩
      · first | exact ⟨hMB1.2.2.1.mono (by decide), hMB1.2.2.2.mono (by decide)⟩ | exact ⟨hMB1.2.1.1.mono (by decide), hMB1.2.1.2.mono (by decide)⟩ | exact ⟨hNB2.1.mono (by decide), hNB2.2.mono (by decide)⟩
      refine And.intro ⟨mx1.1, mx1.2.2, (0, 0), mx1.2.1, rfl, ?_, ?_⟩ ?_
      · first | exact ⟨hMB1.1.1.mono (by decide), hMB1.1.2.mono (by decide)⟩ | exact ⟨hNB1.1.mono (by decide), hNB1.2.mono (by decide)⟩
      · first | exact ⟨hMB1.2.2.1.mono (by decide), hMB1.2.2.2.mono (by decide)⟩ | exact ⟨hMB1.2.1.1.mono (by decide), hMB1.2.1.2.mono (by decide)⟩ | exact ⟨hNB2.1.mono (by decide), hNB2.2.mono (by decide)⟩
      refine And.intro ⟨mx1.1, mx1.2.1, (0, 0), nu2, rfl, ?_, ?_⟩ ?_
      · first | exact ⟨hMB1.1.1.mono (by decide), hMB1.1.2.mono (by decide)⟩ | exact ⟨hNB1.1.mono (by decide), hNB1.2.mono (by decide)⟩
      · first | exact ⟨hMB1.2.2.1.mono (by decide), hMB1.2.2.2.mono (by decide)⟩ | exact ⟨hMB1.2.1.1.mono (by decide), hMB1.2.1.2.mono (by decide)⟩ | exact ⟨hNB2.1.mono (by decide), hNB2.2.mono (by decide)⟩
      refine And.intro ⟨mx1.1, (0, 0), mx1.2.1, mx1.2.2, rfl, ?_, ?_⟩ ?_
      · first | exact ⟨hMB1.1.1.mono (by decide), hMB1.1.2.mono (by decide)⟩ | exact ⟨hNB1.1.mono (by decide), hNB1.2.mono (by decide)⟩
      · first | exact ⟨hMB1.2.2.1.mono (by decide), hMB1.2.2.2.mono (by decide)⟩ | exact ⟨hMB1.2.1.1.mono (by decide), hMB1.2.1.2.mono (by decide)⟩ | exact ⟨hNB2.1.mono (by decide), hNB2.2.mono (by decide)⟩
      refine And.intro ⟨mx1.1, mx1.2.1, (0, 0), mx1.2.2, rfl, ?_, ?_⟩ ?_
      · first | exact ⟨hMB1.1.1.mono (by decide), hMB1.1.2.mono (by decide)⟩ | exact ⟨hNB1.1.mono (by decide), hNB1.2.mono (by decide)⟩
      · first | exact ⟨hMB1.2.2.1.mono (by decide), hMB1.2.2.2.mono (by decide)⟩ | exact ⟨hMB1.2.1.1.mono (by decide), hMB1.2.1.2.mono (by decide)⟩ | exact ⟨hNB2.1.mono (by decide), hNB2.2.mono (by decide)⟩
      exact trivial
    case h18 =>
      exact ⟨_, rfl, hG _ _ _ _ _ hra hrt (Dk.mono (by assumption) (by omega))⟩

end
end Y29

set_option Elab.async false
set_option linter.all false
set_option maxRecDepth 100000
set_option maxHeartbeats 8000000
namespace Y29
open PySem PySem.Spec PyProof.Rows L2 Evl Wz
theorem neg_mul (k : Int) (p q : Z2) : mul k (neg2 p) q = neg2 (mul k p q) := by
  unfold mul neg2
  by_cases h5 : k = 5
  · simp only [if_pos h5]
    exact Prod.ext (by grind) (by grind)
  · simp only [if_neg h5]
    exact Prod.ext (by grind) (by grind)
theorem add_neg (p q : Z2) : add2 (add2 p q) (neg2 q) = p := by
  unfold add2 neg2
  exact Prod.ext (by grind) (by grind)
theorem add_assoc2 (p q r : Z2) : add2 (add2 p q) r = add2 p (add2 q r) := by
  unfold add2
  exact Prod.ext (by grind) (by grind)
theorem add_mul2 (k : Int) (p q r : Z2) : mul k (add2 p q) r = add2 (mul k p r) (mul k q r) := by
  rw [mul_comm, mul_add2, mul_comm k r p, mul_comm k r q]
/-- what is undone takes a taken place back -/
theorem tak_und {k : Int} {m : Mx} (h : MU k m) (x : Z2 × Z2) : tak k (und k m) (tak k m x) = x := by
  obtain ⟨p, q, t⟩ := m
  obtain ⟨hp, ht⟩ := h
  unfold tak und
  dsimp only at hp ht ⊢
  have e2 : mul k (inv k t) (mul k t x.2) = x.2 := by rw [← mul_assoc, inv_mul ht, one_mul]
  have e1 : mul k (inv k p) (mul k p x.1) = x.1 := by rw [← mul_assoc, inv_mul hp, one_mul]
  have e3 : mul k (mul k (inv k p) (mul k q (inv k t))) (mul k t x.2) = mul k (inv k p) (mul k q x.2) := by
    rw [mul_assoc, mul_assoc, e2]
  refine Prod.ext ?_ e2
  dsimp only
  rw [mul_add2, e1, neg_mul, e3, add_neg]
/-- one matrix behind another takes as both do -/
theorem tak_beh (k : Int) (m l : Mx) (x : Z2 × Z2) : tak k (beh k m l) x = tak k m (tak k l x) := by
  obtain ⟨p, q, t⟩ := m
  obtain ⟨a, b, c⟩ := l
  unfold tak beh
  dsimp only
  refine Prod.ext ?_ (mul_assoc k t c x.2)
  dsimp only
  rw [mul_add2, add_mul2, mul_assoc, mul_assoc, mul_assoc, add_assoc2]
theorem und_u {k : Int} {m : Mx} (hk : Kd k) (h : MU k m) : MU k (und k m) := ⟨h.1.inv hk, h.2.inv hk⟩
theorem beh_u {k : Int} {m l : Mx} (hk : Kd k) (h : MU k m) (g : MU k l) : MU k (beh k m l) := ⟨h.1.mul hk g.1, h.2.mul hk g.2⟩
theorem inv_bb {k : Int} {p : Z2} {n : Nat} (hk : Kd k) (h : B2 n p) : B2 (3 * n + 5) (inv k p) :=
  ⟨((mate_b1 h.1 h.2).mul (nrm_b hk h.1 h.2)).mono (by omega), ((mate_b2 h.2).mul (nrm_b hk h.1 h.2)).mono (by omega)⟩
theorem mul_bb {k : Int} {p q : Z2} {n m : Nat} (hk : Kd k) (h : B2 n p) (g : B2 m q) : B2 (n + m + 4) (mul k p q) :=
  ⟨mul_b1 hk h.1 h.2 g.1 g.2, mul_b2 h.1 h.2 g.1 g.2⟩
theorem neg_bb {p : Z2} {n : Nat} (h : B2 n p) : B2 (n + 2) (neg2 p) := by
  refine ⟨?_, ?_⟩
  · show Bd _ (0 - p.1)
    rw [Int.zero_sub]
    exact h.1.neg.mono (by omega)
  · show Bd _ (0 - p.2)
    rw [Int.zero_sub]
    exact h.2.neg.mono (by omega)
theorem add_bb {p q : Z2} {n m l : Nat} (h : B2 n p) (g : B2 m q) (e1 : n + 1 ≤ l) (e2 : m + 1 ≤ l) : B2 l (add2 p q) := ⟨(h.1.add g.1).mono (by omega), (h.2.add g.2).mono (by omega)⟩
theorem B2.mono {p : Z2} {n m : Nat} (h : B2 n p) (l : n ≤ m) : B2 m p := ⟨h.1.mono l, h.2.mono l⟩
theorem und_b {k : Int} {m : Mx} {n : Nat} (hk : Kd k) (h : MB n m) : MB (7 * n + 30) (und k m) :=
  ⟨(inv_bb hk h.1).mono (by omega), (neg_bb (mul_bb hk (inv_bb hk h.1) (mul_bb hk h.2.1 (inv_bb hk h.2.2)))).mono (by omega), (inv_bb hk h.2.2).mono (by omega)⟩
theorem beh_b {k : Int} {m l : Mx} {n : Nat} (hk : Kd k) (h : MB n m) (g : MB n l) : MB (2 * n + 6) (beh k m l) :=
  ⟨(mul_bb hk h.1 g.1).mono (by omega), add_bb (mul_bb hk h.1 g.2.1) (mul_bb hk h.2.1 g.2.2) (by omega) (by omega), (mul_bb hk h.2.2 g.2.2).mono (by omega)⟩
theorem tak_b {k : Int} {m : Mx} {x : Z2 × Z2} {n l : Nat} (hk : Kd k) (h : MB n m) (g1 : B2 l x.1) (g2 : B2 l x.2) : B2 (n + l + 6) (tak k m x).1 ∧ B2 (n + l + 6) (tak k m x).2 :=
  ⟨add_bb (mul_bb hk h.1 g1) (mul_bb hk h.2.1 g2) (by omega) (by omega), (mul_bb hk h.2.2 g2).mono (by omega)⟩
end Y29

set_option Elab.async false
set_option linter.all false
set_option maxRecDepth 100000
set_option maxHeartbeats 8000000
namespace Y29
open PySem PySem.Spec PyProof.Rows L2 Evl Wz
local macro_rules | `(tactic| walk_at "bd") => `(tactic| (repeat (first | assumption | apply mate_b1 | apply mate_b2 | apply inv_b1 | apply inv_b2 | apply mul_b1 | apply mul_b2 | apply nrm_b | apply Bd.mul | apply Bd.add | apply Bd.sub | apply Bd.neg | exact Bd.z | exact Bd.of _)))
local macro_rules | `(tactic| walk_at "bm") => `(tactic| (first | assumption | exact Bd.mono (by walk_at "bd") (by decide)))
local macro_rules | `(tactic| walk_at "b2") => `(tactic| (repeat (first | assumption | apply And.intro | walk_at "bm" | decide | omega)))
theorem Sh.up {n : Nat} {d : Dat} (h : Sh n d) : Sh (n + 1) d := by
  induction n generalizing d with
  | zero => rw [Sh]; exact .inl h
  | succ n ih =>
    rw [Sh] at h ⊢
    rcases h with h | ⟨xs, h1, h2, h3⟩
    · exact .inl h
    · exact .inr ⟨xs, h1, h2, fun i e q => ih (h3 i e q)⟩
def Shs (n : Nat) (xs : List Dat) : Prop := ∀ (i : Nat) (e : Dat), xs[i]? = some e → Sh n e
theorem Shs.nil {n : Nat} : Shs n [] := fun i e q => by simp at q
theorem Shs.cons {n : Nat} {d : Dat} {xs : List Dat} (h : Sh n d) (g : Shs n xs) : Shs n (d :: xs) := fun i e q => by
  cases i with
  | zero =>
    have : d = e := by simpa using q
    exact this ▸ h
  | succ i => exact g i e (by simpa using q)
theorem Sh.tup {n : Nat} {xs : List Dat} (h : Shs n xs) (l : xs.length ≤ 1000) : Sh (n + 1) (.tup xs) := by
  rw [Sh]
  exact .inr ⟨xs, .inl rfl, l, h⟩
theorem Sh.lst {n : Nat} {xs : List Dat} (h : Shs n xs) (l : xs.length ≤ 1000) : Sh (n + 1) (.lst xs) := by
  rw [Sh]
  exact .inr ⟨xs, .inr rfl, l, h⟩
theorem Sh.int {i : Int} : Sh 0 (.int i) := by rw [Sh]; exact .inl ⟨_, rfl⟩
theorem Sh.bl {i : Bool} : Sh 0 (.bl i) := by rw [Sh]; exact .inr ⟨_, rfl⟩
theorem sh_pD {p : Z2} : Sh 1 (pD p) := Sh.tup (.cons Sh.int (.cons Sh.int .nil)) (Nat.le_of_ble_eq_true rfl)
theorem sh_plD {p q : Z2} : Sh 2 (plD p q) := Sh.tup (.cons sh_pD (.cons sh_pD .nil)) (Nat.le_of_ble_eq_true rfl)
theorem sh_mD {a b c d : Z2} : Sh 3 (mD a b c d) := Sh.tup (.cons sh_plD (.cons sh_plD .nil)) (Nat.le_of_ble_eq_true rfl)
theorem Sh.due3 {p q a b c d e f g h : Z2} : Sh 4 (.lst [plD p q, mD a b c d, mD e f g h]) := Sh.lst (.cons sh_plD.up (.cons sh_mD (.cons sh_mD .nil))) (Nat.le_of_ble_eq_true rfl)
theorem Sh.due2 {p q a b : Z2} : Sh 4 (.lst [plD p q, plD a b]) := Sh.lst (.cons sh_plD.up (.cons sh_plD.up .nil)) (Nat.le_of_ble_eq_true rfl)
theorem Sh.bl2 {a b : Bool} : Sh 4 (.lst [.bl a, .bl b]) := (Sh.lst (.cons Sh.bl (.cons Sh.bl .nil)) (Nat.le_of_ble_eq_true rfl) : Sh 1 _).up.up.up
section
variable {P : Program} {w : World} {K : PySem.W.Frag} {mg : Str → Option Value} {base : Heap}

/-! ### _law_right -/
abbrev s__law_right : Stmt := topS 58
theorem sc__law_right : FnScope ["kind", "one", "two", "place", "due", "told", "back", "both"] ["kind", "one", "two", "place"] (defScope s__law_right) := ⟨rfl, rfl, rfl, by decide +kernel, rfl, by decide +kernel, by decide +kernel⟩
def F__law_right : FP := fun ds Q => ∃ (k : Int) (m l : Mx) (x : Z2 × Z2), ds = [.int k, xD m, xD l, lD x] ∧ (Kd k ∧ MB 40 m ∧ MB 40 l ∧ MU k m ∧ MU k l ∧ B2 10 x.1 ∧ B2 10 x.2) ∧ Q (.bl true)
theorem ok__law_right {f : Addr} {fd : FuncData} (Fn : Fun K "_law_right" "_law_right" s__law_right f fd) (c__law_taken : Cl P w K mg base 4 "_law_taken" ["kind", "matrix", "place"] (spP K F__law_taken)) (c__law_undone : Cl P w K mg base 5 "_law_undone" ["kind", "matrix"] (spP K F__law_undone)) (c__law_behind : Cl P w K mg base 4 "_law_behind" ["kind", "one", "two"] (spP K F__law_behind)) (c__law_alike : Cl P w K mg base 5 "_law_alike" ["thing", "due"] (spP K (F__law_alike 4))) (c_taken : Cl P w K mg base 6 "taken" ["kind", "matrix", "place"] (spP K F_taken)) (c_undone : Cl P w K mg base 6 "undone" ["kind", "matrix"] (spP K F_undone)) (c_behind : Cl P w K mg base 6 "behind" ["kind", "one", "other"] (spP K F_behind)) (ck_taken : ClK P w K mg base 6 "taken" ["kind", "matrix", "place"] ["place", "matrix", "kind"] [2, 1, 0] (spP K F_taken)) (ck_undone : ClK P w K mg base 6 "undone" ["kind", "matrix"] ["matrix", "kind"] [1, 0] (spP K F_undone)) (ck_behind : ClK P w K mg base 6 "behind" ["kind", "one", "other"] ["other", "one", "kind"] [2, 1, 0] (spP K F_behind)) : FnOk P w K mg base CX0 7 f fd ["kind", "one", "two", "place"] (spP K F__law_right) := by
  refine fn_P Fn sc__law_right (fun ds G h => ?_) (fun cdv A outer s H Q E ds G hr hF hQ => ?_)
  · obtain ⟨k, m, l, x, rfl, ⟨hk, ⟨⟨ma1, ma2⟩, ⟨ma3, ma4⟩, ⟨ma5, ma6⟩⟩, ⟨⟨la1, la2⟩, ⟨la3, la4⟩, ⟨la5, la6⟩⟩, ⟨um1, um2⟩, ⟨ul1, ul2⟩, ⟨x1, x2⟩, ⟨y1, y2⟩⟩, hG⟩ := h
    rfl
  · obtain ⟨k, m, l, x, rfl, ⟨hk, ⟨⟨ma1, ma2⟩, ⟨ma3, ma4⟩, ⟨ma5, ma6⟩⟩, ⟨⟨la1, la2⟩, ⟨la3, la4⟩, ⟨la5, la6⟩⟩, ⟨um1, um2⟩, ⟨ul1, ul2⟩, ⟨x1, x2⟩, ⟨y1, y2⟩⟩, hG⟩ := hF
    obtain ⟨⟨ua1, ua2⟩, ⟨ua3, ua4⟩, ⟨ua5, ua6⟩⟩ := und_b (n := 40) hk (m := m) ⟨⟨ma1, ma2⟩, ⟨ma3, ma4⟩, ⟨ma5, ma6⟩⟩
    obtain ⟨uu1, uu2⟩ := und_u hk (m := m) ⟨um1, um2⟩
    obtain ⟨⟨ba1, ba2⟩, ⟨ba3, ba4⟩, ⟨ba5, ba6⟩⟩ := beh_b (n := 40) hk (m := m) (l := l) ⟨⟨ma1, ma2⟩, ⟨ma3, ma4⟩, ⟨ma5, ma6⟩⟩ ⟨⟨la1, la2⟩, ⟨la3, la4⟩, ⟨la5, la6⟩⟩
    obtain ⟨ub1, ub2⟩ := beh_u hk (m := m) (l := l) ⟨um1, um2⟩ ⟨ul1, ul2⟩
    obtain ⟨⟨tm1, tm2⟩, ⟨tm3, tm4⟩⟩ := tak_b (n := 40) (l := 10) hk (m := m) (x := x) ⟨⟨ma1, ma2⟩, ⟨ma3, ma4⟩, ⟨ma5, ma6⟩⟩ ⟨x1, x2⟩ ⟨y1, y2⟩
    obtain ⟨⟨tl1, tl2⟩, ⟨tl3, tl4⟩⟩ := tak_b (n := 40) (l := 10) hk (m := l) (x := x) ⟨⟨la1, la2⟩, ⟨la3, la4⟩, ⟨la5, la6⟩⟩ ⟨x1, x2⟩ ⟨y1, y2⟩
    refine (as_asg (i := 4) ?h1 (c_ofN (n_disp (ca_cons (c_call c__law_taken (hr.mono (by decide)) (ca_cons (nm 0 rfl (ca_cons (nm 1 rfl (ca_cons (nm 3 rfl (ca_nil ⟨_, m, x, rfl, ?h2, And.intro rfl (ca_cons (c_call c__law_undone (hr.mono (by decide)) (ca_cons (nm 0 rfl (ca_cons (nm 1 rfl (ca_nil ⟨_, m, rfl, ?h3, And.intro rfl (ca_cons (c_call c__law_behind (hr.mono (by decide)) (ca_cons (nm 0 rfl (ca_cons (nm 1 rfl (ca_cons (nm 2 rfl (ca_nil ⟨_, m, l, rfl, ?h4, And.intro rfl (ca_nil (And.intro (And.intro rfl (Nat.le_of_ble_eq_true rfl)) (as_ifn (t_not (t_val (c_call c__law_alike (hr.mono (by decide)) (ca_cons (c_ofN (n_disp (ca_cons (c_call c_taken (hr.mono (by decide)) (ca_cons (nm 0 rfl (ca_cons (nm 1 rfl (ca_cons (nm 3 rfl (ca_nil ⟨_, m, x, rfl, ?h5, And.intro rfl (ca_cons (c_call c_undone (hr.mono (by decide)) (ca_cons (nm 0 rfl (ca_cons (nm 1 rfl (ca_nil ⟨_, m, rfl, ?h6, And.intro rfl (ca_cons (c_call c_behind (hr.mono (by decide)) (ca_cons (nm 0 rfl (ca_cons (nm 1 rfl (ca_cons (nm 2 rfl (ca_nil ⟨_, m, l, rfl, ?h7, And.intro rfl (ca_nil (And.intro (And.intro rfl (Nat.le_of_ble_eq_true rfl)) (ca_cons (nm 4 rfl (ca_nil ⟨_, rfl, ?h8, And.intro rfl (as_asg (i := 5) ?h9 (c_ofN (n_disp (ca_cons (c_callK ck_taken (hr.mono (by decide)) (ck_cons (nm 3 rfl (ck_cons (nm 1 rfl (ck_cons (nm 0 rfl (ck_nil (And.intro rfl ⟨_, m, x, rfl, ?h10, And.intro rfl (ca_cons (c_callK ck_undone (hr.mono (by decide)) (ck_cons (nm 1 rfl (ck_cons (nm 0 rfl (ck_nil (And.intro rfl ⟨_, m, rfl, ?h11, And.intro rfl (ca_nil (And.intro (And.intro rfl (Nat.le_of_ble_eq_true rfl)) (as_ifn (t_not (t_val (c_call c__law_alike (hr.mono (by decide)) (ca_cons (c_ofN (n_cat (nm 5 rfl (c_ofN (n_disp (ca_cons (c_callK ck_behind (hr.mono (by decide)) (ck_cons (nm 2 rfl (ck_cons (nm 1 rfl (ck_cons (nm 0 rfl (ck_nil (And.intro rfl ⟨_, m, l, rfl, ?h12, And.intro rfl (ca_nil (And.intro (And.intro rfl (Nat.le_of_ble_eq_true rfl)) (And.intro ?h13 (ca_cons (nm 4 rfl (ca_nil ⟨_, rfl, ?h14, And.intro rfl (as_asg (i := 6) ?h15 (c_call c_taken (hr.mono (by decide)) (ca_cons (nm 0 rfl (ca_cons (c_call c_undone (hr.mono (by decide)) (ca_cons (nm 0 rfl (ca_cons (nm 1 rfl (ca_nil ⟨_, m, rfl, ?h16, And.intro rfl (ca_cons (c_call c_taken (hr.mono (by decide)) (ca_cons (nm 0 rfl (ca_cons (nm 1 rfl (ca_cons (nm 3 rfl (ca_nil ⟨_, m, x, rfl, ?h17, And.intro rfl (ca_nil ⟨_, und k m, tak k m x, rfl, ?h18, And.intro rfl (as_asg (i := 7) ?h19 (c_call c_taken (hr.mono (by decide)) (ca_cons (nm 0 rfl (ca_cons (c_call c_behind (hr.mono (by decide)) (ca_cons (nm 0 rfl (ca_cons (nm 1 rfl (ca_cons (nm 2 rfl (ca_nil ⟨_, m, l, rfl, ?h20, And.intro rfl (ca_cons (nm 3 rfl (ca_nil ⟨_, beh k m l, x, rfl, ?h21, And.intro rfl (as_ret hQ (c_call c__law_alike (hr.mono (by decide)) (ca_cons (c_ofN (n_disp (ca_cons (nm 6 rfl (ca_cons (nm 7 rfl (ca_nil (And.intro (And.intro rfl (Nat.le_of_ble_eq_true rfl)) (ca_cons (c_ofN (n_disp (ca_cons (nm 3 rfl (ca_cons (c_call c_taken (hr.mono (by decide)) (ca_cons (nm 0 rfl (ca_cons (nm 1 rfl (ca_cons (c_call c_taken (hr.mono (by decide)) (ca_cons (nm 0 rfl (ca_cons (nm 2 rfl (ca_cons (nm 3 rfl (ca_nil ⟨_, l, x, rfl, ?h22, And.intro rfl (ca_nil ⟨_, m, tak k l x, rfl, ?h23, And.intro rfl (ca_nil (And.intro (And.intro rfl (Nat.le_of_ble_eq_true rfl)) (ca_nil ⟨.lst [lD x, lD (tak k m (tak k l x))], ?h24, Sh.due2, And.intro rfl (And.intro rfl ?h25)⟩)))⟩)⟩)))))))))))))))))))))))))))))))⟩)))⟩)))))))))))))⟩)⟩)))))))))⟩)))))))))))⟩))))))⟩))))))))))))))))))))))⟩))))))))⟩)))))))))))))⟩)))))⟩)))))))))⟩)))))))⟩))))))))))))))))))⟩)))))))))⟩)))))))⟩))))))))))))
    case h1 =>
      exact sc__law_right.nd
    case h2 =>
      walk_at "b2"
    case h3 =>
      walk_at "b2"
    case h4 =>
      walk_at "b2"
    case h5 =>
      walk_at "b2"
    case h6 =>
      walk_at "b2"
    case h7 =>
      walk_at "b2"
    case h8 =>
      exact Sh.due3
    case h9 =>
      exact sc__law_right.nd
    case h10 =>
      walk_at "b2"
    case h11 =>
      walk_at "b2"
    case h12 =>
      walk_at "b2"
    case h13 =>
      exact Nat.le_of_ble_eq_true rfl
    case h14 =>
      exact Sh.due3
    case h15 =>
      exact sc__law_right.nd
    case h16 =>
      walk_at "b2"
    case h17 =>
      walk_at "b2"
    case h18 =>
      walk_at "b2"
    case h19 =>
      exact sc__law_right.nd
    case h20 =>
      walk_at "b2"
    case h21 =>
      walk_at "b2"
    case h22 =>
      walk_at "b2"
    case h23 =>
      walk_at "b2"
    case h24 =>
      rw [tak_und ⟨um1, um2⟩, tak_beh]
      rfl
    case h25 =>
      exact hG

end
end Y29

set_option Elab.async false
set_option linter.all false
set_option maxRecDepth 100000
set_option maxHeartbeats 8000000
namespace Y29
open PySem PySem.Spec PyProof.Rows L2 Evl Wz
local macro_rules | `(tactic| walk_at "bd") => `(tactic| (repeat (first | assumption | apply mate_b1 | apply mate_b2 | apply inv_b1 | apply inv_b2 | apply mul_b1 | apply mul_b2 | apply nrm_b | apply Bd.mul | apply Bd.add | apply Bd.sub | apply Bd.neg | exact Bd.z | exact Bd.of _)))
local macro_rules | `(tactic| walk_at "bm") => `(tactic| (first | assumption | exact Bd.mono (by walk_at "bd") (by decide)))
local macro_rules | `(tactic| walk_at "b2") => `(tactic| (repeat (first | assumption | apply And.intro | walk_at "bm" | decide | omega)))
/-- what is asked again -/
def GA : List Dat → Prop
  | [] => True
  | d :: ds => (∃ (k : Int) (m l : Mx) (x : Z2 × Z2), d = .tup [.int k, xD m, xD l, lD x] ∧ (Kd k ∧ MB 40 m ∧ MB 40 l ∧ MU k m ∧ MU k l ∧ B2 10 x.1 ∧ B2 10 x.2)) ∧ GA ds
theorem GA.app : ∀ {ds es : List Dat}, GA ds → GA es → GA (ds ++ es)
  | [], _, _, h => h
  | _ :: _, _, h, g => ⟨h.1, GA.app h.2 g⟩
section
variable {P : Program} {w : World} {K : PySem.W.Frag} {mg : Str → Option Value} {base : Heap}

/-! ### law -/
abbrev s_law : Stmt := topS 59
theorem sc_law : FnScope ["script", "asked", "spot", "stock", "kind", "one", "two", "axis", "x", "y", "turn", "thing", "matrix", "due", "place"] ["script"] (defScope s_law) := ⟨rfl, rfl, rfl, by decide +kernel, rfl, by decide +kernel, by decide +kernel⟩
def F_law : FP := fun ds Q => ∃ ns : List Int, ds = [.lst (ns.map Dat.int)] ∧ ns.length ≤ 63 ∧ Q (.bl true)
theorem ok_law {f : Addr} {fd : FuncData} (Fn : Fun K "law" "law" s_law f fd) (c__law_stock : Cl P w K mg base 1 "_law_stock" ["script", "spot"] (spN K F__law_stock)) (c__law_pick : Cl P w K mg base 1 "_law_pick" ["stock", "many"] (spD K F__law_pick)) (c__law_matrix : Cl P w K mg base 6 "_law_matrix" ["stock", "kind"] (spD K F__law_matrix)) (c__law_right : Cl P w K mg base 7 "_law_right" ["kind", "one", "two", "place"] (spP K F__law_right)) (c__law_near_unit : Cl P w K mg base 6 "_law_near_unit" ["stock", "kind"] (spD K F__law_near_unit)) (c__law_near_matrix : Cl P w K mg base 7 "_law_near_matrix" ["stock", "kind"] (spD K F__law_near_matrix)) (c__law_is_unit : Cl P w K mg base 4 "_law_is_unit" ["kind", "told"] (spP K F__law_is_unit)) (c__law_is_matrix : Cl P w K mg base 4 "_law_is_matrix" ["kind", "told"] (spP K F__law_is_matrix)) (c__law_alike : Cl P w K mg base 5 "_law_alike" ["thing", "due"] (spP K (F__law_alike 4))) (c_is_unit : Cl P w K mg base 4 "is_unit" ["kind", "told"] (spP K F_is_unit)) (c_is_matrix : Cl P w K mg base 4 "is_matrix" ["kind", "told"] (spP K F_is_matrix)) (ck_is_unit : ClK P w K mg base 4 "is_unit" ["kind", "told"] ["told", "kind"] [1, 0] (spP K F_is_unit)) (ck_is_matrix : ClK P w K mg base 4 "is_matrix" ["kind", "told"] ["told", "kind"] [1, 0] (spP K F_is_matrix)) (m_range : mg "range" = none) (m_max : mg "max" = none) (m_min : mg "min" = none) (m_len : mg "len" = none) : FnOk P w K mg base CX0 8 f fd ["script"] (spP K F_law) := by
  refine fn_P Fn sc_law (fun ds G h => ?_) (fun cdv A outer s H Q E ds G hr hF hQ => ?_)
  · obtain ⟨ns, rfl, hns, hG⟩ := h
    rfl
  · obtain ⟨ns, rfl, hns, hG⟩ := hF
    refine (as_asgN (i := 1) ?h1 (n_disp (ca_nil (And.intro (And.intro rfl (Nat.le_of_ble_eq_true rfl)) (And.intro ?h2 (fun _ => (as_forR1 (i := 2) ?h3 rfl PassesOwn.never m_range (ca_cons (c_max rfl m_max (ca_cons (c_int (ca_cons (c_min rfl m_min (ca_cons (c_int (ca_cons (c_lenL m_len (ca_cons (nm 0 rfl (ca_nil (ca_nil (ca_nil (ca_nil ⟨_, (fun j es q => ∃ (as : List Dat) (v2 v3 v4 v5 v6 v7 v8 v9 v10 v11 v12 v13 v14 : Option Dat), es = [some (.lst (ns.map Dat.int)), some (.cel 0), v2, v3, v4, v5, v6, v7, v8, v9, v10, v11, v12, v13, v14] ∧ q = [as] ∧ GA as ∧ as.length = j), (fun _ _ => False), rfl, ?h56, ⟨[], _, _, _, _, _, _, _, _, _, _, _, _, _, rfl, rfl, trivial, rfl⟩, ⟨fun H10 e10 fr0 j d es q hj hd hw => ?h4, fun es q hw => ?h5, fun _ _ h => h.elim⟩⟩)))))))))))))))))))))))
    case h1 =>
      exact sc_law.nd
    case h2 =>
      first | rfl | exact hs1.nl | assumption
    case h3 =>
      exact sc_law.nd
    case h4 =>
      obtain ⟨as, v2, v3, v4, v5, v6, v7, v8, v9, v10, v11, v12, v13, v14, rfl, rfl, hga, hln⟩ := hw
      cases hd
      refine (as_asgN (i := 3) (hx := .inr rfl) ?h6 (n_call c__law_stock (hr.mono (by decide)) (ca_cons (nm 0 rfl (ca_cons (nm 2 rfl (ca_nil ⟨_, _, rfl, fun s1 hs1 => And.intro hs1.nl (And.intro ?h7 (fun _ => (as_asg (i := 4) ?h8 (c_ixL (c_ofN (n_disp (ca_cons (c_int (ca_cons (c_int (ca_cons (c_int (ca_nil (And.intro (And.intro rfl (Nat.le_of_ble_eq_true rfl)) (c_callD c__law_pick (hr.mono (by decide)) (ca_cons (nm 3 rfl (ca_cons (c_int (ca_nil (And.intro rfl ⟨_, _, rfl, ⟨?h9, ?h10, (by assumption), ?h11⟩, fun v1 c1 hv1 hw1 hd1 => And.intro rfl (at3k hv1 hw1 (fun k hk => (as_par (i := 5) (j := 6) ?h12 rfl (ca_cons (c_callD c__law_matrix (hr.mono (by decide)) (ca_cons (nm 3 rfl (ca_cons (nm 4 rfl (ca_nil (And.intro rfl ⟨_, _, rfl, ⟨?h13, (by assumption), ?h14⟩, fun mx1 cm1 hMU1 hMB1 hDm1 => And.intro rfl (ca_cons (c_callD c__law_matrix (hr.mono (by decide)) (ca_cons (nm 3 rfl (ca_cons (nm 4 rfl (ca_nil (And.intro rfl ⟨_, _, rfl, ⟨?h15, (by assumption), ?h16⟩, fun mx2 cm2 hMU2 hMB2 hDm2 => And.intro rfl (ca_nil ⟨_, _, rfl, (as_unpL2 (i := 8) (j := 9) ?h17 rfl (c_ofN (n_lcT (j := 7) rfl ?h18 (blkOk_by (N := ["script", "asked", "spot", "stock", "kind", "one", "two", "axis", "x", "y", "turn", "thing", "matrix", "due", "place"]) (sc := defScope s_law) (by decide +kernel)) (fun _ _ _ _ _ => pg_name (i := 7) sc_law.nd rfl (Or.inl rfl)) (c_tup (ca_cons (c_int (ca_cons (c_int (ca_nil (And.intro (And.intro rfl (Nat.le_of_ble_eq_true rfl)) ⟨?h52, (fun l acc q => ∃ c2, q = [as, c2] ∧ Dk (100 + 2 * l) c2 ∧ (l = 0 → acc = []) ∧ (l = 1 → ∃ p, acc = [pD p] ∧ B2 10 p) ∧ (l = 2 → ∃ p r, acc = [pD p, pD r] ∧ B2 10 p ∧ B2 10 r)), ⟨_, rfl, Dk.mono (by assumption) (by omega), fun _ => rfl, fun h => by omega, fun h => by omega⟩, ⟨fun _ _ _ _ _ l d acc q hl hd hw => ?h19⟩, fun acc q hw ha => ?h20⟩))))))))))⟩)⟩))))))))⟩)))))))))))⟩)))))))))))))))))))))⟩)))))))
      case h6 =>
        exact sc_law.nd
      case h7 =>
        first | rfl | exact hs1.nl | assumption
      case h8 =>
        exact sc_law.nd
      case h9 =>
        first | decide | omega
      case h10 =>
        walk_at "bm"
      case h11 =>
        first | decide | omega
      case h12 =>
        exact sc_law.nd
      case h13 =>
        assumption
      case h14 =>
        first | decide | omega
      case h15 =>
        assumption
      case h16 =>
        first | decide | omega
      case h17 =>
        exact sc_law.nd
      case h18 =>
        exact sc_law.nd
      case h19 =>
        obtain ⟨c2, rfl, hd2, q0, q1, q2⟩ := hw
        have hl2 : l < 2 := hl
        refine (c_tup (ca_cons (c_sub (c_callD c__law_pick (hr.mono (by decide)) (ca_cons (nm 3 rfl (ca_cons (c_int (ca_nil (And.intro rfl ⟨_, _, rfl, ⟨?h21, ?h22, (by assumption), ?h23⟩, fun v2 c2 hv2 hw2 hd2 => And.intro rfl (c_int (ca_cons (c_sub (c_callD c__law_pick (hr.mono (by decide)) (ca_cons (nm 3 rfl (ca_cons (c_int (ca_nil (And.intro rfl ⟨_, _, rfl, ⟨?h24, ?h25, (by assumption), ?h26⟩, fun v3 c3 hv3 hw3 hd3 => And.intro rfl (c_int (ca_nil (And.intro (And.intro rfl (Nat.le_of_ble_eq_true rfl)) (And.intro rfl ?h27))))⟩))))))))))⟩))))))))))
        case h21 =>
          first | decide | omega
        case h22 =>
          walk_at "bm"
        case h23 =>
          first | decide | omega
        case h24 =>
          first | decide | omega
        case h25 =>
          walk_at "bm"
        case h26 =>
          first | decide | omega
        case h27 =>
          refine ⟨_, rfl, Dk.mono (by assumption) (by omega), fun h => by omega, fun h => ?_, fun h => ?_⟩
          · rw [q0 (by omega)]
            exact ⟨(v2 - 9, v3 - 9), rfl, Bd.rng (by show _ < v2 - 9; omega) (by show v2 - 9 < _; omega), Bd.rng (by show _ < v3 - 9; omega) (by show v3 - 9 < _; omega)⟩
          · obtain ⟨p, rfl, hp⟩ := q1 (by omega)
            exact ⟨p, (v2 - 9, v3 - 9), rfl, hp, Bd.rng (by show _ < v2 - 9; omega) (by show v2 - 9 < _; omega), Bd.rng (by show _ < v3 - 9; omega) (by show v3 - 9 < _; omega)⟩
      case h20 =>
        obtain ⟨c2, rfl, hd2, q0, q1, q2⟩ := hw
        obtain ⟨px, py, rfl, ⟨px1, px2⟩, py1, py2⟩ := q2 rfl
        have hd3 : Dk 104 c2 := hd2
        refine ⟨_, _, rfl, (as_ifn (t_w (w_or (t_not (t_val (c_call c__law_right (hr.mono (by decide)) (ca_cons (nm 4 rfl (ca_cons (nm 5 rfl (ca_cons (nm 6 rfl (ca_cons (c_tup (ca_cons (nm 8 rfl (ca_cons (nm 9 rfl (ca_nil (And.intro (And.intro rfl (Nat.le_of_ble_eq_true rfl)) (ca_nil ⟨_, mx1, mx2, (px, py), rfl, ?h28, And.intro rfl (w_or1 (t_not (t_val (c_call c__law_right (hr.mono (by decide)) (ca_cons (nm 4 rfl (ca_cons (nm 6 rfl (ca_cons (nm 5 rfl (ca_cons (c_tup (ca_cons (nm 9 rfl (ca_cons (nm 8 rfl (ca_nil (And.intro (And.intro rfl (Nat.le_of_ble_eq_true rfl)) (ca_nil ⟨_, mx2, mx1, (py, px), rfl, ?h29, And.intro rfl (as_forR1 (i := 10) ?h30 rfl PassesOwn.never m_range (ca_cons (c_int (ca_nil ⟨_, (fun i es q => ∃ (v10 v11 v12 v13 : Option Dat) (c2 : List Dat), es = [some (.lst (ns.map Dat.int)), some (.cel 0), some (.int (j : Int)), some (.cel 1), some (.int k), some (xD mx1), some (xD mx2), v7, some (pD px), some (pD py), v10, v11, v12, v13, v14] ∧ q = [as, c2] ∧ Dk (200 + 80 * i) c2), (fun _ _ => False), rfl, ?h51, ⟨_, _, _, _, _, rfl, rfl, Dk.mono (by assumption) (by omega)⟩, ⟨fun H11 e11 fr1 j d es q hj hd hw => ?h31, fun es q hw => ?h32, fun _ _ h => h.elim⟩⟩))))⟩)))))))))))))))))))⟩)))))))))))))))))))))⟩
        case h28 =>
          exact ⟨hk, hMB1, hMB2, hMU1, hMU2, ⟨px1, px2⟩, py1, py2⟩
        case h29 =>
          exact ⟨hk, hMB2, hMB1, hMU2, hMU1, ⟨py1, py2⟩, px1, px2⟩
        case h30 =>
          exact sc_law.nd
        case h31 =>
          obtain ⟨v10, v11, v12, v13, c2, rfl, rfl, hd2⟩ := hw
          cases hd
          refine (as_par (i := 11) (j := 12) ?h33 rfl (ca_cons (c_callD c__law_near_unit (hr.mono (by decide)) (ca_cons (nm 3 rfl (ca_cons (nm 4 rfl (ca_nil (And.intro rfl ⟨_, _, rfl, ⟨?h34, (by assumption), ?h35⟩, fun nu1 cn1 hNB1 hDn1 => And.intro rfl (ca_cons (c_callD c__law_near_matrix (hr.mono (by decide)) (ca_cons (nm 3 rfl (ca_cons (nm 4 rfl (ca_nil (And.intro rfl ⟨_, _, rfl, ⟨?h36, (by assumption), ?h37⟩, fun na nb nz nt cq hna hnt hDq => And.intro rfl (ca_nil ⟨_, _, rfl, (as_asg (i := 13) ?h38 (c_ofN (n_disp (ca_cons (c_call c__law_is_unit (hr.mono (by decide)) (ca_cons (nm 4 rfl (ca_cons (nm 11 rfl (ca_nil ⟨_, _, rfl, ?h39, And.intro rfl (ca_cons (c_call c__law_is_matrix (hr.mono (by decide)) (ca_cons (nm 4 rfl (ca_cons (nm 12 rfl (ca_nil ⟨_, _, _, _, _, rfl, ?h40, And.intro rfl (ca_nil (And.intro (And.intro rfl (Nat.le_of_ble_eq_true rfl)) (as_ifn (t_not (t_val (c_call c__law_alike (hr.mono (by decide)) (ca_cons (c_ofN (n_disp (ca_cons (c_call c_is_unit (hr.mono (by decide)) (ca_cons (nm 4 rfl (ca_cons (nm 11 rfl (ca_nil ⟨_, _, rfl, ?h41, And.intro rfl (ca_cons (c_call c_is_matrix (hr.mono (by decide)) (ca_cons (nm 4 rfl (ca_cons (nm 12 rfl (ca_nil ⟨_, _, _, _, _, rfl, ?h42, And.intro rfl (ca_nil (And.intro (And.intro rfl (Nat.le_of_ble_eq_true rfl)) (ca_cons (nm 13 rfl (ca_nil ⟨_, rfl, ?h43, And.intro rfl (as_ifn (t_not (t_val (c_call c__law_alike (hr.mono (by decide)) (ca_cons (c_ofN (n_disp (ca_cons (c_callK ck_is_unit (hr.mono (by decide)) (ck_cons (nm 11 rfl (ck_cons (nm 4 rfl (ck_nil (And.intro rfl ⟨_, _, rfl, ?h44, And.intro rfl (ca_cons (c_callK ck_is_matrix (hr.mono (by decide)) (ck_cons (nm 12 rfl (ck_cons (nm 4 rfl (ck_nil (And.intro rfl ⟨_, _, _, _, _, rfl, ?h45, And.intro rfl (ca_nil (And.intro (And.intro rfl (Nat.le_of_ble_eq_true rfl)) (ca_cons (nm 13 rfl (ca_nil ⟨_, rfl, ?h46, And.intro rfl (as_end rfl ⟨_, _, _, _, _, rfl, rfl, ?h47⟩)⟩)))))⟩))))))))⟩)))))))))))))))⟩)))))⟩)))))))⟩))))))))))))))))⟩)))))))⟩))))))))))⟩)⟩))))))))⟩)))))))))
          case h33 =>
            exact sc_law.nd
          case h34 =>
            assumption
          case h35 =>
            first | decide | omega
          case h36 =>
            assumption
          case h37 =>
            first | decide | omega
          case h38 =>
            exact sc_law.nd
          case h39 =>
            obtain ⟨g1, g2⟩ := hNB1
            obtain ⟨g3, g4⟩ := hna
            obtain ⟨g5, g6⟩ := hnt
            walk_at "b2"
          case h40 =>
            obtain ⟨g1, g2⟩ := hNB1
            obtain ⟨g3, g4⟩ := hna
            obtain ⟨g5, g6⟩ := hnt
            walk_at "b2"
          case h41 =>
            obtain ⟨g1, g2⟩ := hNB1
            obtain ⟨g3, g4⟩ := hna
            obtain ⟨g5, g6⟩ := hnt
            walk_at "b2"
          case h42 =>
            obtain ⟨g1, g2⟩ := hNB1
            obtain ⟨g3, g4⟩ := hna
            obtain ⟨g5, g6⟩ := hnt
            walk_at "b2"
          case h43 =>
            exact Sh.bl2
          case h44 =>
            obtain ⟨g1, g2⟩ := hNB1
            obtain ⟨g3, g4⟩ := hna
            obtain ⟨g5, g6⟩ := hnt
            walk_at "b2"
          case h45 =>
            obtain ⟨g1, g2⟩ := hNB1
            obtain ⟨g3, g4⟩ := hna
            obtain ⟨g5, g6⟩ := hnt
            walk_at "b2"
          case h46 =>
            exact Sh.bl2
          case h47 =>
            exact Dk.mono (by assumption) (by omega)
        case h32 =>
          obtain ⟨v10, v11, v12, v13, c2, rfl, rfl, hd2⟩ := hw
          refine (as_drop (c_append (nm 1 rfl (ca_cons (c_tup (ca_cons (nm 4 rfl (ca_cons (nm 5 rfl (ca_cons (nm 6 rfl (ca_cons (c_tup (ca_cons (nm 8 rfl (ca_cons (nm 9 rfl (ca_nil (And.intro (And.intro rfl (Nat.le_of_ble_eq_true rfl)) (ca_nil (And.intro (And.intro rfl (Nat.le_of_ble_eq_true rfl)) (ca_nil ⟨rfl, _, rfl, ?h48, (as_endL rfl ⟨_, rfl⟩ ⟨_, _, _, _, _, _, _, _, _, _, _, _, _, _, rfl, rfl, ?h49, ?h50⟩)⟩))))))))))))))))))))))
          case h48 =>
            first | exact Nat.le_of_ble_eq_true rfl | omega
          case h49 =>
            exact GA.app hga ⟨⟨k, mx1, mx2, (px, py), rfl, hk, hMB1, hMB2, hMU1, hMU2, ⟨px1, px2⟩, py1, py2⟩, trivial⟩
          case h50 =>
            rw [List.length_append, hln]
            rfl
        case h51 =>
          omega
      case h52 =>
        first | assumption | exact Nat.le_of_ble_eq_true rfl | omega
    case h5 =>
      obtain ⟨as, v2, v3, v4, v5, v6, v7, v8, v9, v10, v11, v12, v13, v14, rfl, rfl, hga, hln⟩ := hw
      obtain _ | ⟨d0, ar⟩ := as
      · exfalso
        rw [List.length_nil] at hln
        omega
      obtain ⟨⟨k, mx1, mx2, ⟨px, py⟩, rfl, hk, hMB1, hMB2, hMU1, hMU2, ⟨px1, px2⟩, py1, py2⟩, _⟩ := hga
      refine (as_unp4 (i := 4) (j := 5) (l := 6) (m := 14) ?h53 rfl (c_ixLn (nm 1 rfl (c_int (And.intro (by decide) ⟨_, _, _, _, rfl, (as_ret hQ (c_call c__law_right (hr.mono (by decide)) (ca_cons (nm 4 rfl (ca_cons (nm 5 rfl (ca_cons (nm 6 rfl (ca_cons (nm 14 rfl (ca_nil ⟨_, mx1, mx2, (px, py), rfl, ?h54, And.intro rfl (And.intro rfl ?h55)⟩)))))))))))⟩)))))
      case h53 =>
        exact sc_law.nd
      case h54 =>
        exact ⟨hk, hMB1, hMB2, hMU1, hMU2, ⟨px1, px2⟩, py1, py2⟩
      case h55 =>
        exact hG
    case h56 =>
      omega

end
end Y29

set_option Elab.async false
set_option linter.all false
set_option maxRecDepth 100000
set_option maxHeartbeats 8000000
namespace Y29
open PySem PySem.Spec PyProof.Rows L2 Evl Wz
/-- a def of the module's top -/
structure Top (K : PySem.W.Frag) (mg : Str → Option Value) (x : Str) (st : Stmt) : Prop where
  ex : ∃ (f : Addr) (fd : FuncData), mg x = some (.ref f) ∧ Fun K x x st f fd
theorem top_mk {K : PySem.W.Frag} {h : Heap} {mg : Str → Option Value} {x : Str} {st : Stmt} {f : Addr} {oc : Value} {od an : Option Addr} {osl : Array (Option Value)} {kV doc pm cdv ct : Value} (X : K.In h) (G : h.Ns mainGlobals mg)
    (a : PySem.W.nsIn K mainGlobals x = some (some (.ref f))) (l : K.lookup f = some ⟨oc, od, .func (PySem.W.fnOf x x (defArgs st) (defBody st) (defScope st) .none kV doc pm an cdv ct), osl⟩) (c : PySem.W.codeIn K cdv x = true) (k : PySem.W.keepIn K (.ref f) = true) : Top K mg x st :=
  ⟨_, _, PySem.W.mg_of X G a, fun_mk (st := st) l c k⟩
section
variable {P : Program} {w : World} {K : PySem.W.Frag} {mg : Str → Option Value} {base : Heap} {x : Str} {st : Stmt} {k : Nat} {ps ks : List Str} {sp : Sp}
theorem Top.cl (T : Top K mg x st) (hb : ∀ (kV doc pm : Value) (an : Option Addr) (cdv ct : Value) (us : List Value), us.length = ps.length → bindArgs (PySem.W.fnOf x x (defArgs st) (defBody st) (defScope st) .none kV doc pm an cdv ct) ⟨us, []⟩ = pure (ps.zip us))
    (h : ∀ f fd, Fun K x x st f fd → FnOk P w K mg base CX0 k f fd ps sp) : Cl P w K mg base k x ps sp := by
  obtain ⟨f, fd, hm, F⟩ := T.ex
  exact ⟨f, fd, hm, F.kp, F.binds hb, h f fd F⟩
theorem Top.clK (T : Top K mg x st) (pi : List Nat) (hp : 0 < ps.length) (hb : ∀ (kV doc pm : Value) (an : Option Addr) (cdv ct : Value) (ws : List Value), ws.length = ks.length → bindArgs (PySem.W.fnOf x x (defArgs st) (defBody st) (defScope st) .none kV doc pm an cdv ct) ⟨[], ks.zip ws⟩ = pure (ps.zip (kperm pi ks.length [] ws)))
    (h : ∀ f fd, Fun K x x st f fd → FnOk P w K mg base CX0 k f fd ps sp) : ClK P w K mg base k x ps ks pi sp := by
  obtain ⟨f, fd, hm, F⟩ := T.ex
  exact ⟨f, fd, hm, F.kp, Wz.Fun.kb F pi ks.length hp hb, h f fd F⟩
end
theorem kt_mk {K : PySem.W.Frag} {h : Heap} {mg : Str → Option Value} {x : Str} {C : Addr} {od : Option Addr} {n : Nat} {sl : Array (Option Value)} {a b c : Tok} (X : K.In h) (G : h.Ns mainGlobals mg) (e : PySem.W.nsIn K mainGlobals x = some (some (.ref C)))
    (l : K.lookup C = some ⟨.type "tuple", od, .seq #[.int 2 a, .int 3 b, .int 5 c] n, sl⟩) : KT K mg x [.int 2, .int 3, .int 5] :=
  ⟨C, [.int 2, .int 3, .int 5], PySem.W.mg_of X G e, fun H => .inr ⟨_, _, _, l, rfl, rfl, by show 3 ≤ sizeLine; decide, .cons ⟨a, rfl⟩ (.cons ⟨b, rfl⟩ (.cons ⟨c, rfl⟩ .nil))⟩, fun o H => DVs.cons (.int 2) (DVs.cons (.int 3) (DVs.cons (.int 5) DVs.nil))⟩
theorem kt_mk2 {K : PySem.W.Frag} {h : Heap} {mg : Str → Option Value} {x : Str} {C : Addr} {od : Option Addr} {n : Nat} {sl : Array (Option Value)} {a b : Tok} (X : K.In h) (G : h.Ns mainGlobals mg) (e : PySem.W.nsIn K mainGlobals x = some (some (.ref C)))
    (l : K.lookup C = some ⟨.type "tuple", od, .seq #[.int 0 a, .int 0 b] n, sl⟩) : KT K mg x [.int 0, .int 0] :=
  ⟨C, [.int 0, .int 0], PySem.W.mg_of X G e, fun H => .inr ⟨_, _, _, l, rfl, rfl, by show 2 ≤ sizeLine; decide, .cons ⟨a, rfl⟩ (.cons ⟨b, rfl⟩ .nil)⟩, fun o H => DVs.cons (.int 0) (DVs.cons (.int 0) DVs.nil)⟩

theorem law_all {P : Program} {w : World} {K : PySem.W.Frag} {mg : Str → Option Value} {base : Heap} (t_is_integer : Top K mg "is_integer" s_is_integer) (t_is_whole : Top K mg "is_whole" s_is_whole) (t_is_kind : Top K mg "is_kind" s_is_kind) (t_check_kind : Top K mg "check_kind" s_check_kind) (t_pair_sum : Top K mg "pair_sum" s_pair_sum) (t_pair_less : Top K mg "pair_less" s_pair_less) (t_pair_times : Top K mg "pair_times" s_pair_times) (t_pair_mate : Top K mg "pair_mate" s_pair_mate) (t_pair_norm : Top K mg "pair_norm" s_pair_norm) (t_whole_sign : Top K mg "whole_sign" s_whole_sign) (t__keeps_sides : Top K mg "_keeps_sides" s__keeps_sides) (t__is_pair : Top K mg "_is_pair" s__is_pair) (t_is_place : Top K mg "is_place" s_is_place) (t_check_place : Top K mg "check_place" s_check_place) (t_is_matrix : Top K mg "is_matrix" s_is_matrix) (t_is_unit : Top K mg "is_unit" s_is_unit) (t_check_matrix : Top K mg "check_matrix" s_check_matrix) (t__taken_pairs : Top K mg "_taken_pairs" s__taken_pairs) (t_taken : Top K mg "taken" s_taken) (t__inverse : Top K mg "_inverse" s__inverse) (t_undone : Top K mg "undone" s_undone) (t_behind : Top K mg "behind" s_behind) (t__law_stock : Top K mg "_law_stock" s__law_stock) (t__law_pick : Top K mg "_law_pick" s__law_pick) (t__law_alike : Top K mg "_law_alike" s__law_alike) (t__law_low : Top K mg "_law_low" s__law_low) (t__law_plus : Top K mg "_law_plus" s__law_plus) (t__law_minus : Top K mg "_law_minus" s__law_minus) (t__law_times : Top K mg "_law_times" s__law_times) (t__law_mate : Top K mg "_law_mate" s__law_mate) (t__law_by : Top K mg "_law_by" s__law_by) (t__law_sign : Top K mg "_law_sign" s__law_sign) (t__law_under : Top K mg "_law_under" s__law_under) (t__law_whole : Top K mg "_law_whole" s__law_whole) (t__law_is_sense : Top K mg "_law_is_sense" s__law_is_sense) (t__law_add : Top K mg "_law_add" s__law_add) (t__law_taken : Top K mg "_law_taken" s__law_taken) (t__law_inverse : Top K mg "_law_inverse" s__law_inverse) (t__law_undone : Top K mg "_law_undone" s__law_undone) (t__law_behind : Top K mg "_law_behind" s__law_behind) (t__law_is_unit : Top K mg "_law_is_unit" s__law_is_unit) (t__law_is_matrix : Top K mg "_law_is_matrix" s__law_is_matrix) (t__law_unit : Top K mg "_law_unit" s__law_unit) (t__law_matrix : Top K mg "_law_matrix" s__law_matrix) (t__law_near_unit : Top K mg "_law_near_unit" s__law_near_unit) (t__law_near_matrix : Top K mg "_law_near_matrix" s__law_near_matrix) (t__law_right : Top K mg "_law_right" s__law_right) (m_isinstance : mg "isinstance" = none) (m_int : mg "int" = none) (m_bool : mg "bool" = none) (m_tuple : mg "tuple" = none) (m_len : mg "len" = none) (m_str : mg "str" = none) (m_list : mg "list" = none) (m_all : mg "all" = none) (m_zip : mg "zip" = none) (m_abs : mg "abs" = none) (m_range : mg "range" = none) (m_max : mg "max" = none) (m_min : mg "min" = none) (t_KINDS : KT K mg "KINDS" [.int 2, .int 3, .int 5]) (t_ZERO : KT K mg "ZERO" [.int 0, .int 0])
    {f : Addr} {fd : FuncData} (FL : Fun K "law" "law" s_law f fd) : FnOk P w K mg base CX0 8 f fd ["script"] (spP K F_law) := by
  have c_is_integer : Cl P w K mg base 1 "is_integer" ["told"] (spP K F_is_integer) := t_is_integer.cl (fun _ _ _ _ _ _ us hl => match us, hl with | [_], _ => rfl) (fun f fd F => ok_is_integer F m_isinstance m_int m_bool)
  have c_is_whole : Cl P w K mg base 2 "is_whole" ["told"] (spP K F_is_whole) := t_is_whole.cl (fun _ _ _ _ _ _ us hl => match us, hl with | [_], _ => rfl) (fun f fd F => ok_is_whole F c_is_integer m_isinstance m_tuple m_len)
  have c_is_kind : Cl P w K mg base 2 "is_kind" ["told"] (spP K F_is_kind) := t_is_kind.cl (fun _ _ _ _ _ _ us hl => match us, hl with | [_], _ => rfl) (fun f fd F => ok_is_kind F c_is_integer t_KINDS)
  have c_check_kind : Cl P w K mg base 3 "check_kind" ["kind"] (spP K F_check_kind) := t_check_kind.cl (fun _ _ _ _ _ _ us hl => match us, hl with | [_], _ => rfl) (fun f fd F => ok_check_kind F c_is_kind)
  have c_pair_sum : Cl P w K mg base 1 "pair_sum" ["p", "q"] (spP K F_pair_sum) := t_pair_sum.cl (fun _ _ _ _ _ _ us hl => match us, hl with | [_, _], _ => rfl) (fun f fd F => ok_pair_sum F )
  have c_pair_less : Cl P w K mg base 1 "pair_less" ["p", "q"] (spP K F_pair_less) := t_pair_less.cl (fun _ _ _ _ _ _ us hl => match us, hl with | [_, _], _ => rfl) (fun f fd F => ok_pair_less F )
  have c_pair_times : Cl P w K mg base 1 "pair_times" ["kind", "p", "q"] (spP K F_pair_times) := t_pair_times.cl (fun _ _ _ _ _ _ us hl => match us, hl with | [_, _, _], _ => rfl) (fun f fd F => ok_pair_times F )
  have c_pair_mate : Cl P w K mg base 1 "pair_mate" ["kind", "p"] (spP K F_pair_mate) := t_pair_mate.cl (fun _ _ _ _ _ _ us hl => match us, hl with | [_, _], _ => rfl) (fun f fd F => ok_pair_mate F )
  have c_pair_norm : Cl P w K mg base 1 "pair_norm" ["kind", "p"] (spP K F_pair_norm) := t_pair_norm.cl (fun _ _ _ _ _ _ us hl => match us, hl with | [_, _], _ => rfl) (fun f fd F => ok_pair_norm F )
  have c_whole_sign : Cl P w K mg base 1 "whole_sign" ["kind", "a", "b"] (spP K F_whole_sign) := t_whole_sign.cl (fun _ _ _ _ _ _ us hl => match us, hl with | [_, _, _], _ => rfl) (fun f fd F => ok_whole_sign F )
  have c__keeps_sides : Cl P w K mg base 2 "_keeps_sides" ["kind", "pair"] (spP K F__keeps_sides) := t__keeps_sides.cl (fun _ _ _ _ _ _ us hl => match us, hl with | [_, _], _ => rfl) (fun f fd F => ok__keeps_sides F c_pair_mate c_pair_norm c_whole_sign)
  have c__is_pair : Cl P w K mg base 1 "_is_pair" ["told"] (spP K F__is_pair) := t__is_pair.cl (fun _ _ _ _ _ _ us hl => match us, hl with | [_], _ => rfl) (fun f fd F => ok__is_pair F m_isinstance m_tuple m_len)
  have c_is_place : Cl P w K mg base 3 "is_place" ["told"] (spP K F_is_place) := t_is_place.cl (fun _ _ _ _ _ _ us hl => match us, hl with | [_], _ => rfl) (fun f fd F => ok_is_place F c__is_pair c_is_whole)
  have c_check_place : Cl P w K mg base 4 "check_place" ["told"] (spP K F_check_place) := t_check_place.cl (fun _ _ _ _ _ _ us hl => match us, hl with | [_], _ => rfl) (fun f fd F => ok_check_place F c_is_place)
  have c_is_matrix : Cl P w K mg base 4 "is_matrix" ["kind", "told"] (spP K F_is_matrix) := t_is_matrix.cl (fun _ _ _ _ _ _ us hl => match us, hl with | [_, _], _ => rfl) (fun f fd F => ok_is_matrix F c_check_kind c_is_whole c__keeps_sides m_isinstance m_tuple m_len t_ZERO)
  have ck_is_matrix : ClK P w K mg base 4 "is_matrix" ["kind", "told"] ["told", "kind"] [1, 0] (spP K F_is_matrix) := t_is_matrix.clK [1, 0] (by decide) (fun _ _ _ _ _ _ ws hl => match ws, hl with | [_, _], _ => rfl) (fun f fd F => ok_is_matrix F c_check_kind c_is_whole c__keeps_sides m_isinstance m_tuple m_len t_ZERO)
  have c_is_unit : Cl P w K mg base 4 "is_unit" ["kind", "told"] (spP K F_is_unit) := t_is_unit.cl (fun _ _ _ _ _ _ us hl => match us, hl with | [_, _], _ => rfl) (fun f fd F => ok_is_unit F c_check_kind c_is_whole c__keeps_sides c_whole_sign)
  have ck_is_unit : ClK P w K mg base 4 "is_unit" ["kind", "told"] ["told", "kind"] [1, 0] (spP K F_is_unit) := t_is_unit.clK [1, 0] (by decide) (fun _ _ _ _ _ _ ws hl => match ws, hl with | [_, _], _ => rfl) (fun f fd F => ok_is_unit F c_check_kind c_is_whole c__keeps_sides c_whole_sign)
  have c_check_matrix : Cl P w K mg base 5 "check_matrix" ["kind", "told"] (spP K F_check_matrix) := t_check_matrix.cl (fun _ _ _ _ _ _ us hl => match us, hl with | [_, _], _ => rfl) (fun f fd F => ok_check_matrix F c_is_matrix)
  have c__taken_pairs : Cl P w K mg base 2 "_taken_pairs" ["kind", "matrix", "x", "y"] (spP K F__taken_pairs) := t__taken_pairs.cl (fun _ _ _ _ _ _ us hl => match us, hl with | [_, _, _, _], _ => rfl) (fun f fd F => ok__taken_pairs F c_pair_sum c_pair_times)
  have c_taken : Cl P w K mg base 6 "taken" ["kind", "matrix", "place"] (spP K F_taken) := t_taken.cl (fun _ _ _ _ _ _ us hl => match us, hl with | [_, _, _], _ => rfl) (fun f fd F => ok_taken F c_check_kind c_check_matrix c_check_place c__taken_pairs)
  have ck_taken : ClK P w K mg base 6 "taken" ["kind", "matrix", "place"] ["place", "matrix", "kind"] [2, 1, 0] (spP K F_taken) := t_taken.clK [2, 1, 0] (by decide) (fun _ _ _ _ _ _ ws hl => match ws, hl with | [_, _, _], _ => rfl) (fun f fd F => ok_taken F c_check_kind c_check_matrix c_check_place c__taken_pairs)
  have c__inverse : Cl P w K mg base 2 "_inverse" ["kind", "pair"] (spP K F__inverse) := t__inverse.cl (fun _ _ _ _ _ _ us hl => match us, hl with | [_, _], _ => rfl) (fun f fd F => ok__inverse F c_pair_mate c_pair_norm)
  have c_undone : Cl P w K mg base 6 "undone" ["kind", "matrix"] (spP K F_undone) := t_undone.cl (fun _ _ _ _ _ _ us hl => match us, hl with | [_, _], _ => rfl) (fun f fd F => ok_undone F c_check_kind c_check_matrix c__inverse c_pair_times c_pair_less t_ZERO)
  have ck_undone : ClK P w K mg base 6 "undone" ["kind", "matrix"] ["matrix", "kind"] [1, 0] (spP K F_undone) := t_undone.clK [1, 0] (by decide) (fun _ _ _ _ _ _ ws hl => match ws, hl with | [_, _], _ => rfl) (fun f fd F => ok_undone F c_check_kind c_check_matrix c__inverse c_pair_times c_pair_less t_ZERO)
  have c_behind : Cl P w K mg base 6 "behind" ["kind", "one", "other"] (spP K F_behind) := t_behind.cl (fun _ _ _ _ _ _ us hl => match us, hl with | [_, _, _], _ => rfl) (fun f fd F => ok_behind F c_check_kind c_check_matrix c__taken_pairs t_ZERO)
  have ck_behind : ClK P w K mg base 6 "behind" ["kind", "one", "other"] ["other", "one", "kind"] [2, 1, 0] (spP K F_behind) := t_behind.clK [2, 1, 0] (by decide) (fun _ _ _ _ _ _ ws hl => match ws, hl with | [_, _, _], _ => rfl) (fun f fd F => ok_behind F c_check_kind c_check_matrix c__taken_pairs t_ZERO)
  have c__law_stock : Cl P w K mg base 1 "_law_stock" ["script", "spot"] (spN K F__law_stock) := t__law_stock.cl (fun _ _ _ _ _ _ us hl => match us, hl with | [_, _], _ => rfl) (fun f fd F => ok__law_stock F m_len m_int)
  have c__law_pick : Cl P w K mg base 1 "_law_pick" ["stock", "many"] (spD K F__law_pick) := t__law_pick.cl (fun _ _ _ _ _ _ us hl => match us, hl with | [_, _], _ => rfl) (fun f fd F => ok__law_pick F m_int)
  have c__law_alike : Cl P w K mg base 5 "_law_alike" ["thing", "due"] (spP K (F__law_alike 4)) := by
    obtain ⟨f, fd, hm, F⟩ := t__law_alike.ex
    have hb : Binds K fd ["thing", "due"] [] := F.binds (fun _ _ _ _ _ _ us hl => match us, hl with | [_, _], _ => rfl)
    exact ⟨f, fd, hm, F.kp, hb, ok__law_alike F hm F.kp hb m_isinstance m_bool m_int m_str m_tuple m_list m_len m_all m_zip 4⟩
  have c__law_low : Cl P w K mg base 1 "_law_low" ["a", "b", "n"] (spP K F__law_low) := t__law_low.cl (fun _ _ _ _ _ _ us hl => match us, hl with | [_, _, _], _ => rfl) (fun f fd F => ok__law_low F m_abs m_int)
  have c__law_plus : Cl P w K mg base 2 "_law_plus" ["p", "q"] (spP K F__law_plus) := t__law_plus.cl (fun _ _ _ _ _ _ us hl => match us, hl with | [_, _], _ => rfl) (fun f fd F => ok__law_plus F c__law_low)
  have c__law_minus : Cl P w K mg base 3 "_law_minus" ["p", "q"] (spP K F__law_minus) := t__law_minus.cl (fun _ _ _ _ _ _ us hl => match us, hl with | [_, _], _ => rfl) (fun f fd F => ok__law_minus F c__law_plus)
  have c__law_times : Cl P w K mg base 2 "_law_times" ["kind", "p", "q"] (spP K F__law_times) := t__law_times.cl (fun _ _ _ _ _ _ us hl => match us, hl with | [_, _, _], _ => rfl) (fun f fd F => ok__law_times F c__law_low)
  have c__law_mate : Cl P w K mg base 2 "_law_mate" ["kind", "p"] (spP K F__law_mate) := t__law_mate.cl (fun _ _ _ _ _ _ us hl => match us, hl with | [_, _], _ => rfl) (fun f fd F => ok__law_mate F c__law_low)
  have c__law_by : Cl P w K mg base 3 "_law_by" ["kind", "p", "q"] (spP K F__law_by) := t__law_by.cl (fun _ _ _ _ _ _ us hl => match us, hl with | [_, _, _], _ => rfl) (fun f fd F => ok__law_by F c__law_mate c__law_times c__law_low)
  have c__law_sign : Cl P w K mg base 1 "_law_sign" ["kind", "p"] (spP K F__law_sign) := t__law_sign.cl (fun _ _ _ _ _ _ us hl => match us, hl with | [_, _], _ => rfl) (fun f fd F => ok__law_sign F m_int)
  have c__law_under : Cl P w K mg base 4 "_law_under" ["kind", "p", "q"] (spP K F__law_under) := t__law_under.cl (fun _ _ _ _ _ _ us hl => match us, hl with | [_, _, _], _ => rfl) (fun f fd F => ok__law_under F c__law_sign c__law_minus)
  have c__law_whole : Cl P w K mg base 3 "_law_whole" ["kind", "p", "q"] (spP K F__law_whole) := t__law_whole.cl (fun _ _ _ _ _ _ us hl => match us, hl with | [_, _, _], _ => rfl) (fun f fd F => ok__law_whole F c__law_times)
  have c__law_is_sense : Cl P w K mg base 3 "_law_is_sense" ["kind", "told"] (spP K F__law_is_sense) := t__law_is_sense.cl (fun _ _ _ _ _ _ us hl => match us, hl with | [_, _], _ => rfl) (fun f fd F => ok__law_is_sense F c__law_mate c__law_times c__law_sign)
  have c__law_add : Cl P w K mg base 1 "_law_add" ["p", "q"] (spP K F__law_add) := t__law_add.cl (fun _ _ _ _ _ _ us hl => match us, hl with | [_, _], _ => rfl) (fun f fd F => ok__law_add F )
  have c__law_taken : Cl P w K mg base 4 "_law_taken" ["kind", "matrix", "place"] (spP K F__law_taken) := t__law_taken.cl (fun _ _ _ _ _ _ us hl => match us, hl with | [_, _, _], _ => rfl) (fun f fd F => ok__law_taken F c__law_add c__law_whole)
  have c__law_inverse : Cl P w K mg base 4 "_law_inverse" ["kind", "p"] (spP K F__law_inverse) := t__law_inverse.cl (fun _ _ _ _ _ _ us hl => match us, hl with | [_, _], _ => rfl) (fun f fd F => ok__law_inverse F c__law_by)
  have c__law_undone : Cl P w K mg base 5 "_law_undone" ["kind", "matrix"] (spP K F__law_undone) := t__law_undone.cl (fun _ _ _ _ _ _ us hl => match us, hl with | [_, _], _ => rfl) (fun f fd F => ok__law_undone F c__law_inverse c__law_whole)
  have c__law_behind : Cl P w K mg base 4 "_law_behind" ["kind", "one", "two"] (spP K F__law_behind) := t__law_behind.cl (fun _ _ _ _ _ _ us hl => match us, hl with | [_, _, _], _ => rfl) (fun f fd F => ok__law_behind F c__law_add c__law_whole)
  have c__law_is_unit : Cl P w K mg base 4 "_law_is_unit" ["kind", "told"] (spP K F__law_is_unit) := t__law_is_unit.cl (fun _ _ _ _ _ _ us hl => match us, hl with | [_, _], _ => rfl) (fun f fd F => ok__law_is_unit F c__law_is_sense c__law_sign)
  have c__law_is_matrix : Cl P w K mg base 4 "_law_is_matrix" ["kind", "told"] (spP K F__law_is_matrix) := t__law_is_matrix.cl (fun _ _ _ _ _ _ us hl => match us, hl with | [_, _], _ => rfl) (fun f fd F => ok__law_is_matrix F c__law_is_sense)
  have c__law_unit : Cl P w K mg base 5 "_law_unit" ["stock", "kind", "most"] (spD K F__law_unit) := t__law_unit.cl (fun _ _ _ _ _ _ us hl => match us, hl with | [_, _, _], _ => rfl) (fun f fd F => ok__law_unit F c__law_pick c__law_whole c__law_mate c__law_times c__law_sign c__law_under m_range)
  have c__law_matrix : Cl P w K mg base 6 "_law_matrix" ["stock", "kind"] (spD K F__law_matrix) := t__law_matrix.cl (fun _ _ _ _ _ _ us hl => match us, hl with | [_, _], _ => rfl) (fun f fd F => ok__law_matrix F c__law_pick c__law_unit)
  have c__law_near_unit : Cl P w K mg base 6 "_law_near_unit" ["stock", "kind"] (spD K F__law_near_unit) := t__law_near_unit.cl (fun _ _ _ _ _ _ us hl => match us, hl with | [_, _], _ => rfl) (fun f fd F => ok__law_near_unit F c__law_unit c__law_pick)
  have c__law_near_matrix : Cl P w K mg base 7 "_law_near_matrix" ["stock", "kind"] (spD K F__law_near_matrix) := t__law_near_matrix.cl (fun _ _ _ _ _ _ us hl => match us, hl with | [_, _], _ => rfl) (fun f fd F => ok__law_near_matrix F c__law_matrix c__law_near_unit c__law_pick)
  have c__law_right : Cl P w K mg base 7 "_law_right" ["kind", "one", "two", "place"] (spP K F__law_right) := t__law_right.cl (fun _ _ _ _ _ _ us hl => match us, hl with | [_, _, _, _], _ => rfl) (fun f fd F => ok__law_right F c__law_taken c__law_undone c__law_behind c__law_alike c_taken c_undone c_behind ck_taken ck_undone ck_behind)
  exact ok_law FL c__law_stock c__law_pick c__law_matrix c__law_right c__law_near_unit c__law_near_matrix c__law_is_unit c__law_is_matrix c__law_alike c_is_unit c_is_matrix ck_is_unit ck_is_matrix m_range m_max m_min m_len
theorem dvs_ints {K : PySem.W.Frag} {o : Os} {H : Hp} (is : List Int) : DVs K o H (is.map V.int) (is.map Dat.int) := by
  induction is with
  | nil => exact DVs.nil
  | cons i is ih => exact DVs.cons (.int i) ih
theorem law_pre {K : PySem.W.Frag} {H : Hp} {a : Addr} {ns : List Int} (hl : ns.length ≤ 63) (hS : SqL K H a (ns.map V.int)) : spP K F_law [.ref a] H (fun v _ => v = .bl true) (fun _ _ _ => False) :=
  ⟨[.lst (ns.map Dat.int)], fun d => d = .bl true, DTs.cons (.v (.lstS (LS.of hS) (dvs_ints ns))) DTs.nil, ⟨ns, rfl, hl, rfl⟩, fun d hd v H' _ h => by cases hd; cases h; rfl⟩
theorem law_done {P : Program} {w : World} {K : PySem.W.Frag} {h : Heap} {mg : Str → Option Value} {fa f : Addr} (X : K.In h) (G : h.Ns mainGlobals mg) (hfa : mg "law" = some (.ref fa))
    (t_is_integer : Top K mg "is_integer" s_is_integer) (t_is_whole : Top K mg "is_whole" s_is_whole) (t_is_kind : Top K mg "is_kind" s_is_kind) (t_check_kind : Top K mg "check_kind" s_check_kind) (t_pair_sum : Top K mg "pair_sum" s_pair_sum) (t_pair_less : Top K mg "pair_less" s_pair_less) (t_pair_times : Top K mg "pair_times" s_pair_times) (t_pair_mate : Top K mg "pair_mate" s_pair_mate) (t_pair_norm : Top K mg "pair_norm" s_pair_norm) (t_whole_sign : Top K mg "whole_sign" s_whole_sign) (t__keeps_sides : Top K mg "_keeps_sides" s__keeps_sides) (t__is_pair : Top K mg "_is_pair" s__is_pair) (t_is_place : Top K mg "is_place" s_is_place) (t_check_place : Top K mg "check_place" s_check_place) (t_is_matrix : Top K mg "is_matrix" s_is_matrix) (t_is_unit : Top K mg "is_unit" s_is_unit) (t_check_matrix : Top K mg "check_matrix" s_check_matrix) (t__taken_pairs : Top K mg "_taken_pairs" s__taken_pairs) (t_taken : Top K mg "taken" s_taken) (t__inverse : Top K mg "_inverse" s__inverse) (t_undone : Top K mg "undone" s_undone) (t_behind : Top K mg "behind" s_behind) (t__law_stock : Top K mg "_law_stock" s__law_stock) (t__law_pick : Top K mg "_law_pick" s__law_pick) (t__law_alike : Top K mg "_law_alike" s__law_alike) (t__law_low : Top K mg "_law_low" s__law_low) (t__law_plus : Top K mg "_law_plus" s__law_plus) (t__law_minus : Top K mg "_law_minus" s__law_minus) (t__law_times : Top K mg "_law_times" s__law_times) (t__law_mate : Top K mg "_law_mate" s__law_mate) (t__law_by : Top K mg "_law_by" s__law_by) (t__law_sign : Top K mg "_law_sign" s__law_sign) (t__law_under : Top K mg "_law_under" s__law_under) (t__law_whole : Top K mg "_law_whole" s__law_whole) (t__law_is_sense : Top K mg "_law_is_sense" s__law_is_sense) (t__law_add : Top K mg "_law_add" s__law_add) (t__law_taken : Top K mg "_law_taken" s__law_taken) (t__law_inverse : Top K mg "_law_inverse" s__law_inverse) (t__law_undone : Top K mg "_law_undone" s__law_undone) (t__law_behind : Top K mg "_law_behind" s__law_behind) (t__law_is_unit : Top K mg "_law_is_unit" s__law_is_unit) (t__law_is_matrix : Top K mg "_law_is_matrix" s__law_is_matrix) (t__law_unit : Top K mg "_law_unit" s__law_unit) (t__law_matrix : Top K mg "_law_matrix" s__law_matrix) (t__law_near_unit : Top K mg "_law_near_unit" s__law_near_unit) (t__law_near_matrix : Top K mg "_law_near_matrix" s__law_near_matrix) (t__law_right : Top K mg "_law_right" s__law_right) (m_isinstance : mg "isinstance" = none) (m_int : mg "int" = none) (m_bool : mg "bool" = none) (m_tuple : mg "tuple" = none) (m_len : mg "len" = none) (m_str : mg "str" = none) (m_list : mg "list" = none) (m_all : mg "all" = none) (m_zip : mg "zip" = none) (m_abs : mg "abs" = none) (m_range : mg "range" = none) (m_max : mg "max" = none) (m_min : mg "min" = none) (t_KINDS : KT K mg "KINDS" [.int 2, .int 3, .int 5]) (t_ZERO : KT K mg "ZERO" [.int 0, .int 0])
    {oc : Value} {od an : Option Addr} {osl : Array (Option Value)} {kV doc pm cdv ct : Value}
    (a : PySem.W.nsIn K mainGlobals "law" = some (some (.ref f))) (l : K.lookup f = some ⟨oc, od, .func (PySem.W.fnOf "law" "law" (defArgs s_law) (defBody s_law) (defScope s_law) .none kV doc pm an cdv ct), osl⟩) (c : PySem.W.codeIn K cdv "law" = true) (k : PySem.W.keepIn K (.ref f) = true) :
    ∃ fd : FuncData, (∀ (s : Shared) (v : Value), BindsTo s fd ⟨[v], []⟩ [("script", v)]) ∧ ∀ base : Heap, K.In base → base.Ns mainGlobals mg → FnOk P w K mg base CX0 8 fa fd ["script"] (spP K F_law) := by
  have e := hfa.symm.trans (PySem.W.mg_of X G a)
  cases e
  exact ⟨_, fun s v => .of_eq rfl, fun base _ _ => law_all t_is_integer t_is_whole t_is_kind t_check_kind t_pair_sum t_pair_less t_pair_times t_pair_mate t_pair_norm t_whole_sign t__keeps_sides t__is_pair t_is_place t_check_place t_is_matrix t_is_unit t_check_matrix t__taken_pairs t_taken t__inverse t_undone t_behind t__law_stock t__law_pick t__law_alike t__law_low t__law_plus t__law_minus t__law_times t__law_mate t__law_by t__law_sign t__law_under t__law_whole t__law_is_sense t__law_add t__law_taken t__law_inverse t__law_undone t__law_behind t__law_is_unit t__law_is_matrix t__law_unit t__law_matrix t__law_near_unit t__law_near_matrix t__law_right m_isinstance m_int m_bool m_tuple m_len m_str m_list m_all m_zip m_abs m_range m_max m_min t_KINDS t_ZERO (fun_mk (st := s_law) l c k)⟩
end Y29
set_option Elab.async false
set_option linter.all false
open PySem PySem.W PyProof.Rows
set_option maxRecDepth 100000 in
set_option maxHeartbeats 0 in
theorem PySem.Challenge.cw_wholefloors_k29_whole_units_and_matrices_holds : PySem.Challenge.rw_wholefloors_k29_whole_units_and_matrices.Holds := by
  w_on; o_law; k_head; (case hw => w_witness2)
  k_fill
  refine L2.walk_ofK (l := PySem.Challenge.rw_wholefloors_k29_whole_units_and_matrices) (n := 63) (k := 8) (x := "script") (CX := L2.CX0) (sp := fun K => Wz.spP K Y29.F_law) rfl (by decide) rfl ⟨rfl, by decide, by decide⟩ (fun w h Y => PySem.W.kIn_of Y) ?F (fun K H a ns hl _ hS => Y29.law_pre hl hS) (fun _ _ _ _ h => h)
  case F =>
    intro w mg fa h KX G hmg
    have t_is_integer := by
      refine' Y29.top_mk (x := "is_integer") (st := Y29.s_is_integer) KX G ?a ?l ?c ?k
      (case a => k_is); (case l => k_is); (case c => k_is); (case k => k_is)
    have t_is_whole := by
      refine' Y29.top_mk (x := "is_whole") (st := Y29.s_is_whole) KX G ?a ?l ?c ?k
      (case a => k_is); (case l => k_is); (case c => k_is); (case k => k_is)
    have t_is_kind := by
      refine' Y29.top_mk (x := "is_kind") (st := Y29.s_is_kind) KX G ?a ?l ?c ?k
      (case a => k_is); (case l => k_is); (case c => k_is); (case k => k_is)
    have t_check_kind := by
      refine' Y29.top_mk (x := "check_kind") (st := Y29.s_check_kind) KX G ?a ?l ?c ?k
      (case a => k_is); (case l => k_is); (case c => k_is); (case k => k_is)
    have t_pair_sum := by
      refine' Y29.top_mk (x := "pair_sum") (st := Y29.s_pair_sum) KX G ?a ?l ?c ?k
      (case a => k_is); (case l => k_is); (case c => k_is); (case k => k_is)
    have t_pair_less := by
      refine' Y29.top_mk (x := "pair_less") (st := Y29.s_pair_less) KX G ?a ?l ?c ?k
      (case a => k_is); (case l => k_is); (case c => k_is); (case k => k_is)
    have t_pair_times := by
      refine' Y29.top_mk (x := "pair_times") (st := Y29.s_pair_times) KX G ?a ?l ?c ?k
      (case a => k_is); (case l => k_is); (case c => k_is); (case k => k_is)
    have t_pair_mate := by
      refine' Y29.top_mk (x := "pair_mate") (st := Y29.s_pair_mate) KX G ?a ?l ?c ?k
      (case a => k_is); (case l => k_is); (case c => k_is); (case k => k_is)
    have t_pair_norm := by
      refine' Y29.top_mk (x := "pair_norm") (st := Y29.s_pair_norm) KX G ?a ?l ?c ?k
      (case a => k_is); (case l => k_is); (case c => k_is); (case k => k_is)
    have t_whole_sign := by
      refine' Y29.top_mk (x := "whole_sign") (st := Y29.s_whole_sign) KX G ?a ?l ?c ?k
      (case a => k_is); (case l => k_is); (case c => k_is); (case k => k_is)
    have t__keeps_sides := by
      refine' Y29.top_mk (x := "_keeps_sides") (st := Y29.s__keeps_sides) KX G ?a ?l ?c ?k
      (case a => k_is); (case l => k_is); (case c => k_is); (case k => k_is)
    have t__is_pair := by
      refine' Y29.top_mk (x := "_is_pair") (st := Y29.s__is_pair) KX G ?a ?l ?c ?k
      (case a => k_is); (case l => k_is); (case c => k_is); (case k => k_is)
    have t_is_place := by
      refine' Y29.top_mk (x := "is_place") (st := Y29.s_is_place) KX G ?a ?l ?c ?k
      (case a => k_is); (case l => k_is); (case c => k_is); (case k => k_is)
    have t_check_place := by
      refine' Y29.top_mk (x := "check_place") (st := Y29.s_check_place) KX G ?a ?l ?c ?k
      (case a => k_is); (case l => k_is); (case c => k_is); (case k => k_is)
    have t_is_matrix := by
      refine' Y29.top_mk (x := "is_matrix") (st := Y29.s_is_matrix) KX G ?a ?l ?c ?k
      (case a => k_is); (case l => k_is); (case c => k_is); (case k => k_is)
    have t_is_unit := by
      refine' Y29.top_mk (x := "is_unit") (st := Y29.s_is_unit) KX G ?a ?l ?c ?k
      (case a => k_is); (case l => k_is); (case c => k_is); (case k => k_is)
    have t_check_matrix := by
      refine' Y29.top_mk (x := "check_matrix") (st := Y29.s_check_matrix) KX G ?a ?l ?c ?k
      (case a => k_is); (case l => k_is); (case c => k_is); (case k => k_is)
    have t__taken_pairs := by
      refine' Y29.top_mk (x := "_taken_pairs") (st := Y29.s__taken_pairs) KX G ?a ?l ?c ?k
      (case a => k_is); (case l => k_is); (case c => k_is); (case k => k_is)
    have t_taken := by
      refine' Y29.top_mk (x := "taken") (st := Y29.s_taken) KX G ?a ?l ?c ?k
      (case a => k_is); (case l => k_is); (case c => k_is); (case k => k_is)
    have t__inverse := by
      refine' Y29.top_mk (x := "_inverse") (st := Y29.s__inverse) KX G ?a ?l ?c ?k
      (case a => k_is); (case l => k_is); (case c => k_is); (case k => k_is)
    have t_undone := by
      refine' Y29.top_mk (x := "undone") (st := Y29.s_undone) KX G ?a ?l ?c ?k
      (case a => k_is); (case l => k_is); (case c => k_is); (case k => k_is)
    have t_behind := by
      refine' Y29.top_mk (x := "behind") (st := Y29.s_behind) KX G ?a ?l ?c ?k
      (case a => k_is); (case l => k_is); (case c => k_is); (case k => k_is)
    have t__law_stock := by
      refine' Y29.top_mk (x := "_law_stock") (st := Y29.s__law_stock) KX G ?a ?l ?c ?k
      (case a => k_is); (case l => k_is); (case c => k_is); (case k => k_is)
    have t__law_pick := by
      refine' Y29.top_mk (x := "_law_pick") (st := Y29.s__law_pick) KX G ?a ?l ?c ?k
      (case a => k_is); (case l => k_is); (case c => k_is); (case k => k_is)
    have t__law_alike := by
      refine' Y29.top_mk (x := "_law_alike") (st := Y29.s__law_alike) KX G ?a ?l ?c ?k
      (case a => k_is); (case l => k_is); (case c => k_is); (case k => k_is)
    have t__law_low := by
      refine' Y29.top_mk (x := "_law_low") (st := Y29.s__law_low) KX G ?a ?l ?c ?k
      (case a => k_is); (case l => k_is); (case c => k_is); (case k => k_is)
    have t__law_plus := by
      refine' Y29.top_mk (x := "_law_plus") (st := Y29.s__law_plus) KX G ?a ?l ?c ?k
      (case a => k_is); (case l => k_is); (case c => k_is); (case k => k_is)
    have t__law_minus := by
      refine' Y29.top_mk (x := "_law_minus") (st := Y29.s__law_minus) KX G ?a ?l ?c ?k
      (case a => k_is); (case l => k_is); (case c => k_is); (case k => k_is)
    have t__law_times := by
      refine' Y29.top_mk (x := "_law_times") (st := Y29.s__law_times) KX G ?a ?l ?c ?k
      (case a => k_is); (case l => k_is); (case c => k_is); (case k => k_is)
    have t__law_mate := by
      refine' Y29.top_mk (x := "_law_mate") (st := Y29.s__law_mate) KX G ?a ?l ?c ?k
      (case a => k_is); (case l => k_is); (case c => k_is); (case k => k_is)
    have t__law_by := by
      refine' Y29.top_mk (x := "_law_by") (st := Y29.s__law_by) KX G ?a ?l ?c ?k
      (case a => k_is); (case l => k_is); (case c => k_is); (case k => k_is)
    have t__law_sign := by
      refine' Y29.top_mk (x := "_law_sign") (st := Y29.s__law_sign) KX G ?a ?l ?c ?k
      (case a => k_is); (case l => k_is); (case c => k_is); (case k => k_is)
    have t__law_under := by
      refine' Y29.top_mk (x := "_law_under") (st := Y29.s__law_under) KX G ?a ?l ?c ?k
      (case a => k_is); (case l => k_is); (case c => k_is); (case k => k_is)
    have t__law_whole := by
      refine' Y29.top_mk (x := "_law_whole") (st := Y29.s__law_whole) KX G ?a ?l ?c ?k
      (case a => k_is); (case l => k_is); (case c => k_is); (case k => k_is)
    have t__law_is_sense := by
      refine' Y29.top_mk (x := "_law_is_sense") (st := Y29.s__law_is_sense) KX G ?a ?l ?c ?k
      (case a => k_is); (case l => k_is); (case c => k_is); (case k => k_is)
    have t__law_add := by
      refine' Y29.top_mk (x := "_law_add") (st := Y29.s__law_add) KX G ?a ?l ?c ?k
      (case a => k_is); (case l => k_is); (case c => k_is); (case k => k_is)
    have t__law_taken := by
      refine' Y29.top_mk (x := "_law_taken") (st := Y29.s__law_taken) KX G ?a ?l ?c ?k
      (case a => k_is); (case l => k_is); (case c => k_is); (case k => k_is)
    have t__law_inverse := by
      refine' Y29.top_mk (x := "_law_inverse") (st := Y29.s__law_inverse) KX G ?a ?l ?c ?k
      (case a => k_is); (case l => k_is); (case c => k_is); (case k => k_is)
    have t__law_undone := by
      refine' Y29.top_mk (x := "_law_undone") (st := Y29.s__law_undone) KX G ?a ?l ?c ?k
      (case a => k_is); (case l => k_is); (case c => k_is); (case k => k_is)
    have t__law_behind := by
      refine' Y29.top_mk (x := "_law_behind") (st := Y29.s__law_behind) KX G ?a ?l ?c ?k
      (case a => k_is); (case l => k_is); (case c => k_is); (case k => k_is)
    have t__law_is_unit := by
      refine' Y29.top_mk (x := "_law_is_unit") (st := Y29.s__law_is_unit) KX G ?a ?l ?c ?k
      (case a => k_is); (case l => k_is); (case c => k_is); (case k => k_is)
    have t__law_is_matrix := by
      refine' Y29.top_mk (x := "_law_is_matrix") (st := Y29.s__law_is_matrix) KX G ?a ?l ?c ?k
      (case a => k_is); (case l => k_is); (case c => k_is); (case k => k_is)
    have t__law_unit := by
      refine' Y29.top_mk (x := "_law_unit") (st := Y29.s__law_unit) KX G ?a ?l ?c ?k
      (case a => k_is); (case l => k_is); (case c => k_is); (case k => k_is)
    have t__law_matrix := by
      refine' Y29.top_mk (x := "_law_matrix") (st := Y29.s__law_matrix) KX G ?a ?l ?c ?k
      (case a => k_is); (case l => k_is); (case c => k_is); (case k => k_is)
    have t__law_near_unit := by
      refine' Y29.top_mk (x := "_law_near_unit") (st := Y29.s__law_near_unit) KX G ?a ?l ?c ?k
      (case a => k_is); (case l => k_is); (case c => k_is); (case k => k_is)
    have t__law_near_matrix := by
      refine' Y29.top_mk (x := "_law_near_matrix") (st := Y29.s__law_near_matrix) KX G ?a ?l ?c ?k
      (case a => k_is); (case l => k_is); (case c => k_is); (case k => k_is)
    have t__law_right := by
      refine' Y29.top_mk (x := "_law_right") (st := Y29.s__law_right) KX G ?a ?l ?c ?k
      (case a => k_is); (case l => k_is); (case c => k_is); (case k => k_is)
    have m_isinstance := by
      refine' PySem.W.mg_none_of (n := "isinstance") KX G ?a
      (case a => k_is)
    have m_int := by
      refine' PySem.W.mg_none_of (n := "int") KX G ?a
      (case a => k_is)
    have m_bool := by
      refine' PySem.W.mg_none_of (n := "bool") KX G ?a
      (case a => k_is)
    have m_tuple := by
      refine' PySem.W.mg_none_of (n := "tuple") KX G ?a
      (case a => k_is)
    have m_len := by
      refine' PySem.W.mg_none_of (n := "len") KX G ?a
      (case a => k_is)
    have m_str := by
      refine' PySem.W.mg_none_of (n := "str") KX G ?a
      (case a => k_is)
    have m_list := by
      refine' PySem.W.mg_none_of (n := "list") KX G ?a
      (case a => k_is)
    have m_all := by
      refine' PySem.W.mg_none_of (n := "all") KX G ?a
      (case a => k_is)
    have m_zip := by
      refine' PySem.W.mg_none_of (n := "zip") KX G ?a
      (case a => k_is)
    have m_abs := by
      refine' PySem.W.mg_none_of (n := "abs") KX G ?a
      (case a => k_is)
    have m_range := by
      refine' PySem.W.mg_none_of (n := "range") KX G ?a
      (case a => k_is)
    have m_max := by
      refine' PySem.W.mg_none_of (n := "max") KX G ?a
      (case a => k_is)
    have m_min := by
      refine' PySem.W.mg_none_of (n := "min") KX G ?a
      (case a => k_is)
    have t_KINDS := by
      refine' Y29.kt_mk (x := "KINDS") KX G ?a ?l
      (case a => k_is); (case l => k_is)
    have t_ZERO := by
      refine' Y29.kt_mk2 (x := "ZERO") KX G ?a ?l
      (case a => k_is); (case l => k_is)
    refine' Y29.law_done KX G hmg t_is_integer t_is_whole t_is_kind t_check_kind t_pair_sum t_pair_less t_pair_times t_pair_mate t_pair_norm t_whole_sign t__keeps_sides t__is_pair t_is_place t_check_place t_is_matrix t_is_unit t_check_matrix t__taken_pairs t_taken t__inverse t_undone t_behind t__law_stock t__law_pick t__law_alike t__law_low t__law_plus t__law_minus t__law_times t__law_mate t__law_by t__law_sign t__law_under t__law_whole t__law_is_sense t__law_add t__law_taken t__law_inverse t__law_undone t__law_behind t__law_is_unit t__law_is_matrix t__law_unit t__law_matrix t__law_near_unit t__law_near_matrix t__law_right m_isinstance m_int m_bool m_tuple m_len m_str m_list m_all m_zip m_abs m_range m_max m_min t_KINDS t_ZERO ?a ?l2 ?c2 ?k2
    (case a => k_is); (case l2 => k_is); (case c2 => k_is); (case k2 => k_is)

