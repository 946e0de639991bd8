import PyProof.Rows.All
import Wide.All
import OpenK.AllK
import Wide.FinOn
import PyProof.EqAt
import PyProof.EqKinds
import PyProof.TupleCall
import PyProof.NoPylong
import PyProof.Fits
import HandS.ForMost
import HandS.ForExc
import HandS.Wide
import HandS.Gcd
import HandS.ExcInit
import HandS.ExcField
import HandS.TryMany
import HandS.IsInst
import HandS.Flow
import HandS.Evl
import HandS.Style
import HandS.More
import HandS.TupAny
import HandS.Zip
import HandS.Deep
import HandS.NoneIn
import HandS.Walk
import PyProof.P3In
import Flt.RightSqrt
import KE.KMathG
import HandS.List
import HandS.Call
import HandS.WideBits
import HandS.SortRule
import HandS.Conv
import PySem.Challenge.RW_wholefloors_k37_whole_members_by_boxes
set_option Elab.async false
set_option linter.all false
set_option maxRecDepth 100000
set_option maxHeartbeats 4000000
/-! Lz: what a piece of a def does, by data; some lists (the cells) may be written; what is wanted of an outcome is told behind it. -/
namespace Wz
open PySem PySem.Spec PyProof.Rows L2 Evl

/-! ### the least that is asked -/
def WE (X : Cx) (e : Expr) (st : L2.St) (H : Hp) (Q : VK) : Prop :=
  ∀ (pins : List (Addr × Obj)) (s : Shared), Inv X pins st H s → wpAny (model X.prog X.w) X.A (eval e X.env) (EP X pins st Q) X.xe s
def WT (X : Cx) (e : Expr) (st : L2.St) (H : Hp) (Q : Bool → Hp → Prop) : Prop :=
  ∀ (pins : List (Addr × Obj)) (s : Shared), Inv X pins st H s → wpAny (model X.prog X.w) X.A (isTrue e X.env (eval e X.env)) (TP X pins st Q) X.xe s
def WW (X : Cx) (e : Expr) (st : L2.St) (H : Hp) (Q : Bool → Hp → Prop) : Prop :=
  ∀ (wh : Sem Value) (pins : List (Addr × Obj)) (s : Shared), Inv X pins st H s → wpAny (model X.prog X.w) X.A (isTrue e X.env wh) (TP X pins st Q) X.xe s
def WA (X : Cx) (es : List Expr) (st : L2.St) (H : Hp) (Q : List V → Hp → Prop) : Prop :=
  ∀ (pos : Pos) (pins : List (Addr × Obj)) (s : Shared), Inv X pins st H s → wpAny (model X.prog X.w) X.A (spliced (backTo pos (starEach es X.env))) (AP X pins st Q) X.xe s
def WK (X : Cx) (ks : List Keyword) (st : L2.St) (H : Hp) (Q : List V → Hp → Prop) : Prop :=
  ∀ (pos : Pos) (pins : List (Addr × Obj)) (s : Shared), Inv X pins st H s → wpAny (model X.prog X.w) X.A (evalAll ((backToKw pos (keywordEach ks X.env)).map (·.2))) (AP X pins st Q) X.xe s
def WS (X : Cx) (e : Stmt) (D : Ends) (st : L2.St) (H : Hp) : Prop :=
  ∀ (pins : List (Addr × Obj)) (s : Shared), Inv X pins st H s → wpAny (model X.prog X.w) X.A (exec e X.env) (SP X pins D) X.xe s
def WB (X : Cx) (es : List Stmt) (D : Ends) (st : L2.St) (H : Hp) : Prop :=
  ∀ (pins : List (Addr × Obj)) (s : Shared), Inv X pins st H s → wpAny (model X.prog X.w) X.A (execs es X.env) (SP X pins D) X.xe s
section
variable {X : Cx}
theorem pe_w {e : Expr} : PE X e (WE X e) := ⟨fun pins s _ _ _ I h => h pins s I⟩
theorem pt_w {e : Expr} : PT X e (WT X e) := ⟨fun pins s _ _ _ I h => h pins s I⟩
theorem pw_w {e : Expr} : PW X e (WW X e) := ⟨fun wh pins s _ _ _ I h => h wh pins s I⟩
theorem pa_w {es : List Expr} : PA X es (WA X es) := ⟨fun pos pins s _ _ _ I h => h pos pins s I⟩
theorem pk_w {es : List Keyword} : PK X es (WK X es) := ⟨fun pos pins s _ _ _ I h => h pos pins s I⟩
theorem ps_w {e : Stmt} : PS X e (WS X e) := ⟨fun pins s _ _ _ I h => h pins s I⟩
theorem pss_w {es : List Stmt} : PSs X es (WB X es) := ⟨fun pins s _ _ _ I h => h pins s I⟩
theorem we {e : Expr} {t : TE} (h : PE X e t) {st : L2.St} {H : Hp} {Q : VK} (q : t st H Q) : WE X e st H Q := fun pins s I => h.run pins s st H Q I q
theorem wt {e : Expr} {t : TT} (h : PT X e t) {st : L2.St} {H : Hp} {Q : Bool → Hp → Prop} (q : t st H Q) : WT X e st H Q := fun pins s I => h.run pins s st H Q I q
theorem ww {e : Expr} {t : TT} (h : PW X e t) {st : L2.St} {H : Hp} {Q : Bool → Hp → Prop} (q : t st H Q) : WW X e st H Q := fun wh pins s I => h.run wh pins s st H Q I q
theorem wa {es : List Expr} {t : TA} (h : PA X es t) {st : L2.St} {H : Hp} {Q : List V → Hp → Prop} (q : t st H Q) : WA X es st H Q := fun pos pins s I => h.run pos pins s st H Q I q
theorem wk {es : List Keyword} {t : TA} (h : PK X es t) {st : L2.St} {H : Hp} {Q : List V → Hp → Prop} (q : t st H Q) : WK X es st H Q := fun pos pins s I => h.run pos pins s st H Q I q
theorem wss {e : Stmt} {t : TS} (h : PS X e t) {st : L2.St} {H : Hp} {D : Ends} (q : t D st H) : WS X e D st H := fun pins s I => h.run pins s st H D I q
theorem wb {es : List Stmt} {t : TS} (h : PSs X es t) {st : L2.St} {H : Hp} {D : Ends} (q : t D st H) : WB X es D st H := fun pins s I => h.run pins s st H D I q
end

/-! ### data -/
inductive Dat where
  | non | bl (b : Bool) | int (i : Int) | str (x : Str) | tup (xs : List Dat) | lst (xs : List Dat) | cel (i : Nat) | raw (v : V) | obj (C : Addr) (ns : List Str) (ds : List Dat)
abbrev Cs := List (List Dat)
abbrev Os := List Addr

/-- there is no list in it, and no cell -/
def noL : Dat → Bool
  | .lst _ => false
  | .cel _ => false
  | .raw _ => false
  | .obj _ _ _ => false
  | .tup xs => noLs xs
  | _ => true
where noLs : List Dat → Bool
  | [] => true
  | d :: ds => noL d && noLs ds
/-- all but the cells is kept -/
def Kp (o : Os) (H H' : Hp) : Prop := ∀ b u, b ∉ o → H b = some u → H' b = some u
theorem Kp.refl (o : Os) (H : Hp) : Kp o H H := fun _ _ _ h => h
theorem Kp.trans {o : Os} {H H1 H2 : Hp} (a : Kp o H H1) (b : Kp o H1 H2) : Kp o H H2 := fun x u n h => b x u n (a x u n h)
theorem Kp.of_ex {o : Os} {H H1 : Hp} (a : Ex H H1) : Kp o H H1 := fun x u _ h => a x u h
theorem Kp.ex {H H1 : Hp} (a : Kp [] H H1) : Ex H H1 := fun x u h => a x u (fun z => by cases z) h
theorem Kp.more {o o' : Os} {H H1 : Hp} (a : Kp o H H1) (h : ∀ b, b ∈ o → b ∈ o') : Kp o' H H1 := fun x u n g => a x u (fun z => n (h x z)) g

/-- a list that is read: no cell, or one of the module's own -/
def LS (K : PySem.W.Frag) (o : Os) (H : Hp) (a : Addr) (xs : List V) : Prop :=
  (Rd H a (.lst xs) ∧ a ∉ o) ∨ ∃ (ob : Obj) (its : Array Value) (n : Nat), K.lookup a = some ob ∧ ob.cls = .type "list" ∧ ob.dict = none ∧ ob.data = .seq its n ∧ its.size ≤ sizeLine ∧ Vals xs its.toList
theorem LS.sq {K : PySem.W.Frag} {o : Os} {H : Hp} {a : Addr} {xs : List V} (h : LS K o H a xs) : SqL K H a xs := by
  rcases h with h | h
  · exact .inl h.1
  · exact .inr h
theorem LS.of {K : PySem.W.Frag} {H : Hp} {a : Addr} {xs : List V} (h : SqL K H a xs) : LS K [] H a xs := by
  rcases h with h | h
  · exact .inl ⟨h, fun z => by cases z⟩
  · exact .inr h
theorem LS.less {K : PySem.W.Frag} {o o' : Os} {H : Hp} {a : Addr} {xs : List V} (w : ∀ b, b ∈ o' → b ∈ o) (h : LS K o H a xs) : LS K o' H a xs := by
  rcases h with h | h
  · exact .inl ⟨h.1, fun z => h.2 (w _ z)⟩
  · exact .inr h
theorem LS.plus {K : PySem.W.Frag} {o : Os} {H : Hp} {a p : Addr} {xs : List V} (n : H p = none) (h : LS K o H a xs) : LS K (o ++ [p]) H a xs := by
  rcases h with ⟨s, m⟩ | h
  · refine .inl ⟨s, fun z => ?_⟩
    rcases List.mem_append.mp z with z | z
    · exact m z
    · have e := List.mem_singleton.mp z
      subst e
      rcases s with s | ⟨ob, s⟩
      · rw [n] at s; cases s
      · rw [n] at s; cases s
  · exact .inr h
/-- v is d, of what stands in H, and no list of it is a cell -/
inductive DV (K : PySem.W.Frag) (o : Os) (H : Hp) : V → Dat → Prop
  | non : DV K o H .non .non
  | bl (b : Bool) : DV K o H (.bl b) (.bl b)
  | int (i : Int) : DV K o H (.int i) (.int i)
  | str (x : Str) : DV K o H (.str x) (.str x)
  | tup {a : Addr} {xs : List V} {ds : List Dat} : SqT K H a xs → xs.length = ds.length → (∀ (i : Nat) (v : V) (d : Dat), xs[i]? = some v → ds[i]? = some d → DV K o H v d) → DV K o H (.ref a) (.tup ds)
  | lst {a : Addr} {xs : List V} {ds : List Dat} : LS K o H a xs → xs.length = ds.length → (∀ (i : Nat) (v : V) (d : Dat), xs[i]? = some v → ds[i]? = some d → DV K o H v d) → DV K o H (.ref a) (.lst ds)
  | raw (v : V) : DV K o H v (.raw v)
  | obj {a C dx : Addr} {ns : List Str} {xs : List V} {ds : List Dat} : H a = some (.ins C dx (ns.zip xs)) → a ∉ o → ns.length = ds.length → xs.length = ds.length → (∀ (i : Nat) (v : V) (d : Dat), xs[i]? = some v → ds[i]? = some d → DV K o H v d) → DV K o H (.ref a) (.obj C ns ds)
def DVs (K : PySem.W.Frag) (o : Os) (H : Hp) (vs : List V) (ds : List Dat) : Prop := vs.length = ds.length ∧ ∀ (i : Nat) (v : V) (d : Dat), vs[i]? = some v → ds[i]? = some d → DV K o H v d
/-- v is d, a cell too -/
inductive DT (K : PySem.W.Frag) (o : Os) (H : Hp) : V → Dat → Prop
  | v {v : V} {d : Dat} : DV K o H v d → DT K o H v d
  | cel {a : Addr} {i : Nat} : o[i]? = some a → DT K o H (.ref a) (.cel i)
def DTs (K : PySem.W.Frag) (o : Os) (H : Hp) (vs : List V) (ds : List Dat) : Prop := vs.length = ds.length ∧ ∀ (i : Nat) (v : V) (d : Dat), vs[i]? = some v → ds[i]? = some d → DT K o H v d
/-- the cells -/
structure DK (K : PySem.W.Frag) (o : Os) (k : Cs) (H : Hp) : Prop where
  len : o.length = k.length
  nd : o.Nodup
  nl : ∀ s ∈ k, s.all noL = true
  at_ : ∀ (i : Nat) (a : Addr) (as : List Dat), o[i]? = some a → k[i]? = some as → ∃ xs, H a = some (.lst xs) ∧ DVs K o H xs as
theorem kp_rd {o : Os} {H H' : Hp} {a : Addr} {u : HO} (e : Kp o H H') (n : a ∉ o) (h : Rd H a u) : Rd H' a u := by
  rcases h with h | ⟨ob, h⟩
  · exact Or.inl (e a _ n h)
  · exact Or.inr ⟨ob, e a _ n h⟩
variable {K : PySem.W.Frag} {o : Os} {k : Cs} {H H' : Hp} {v : V} {d : Dat} {vs : List V} {ds as : List Dat} {a : Addr} {xs : List V}
theorem DK.cell (h : DK K o k H) (m : a ∈ o) : ∃ xs, H a = some (.lst xs) := by
  obtain ⟨i, hi⟩ := List.getElem?_of_mem m
  have hl : i < k.length := by rw [← h.len]; exact (List.getElem?_eq_some_iff.mp hi).1
  obtain ⟨xs, hx, _⟩ := h.at_ i a _ hi (List.getElem?_eq_getElem hl)
  exact ⟨xs, hx⟩
/-- what stands at a tuple's address is no cell -/
theorem LS.kp {K : PySem.W.Frag} {o o' : Os} {H H' : Hp} {a : Addr} {xs : List V} (h : LS K o' H a xs) (e : Kp o H H') (w : ∀ b, b ∈ o → b ∈ o') : LS K o' H' a xs := by
  rcases h with h | h
  · exact .inl ⟨kp_rd e (fun z => h.2 (w _ z)) h.1, h.2⟩
  · exact .inr h
theorem dk_tup (h : DK K o k H) (r : Rd H a (.tup xs)) : a ∉ o := fun m => by
  obtain ⟨ys, hy⟩ := h.cell m
  rcases r with r | ⟨ob, r⟩
  · rw [hy] at r; cases r
  · rw [hy] at r; cases r
theorem DK.ne (h : DK K o k H) (n : H a = none) : a ∉ o := fun m => by
  obtain ⟨ys, hy⟩ := h.cell m
  rw [n] at hy; cases hy
theorem kp_t (e : Kp o H H') (h0 : DK K o k H) (h : SqT K H a xs) : SqT K H' a xs := by
  rcases h with h | h
  · exact Or.inl (kp_rd e (dk_tup h0 h) h)
  · exact Or.inr h
theorem DV.kp (e : Kp o H H') (h0 : DK K o k H) (h : DV K o H v d) : DV K o H' v d := by
  induction h with
  | non => exact .non
  | bl b => exact .bl b
  | int i => exact .int i
  | str x => exact .str x
  | tup s l _ ih => exact .tup (kp_t e h0 s) l ih
  | lst s l _ ih => exact .lst (s.kp e fun _ z => z) l ih
  | raw v => exact .raw v
  | obj s n m l _ ih => exact .obj (e _ _ n s) n m l ih
theorem DV.kp' {o' : Os} (e : Kp o H H') (h0 : DK K o k H) (w : ∀ b, b ∈ o → b ∈ o') (h : DV K o' H v d) : DV K o' H' v d := by
  induction h with
  | non => exact .non
  | bl b => exact .bl b
  | int i => exact .int i
  | str x => exact .str x
  | tup s l _ ih => exact .tup (kp_t e h0 s) l ih
  | lst s l _ ih => exact .lst (s.kp e w) l ih
  | raw v => exact .raw v
  | obj s n m l _ ih => exact .obj (e _ _ (fun z => n (w _ z)) s) n m l ih
theorem DVs.kp (e : Kp o H H') (h0 : DK K o k H) (h : DVs K o H vs ds) : DVs K o H' vs ds := ⟨h.1, fun i v d a b => (h.2 i v d a b).kp e h0⟩
theorem DT.kp (e : Kp o H H') (h0 : DK K o k H) (h : DT K o H v d) : DT K o H' v d := by
  cases h with
  | v h => exact .v (h.kp e h0)
  | cel h => exact .cel h
theorem DTs.kp (e : Kp o H H') (h0 : DK K o k H) (h : DTs K o H vs ds) : DTs K o H' vs ds := ⟨h.1, fun i v d a b => (h.2 i v d a b).kp e h0⟩
theorem DVs.dts (h : DVs K o H vs ds) : DTs K o H vs ds := ⟨h.1, fun i v d a b => .v (h.2 i v d a b)⟩
/-- what stands new -/
theorem DK.ex (h : DK K o k H) (e : Ex H H') : DK K o k H' := ⟨h.len, h.nd, h.nl, fun i a as hi ha => by
  obtain ⟨xs, hx, hd⟩ := h.at_ i a as hi ha
  exact ⟨xs, e a _ hx, hd.kp (Kp.of_ex e) h⟩⟩
/-- fewer cells -/
theorem DV.less {o o' : Os} (h : ∀ b, b ∈ o' → b ∈ o) (q : DV K o H v d) : DV K o' H v d := by
  induction q with
  | non => exact .non
  | bl b => exact .bl b
  | int i => exact .int i
  | str x => exact .str x
  | tup s l _ ih => exact .tup s l ih
  | lst s l _ ih => exact .lst (s.less h) l ih
  | raw v => exact .raw v
  | obj s n m l _ ih => exact .obj s (fun z => n (h _ z)) m l ih
theorem DVs.less {o o' : Os} (h : ∀ b, b ∈ o' → b ∈ o) (q : DVs K o H vs ds) : DVs K o' H vs ds := ⟨q.1, fun i v d a b => (q.2 i v d a b).less h⟩
/-- a new cell -/
theorem DV.plus {p : Addr} (n : H p = none) (h : DV K o H v d) : DV K (o ++ [p]) H v d := by
  induction h with
  | non => exact .non
  | bl b => exact .bl b
  | int i => exact .int i
  | str x => exact .str x
  | tup s l _ ih => exact .tup s l ih
  | lst s l _ ih => exact .lst (s.plus n) l ih
  | raw v => exact .raw v
  | obj s n' m l _ ih => exact .obj s (fun z => by
      rcases List.mem_append.mp z with z | z
      · exact n' z
      · have e := List.mem_singleton.mp z
        subst e
        rw [n] at s; cases s) m l ih
theorem DVs.plus {p : Addr} (n : H p = none) (h : DVs K o H vs ds) : DVs K (o ++ [p]) H vs ds := ⟨h.1, fun i v d a b => (h.2 i v d a b).plus n⟩
theorem DT.plus {p : Addr} (n : H p = none) (h : DT K o H v d) : DT K (o ++ [p]) H v d := by
  cases h with
  | v h => exact .v (h.plus n)
  | cel h => exact .cel (by rw [List.getElem?_append_left (List.getElem?_eq_some_iff.mp h).1]; exact h)
theorem noLs_at : ∀ {ds : List Dat} {i : Nat} {d : Dat}, noL.noLs ds = true → ds[i]? = some d → noL d = true
  | [], _, _, _, h => by simp at h
  | d :: ds, 0, e, h, q => by
    rw [noL.noLs, Bool.and_eq_true] at h
    have : d = e := by simpa using q
    rw [← this]; exact h.1
  | d :: ds, i + 1, e, h, q => by
    rw [noL.noLs, Bool.and_eq_true] at h
    exact noLs_at h.2 (by simpa using q)
theorem DV.back (h : DV K o H v d) : noL d = true → ∀ o', DV K o' H v d := by
  induction h with
  | non => exact fun _ _ => .non
  | bl b => exact fun _ _ => .bl b
  | int i => exact fun _ _ => .int i
  | str x => exact fun _ _ => .str x
  | tup s l _ ih =>
    intro h o'
    rw [noL] at h
    exact .tup s l fun i v d a b => ih i v d a b (noLs_at h b) o'
  | lst s l _ ih => intro h; rw [noL] at h; cases h
  | raw v => intro h; rw [noL] at h; cases h
  | obj s n m l _ ih => intro h; rw [noL] at h; cases h
/-- no cell at the top -/
def noC : Dat → Bool
  | .cel _ => false
  | _ => true
theorem DT.unc (h : DT K o H v d) (n : noC d = true) : DV K o H v d := by
  cases h with
  | v h => exact h
  | cel h => cases n
theorem DTs.unc (h : DTs K o H vs ds) (n : ds.all noC = true) : DVs K o H vs ds := ⟨h.1, fun i v d a b => (h.2 i v d a b).unc (List.all_eq_true.mp n d (List.mem_of_getElem? b))⟩
theorem DVs.at (h : DVs K o H vs ds) {i : Nat} (e : ds[i]? = some d) : ∃ v, vs[i]? = some v ∧ DV K o H v d := by
  have hi : i < ds.length := (List.getElem?_eq_some_iff.mp e).1
  have hv : vs[i]? = some (vs[i]'(by rw [h.1]; exact hi)) := List.getElem?_eq_getElem _
  exact ⟨_, hv, h.2 i _ d hv e⟩
theorem DTs.at (h : DTs K o H vs ds) {i : Nat} (e : ds[i]? = some d) : ∃ v, vs[i]? = some v ∧ DT K o H v d := by
  have hi : i < ds.length := (List.getElem?_eq_some_iff.mp e).1
  have hv : vs[i]? = some (vs[i]'(by rw [h.1]; exact hi)) := List.getElem?_eq_getElem _
  exact ⟨_, hv, h.2 i _ d hv e⟩
theorem DVs.nil : DVs K o H [] [] := ⟨rfl, fun i v d a _ => by simp at a⟩
theorem DVs.cons (h : DV K o H v d) (r : DVs K o H vs ds) : DVs K o H (v :: vs) (d :: ds) :=
  ⟨congrArg Nat.succ r.1, fun i => match i with
    | 0 => fun w e a b => by simp at a b; subst a b; exact h
    | i + 1 => fun w e a b => r.2 i w e (by simpa using a) (by simpa using b)⟩
theorem DTs.nil : DTs K o H [] [] := ⟨rfl, fun i v d a _ => by simp at a⟩
theorem DTs.cons (h : DT K o H v d) (r : DTs K o H vs ds) : DTs K o H (v :: vs) (d :: ds) :=
  ⟨congrArg Nat.succ r.1, fun i => match i with
    | 0 => fun w e a b => by simp at a b; subst a b; exact h
    | i + 1 => fun w e a b => r.2 i w e (by simpa using a) (by simpa using b)⟩
theorem DVs.append {us : List V} {es : List Dat} (h : DVs K o H vs ds) (r : DVs K o H us es) : DVs K o H (vs ++ us) (ds ++ es) := by
  refine ⟨by rw [List.length_append, List.length_append, h.1, r.1], fun i v d ga gb => ?_⟩
  by_cases hi : i < vs.length
  · rw [List.getElem?_append_left hi] at ga
    rw [List.getElem?_append_left (by rw [← h.1]; exact hi)] at gb
    exact h.2 i v d ga gb
  · rw [List.getElem?_append_right (by omega)] at ga
    rw [List.getElem?_append_right (by rw [← h.1]; omega), ← h.1] at gb
    exact r.2 _ v d ga gb
theorem DTs.uncons {v0 : V} {d0 : Dat} (h : DTs K o H (v0 :: vs) (d0 :: ds)) : DT K o H v0 d0 ∧ DTs K o H vs ds := ⟨h.2 0 _ _ rfl rfl, by simpa using h.1, fun i v d a b => h.2 (i + 1) v d (by simpa using a) (by simpa using b)⟩
theorem DVs.uncons {v0 : V} {d0 : Dat} (h : DVs K o H (v0 :: vs) (d0 :: ds)) : DV K o H v0 d0 ∧ DVs K o H vs ds := ⟨h.2 0 _ _ rfl rfl, by simpa using h.1, fun i v d a b => h.2 (i + 1) v d (by simpa using a) (by simpa using b)⟩
theorem DT.unint {i : Int} (h : DT K o H v (.int i)) : v = .int i := by cases h with | v h => cases h; rfl
theorem DT.unbl {i : Bool} (h : DT K o H v (.bl i)) : v = .bl i := by cases h with | v h => cases h; rfl
theorem DT.unraw {w : V} (h : DT K o H v (.raw w)) : v = w := by cases h with | v h => cases h; rfl
theorem DT.uncel {i : Nat} (h : DT K o H v (.cel i)) : ∃ a, v = .ref a ∧ o[i]? = some a := by
  cases h with
  | v h => cases h
  | cel h => exact ⟨_, rfl, h⟩
theorem DV.untup (h : DV K o H v (.tup ds)) : ∃ a xs, v = .ref a ∧ SqT K H a xs ∧ DVs K o H xs ds := by
  cases h with
  | tup s l r => exact ⟨_, _, rfl, s, l, r⟩
theorem DV.unlst (h : DV K o H v (.lst ds)) : ∃ a xs, v = .ref a ∧ LS K o H a xs ∧ DVs K o H xs ds := by
  cases h with
  | lst s l r => exact ⟨_, _, rfl, s, l, r⟩
theorem DT.untup (h : DT K o H v (.tup ds)) : ∃ a xs, v = .ref a ∧ SqT K H a xs ∧ DVs K o H xs ds := (h.unc rfl).untup
theorem DT.unlst (h : DT K o H v (.lst ds)) : ∃ a xs, v = .ref a ∧ LS K o H a xs ∧ DVs K o H xs ds := (h.unc rfl).unlst
theorem DV.tup' (s : SqT K H a xs) (r : DVs K o H xs ds) : DV K o H (.ref a) (.tup ds) := .tup s r.1 r.2
theorem DV.lst' (s : Rd H a (.lst xs)) (n : a ∉ o) (r : DVs K o H xs ds) : DV K o H (.ref a) (.lst ds) := .lst (.inl ⟨s, n⟩) r.1 r.2
theorem DV.lstS (s : LS K o H a xs) (r : DVs K o H xs ds) : DV K o H (.ref a) (.lst ds) := .lst s r.1 r.2
/-- a cell is written -/
theorem noLs_all {ds : List Dat} (h : ds.all noL = true) {i : Nat} {d : Dat} (e : ds[i]? = some d) : noL d = true := List.all_eq_true.mp h d (List.mem_of_getElem? e)
theorem DVs.back (h : DVs K o H vs ds) (n : ds.all noL = true) (o' : Os) : DVs K o' H vs ds := ⟨h.1, fun i v d a b => (h.2 i v d a b).back (noLs_all n b) o'⟩
theorem dk_set {i : Nat} {ys : List V} {bs : List Dat} (h : DK K o k H) (hi : o[i]? = some a) (hy : DVs K o H ys bs) (nb : bs.all noL = true) : DK K o (k.set i bs) (upd H a (.lst ys)) ∧ Kp o H (upd H a (.lst ys)) := by
  have hm : a ∈ o := List.mem_of_getElem? hi
  have kp : Kp o H (upd H a (.lst ys)) := fun b u nb hb => by
    rw [upd_ne (fun z => nb (by rw [z]; exact hm))]
    exact hb
  refine ⟨⟨by rw [List.length_set]; exact h.len, h.nd, fun s hs => ?_, fun j b cs hj hc => ?_⟩, kp⟩
  · rcases List.mem_or_eq_of_mem_set hs with hs | rfl
    · exact h.nl s hs
    · exact nb
  by_cases e : i = j
  · subst e
    rw [hi] at hj
    cases hj
    have hl : i < k.length := by rw [← h.len]; exact (List.getElem?_eq_some_iff.mp hi).1
    rw [List.getElem?_set_self hl] at hc
    cases hc
    exact ⟨ys, upd_same, hy.kp kp h⟩
  · rw [List.getElem?_set_ne e] at hc
    obtain ⟨xs, hx, hd⟩ := h.at_ j b cs hj hc
    refine ⟨xs, ?_, hd.kp kp h⟩
    rw [upd_ne (fun z => ?_)]
    · exact hx
    · subst z
      have l1 := (List.getElem?_eq_some_iff.mp hi).1
      have l2 := (List.getElem?_eq_some_iff.mp hj).1
      exact e ((List.getElem?_inj l1 h.nd).mp (by rw [hi, hj]))
/-- a cell more -/
theorem dk_plus {p : Addr} (h : DK K o k H) (np : p ∉ o) (hp : H p = some (.lst xs)) (hd : DVs K o H xs as) (nb : as.all noL = true) : DK K (o ++ [p]) (k ++ [as]) H := by
  refine ⟨by rw [List.length_append, List.length_append, h.len]; rfl, ?_, fun s hs => ?_, fun i b bs hi hb => ?_⟩
  · exact List.nodup_append.mpr ⟨h.nd, by simp, fun x hx y hy z => np (by rw [List.mem_singleton] at hy; rw [← hy, ← z]; exact hx)⟩
  · rcases List.mem_append.mp hs with hs | hs
    · exact h.nl s hs
    · rw [List.mem_singleton] at hs
      rw [hs]
      exact nb
  · by_cases e : i < o.length
    · rw [List.getElem?_append_left e] at hi
      rw [List.getElem?_append_left (by rw [← h.len]; exact e)] at hb
      obtain ⟨ys, h1, h2⟩ := h.at_ i b bs hi hb
      exact ⟨ys, h1, h2.back (h.nl bs (List.mem_of_getElem? hb)) _⟩
    · rw [List.getElem?_append_right (by omega)] at hi
      rw [List.getElem?_append_right (by rw [← h.len]; omega), ← h.len] at hb
      cases hz : i - o.length with
      | zero =>
        rw [hz] at hi hb
        cases hi
        cases hb
        exact ⟨xs, hp, hd.back nb _⟩
      | succ q =>
        rw [hz] at hi
        simp at hi
/-- fewer cells -/
theorem dk_take {l : Os} (h : DK K (o ++ l) k H) : DK K o (k.take o.length) H := by
  refine ⟨?_, (List.nodup_append.mp h.nd).1, fun s hs => h.nl s (List.mem_of_mem_take hs), fun i b bs hi hb => ?_⟩
  · have := h.len
    rw [List.length_append] at this
    rw [List.length_take]
    omega
  · have hl := (List.getElem?_eq_some_iff.mp hi).1
    rw [List.getElem?_take] at hb
    rw [if_pos hl] at hb
    obtain ⟨ys, h1, h2⟩ := h.at_ i b bs (by rw [List.getElem?_append_left hl]; exact hi) hb
    exact ⟨ys, h1, h2.back (h.nl bs (List.mem_of_getElem? hb)) _⟩

/-- the names hold ds (none: not told) -/
def Sat (K : PySem.W.Frag) (o : Os) (st : L2.St) (H : Hp) (ds : List (Option Dat)) : Prop :=
  st.length = ds.length ∧ ∀ (i : Nat) (d : Dat), ds[i]? = some (some d) → ∃ v, st[i]? = some (some v) ∧ DT K o H v d
variable {st : L2.St} {es fs : List (Option Dat)}
theorem Sat.kp (h : Sat K o st H es) (e : Kp o H H') (h0 : DK K o k H) : Sat K o st H' es := ⟨h.1, fun i d hd => let ⟨v, a, b⟩ := h.2 i d hd; ⟨v, a, b.kp e h0⟩⟩
theorem Sat.set (h : Sat K o st H es) {i : Nat} (hv : DT K o H v d) : Sat K o (st.set i (some v)) H (es.set i (some d)) := by
  refine ⟨by rw [List.length_set, List.length_set]; exact h.1, fun j e he => ?_⟩
  by_cases hj : i = j
  · subst hj
    rw [List.getElem?_set] at he
    rw [if_pos rfl] at he
    by_cases hl : i < es.length
    · rw [if_pos hl] at he
      cases he
      refine ⟨v, ?_, hv⟩
      rw [List.getElem?_set_self (by rw [h.1]; exact hl)]
    · rw [if_neg hl] at he
      cases he
  · rw [List.getElem?_set_ne hj] at he
    obtain ⟨w, a, b⟩ := h.2 j e he
    exact ⟨w, by rw [List.getElem?_set_ne hj]; exact a, b⟩
/-- knowing less -/
theorem Sat.weak (h : Sat K o st H es) (hl : fs.length = es.length) (w : ∀ (i : Nat) (d : Dat), fs[i]? = some (some d) → es[i]? = some (some d)) : Sat K o st H fs :=
  ⟨h.1.trans hl.symm, fun i d hd => h.2 i d (w i d hd)⟩
/-- a slot without the cells from n on -/
@[reducible] def lowC (n : Nat) : Option Dat → Option Dat
  | some (.cel j) => if j < n then some (.cel j) else none
  | x => x
theorem Sat.low {l : Os} (h : Sat K (o ++ l) st H es) : Sat K o st H (es.map (lowC o.length)) := by
  refine ⟨by rw [List.length_map]; exact h.1, fun i d hd => ?_⟩
  rw [List.getElem?_map] at hd
  cases he : es[i]? with
  | none => rw [he] at hd; cases hd
  | some x =>
    rw [he] at hd
    have hd' : lowC o.length x = some d := by simpa using hd
    cases x with
    | none => cases hd'
    | some d0 =>
      obtain ⟨v, h1, h2⟩ := h.2 i d0 he
      cases h2 with
      | v h2 =>
        have e : lowC o.length (some d0) = some d0 := by cases h2 <;> rfl
        rw [e] at hd'
        cases hd'
        exact ⟨v, h1, .v (h2.less fun b hb => List.mem_append_left _ hb)⟩
      | cel h2 =>
        rename_i a j
        have hd2 : (if j < o.length then some (Dat.cel j) else none) = some d := hd'
        by_cases hj : j < o.length
        · rw [if_pos hj] at hd2
          cases hd2
          rw [List.getElem?_append_left hj] at h2
          exact ⟨_, h1, .cel h2⟩
        · rw [if_neg hj] at hd2
          cases hd2
theorem Sat.plus {p : Addr} (n : H p = none) (h : Sat K o st H es) : Sat K (o ++ [p]) st H es := ⟨h.1, fun i d hd => let ⟨v, a, b⟩ := h.2 i d hd; ⟨v, a, b.plus n⟩⟩

/-! ### judgements -/
def EvC (X : Cx) (o : Os) (e : Expr) (ds : List (Option Dat)) (k : Cs) (R : Dat → Cs → Prop) : Prop :=
  ∀ st H Q, Sat X.K o st H ds → DK X.K o k H → (∀ d k' v H', R d k' → Kp o H H' → DK X.K o k' H' → DT X.K o H' v d → Q v H') → WE X e st H Q
/-- a new list -/
def EvN (X : Cx) (o : Os) (e : Expr) (ds : List (Option Dat)) (k : Cs) (R : List Dat → Cs → Prop) : Prop :=
  ∀ st H Q, Sat X.K o st H ds → DK X.K o k H → (∀ as k' p xs H', R as k' → H p = none → Kp o H H' → DK X.K o k' H' → H' p = some (.lst xs) → DVs X.K o H' xs as → Q (.ref p) H') → WE X e st H Q
def EvT (X : Cx) (o : Os) (e : Expr) (ds : List (Option Dat)) (k : Cs) (R : Bool → Cs → Prop) : Prop :=
  ∀ st H Q, Sat X.K o st H ds → DK X.K o k H → (∀ b k' H', R b k' → Kp o H H' → DK X.K o k' H' → Q b H') → WT X e st H Q
def EvW (X : Cx) (o : Os) (e : Expr) (ds : List (Option Dat)) (k : Cs) (R : Bool → Cs → Prop) : Prop :=
  ∀ st H Q, Sat X.K o st H ds → DK X.K o k H → (∀ b k' H', R b k' → Kp o H H' → DK X.K o k' H' → Q b H') → WW X e st H Q
def EvA (X : Cx) (o : Os) (es : List Expr) (ds : List (Option Dat)) (k : Cs) (R : List Dat → Cs → Prop) : Prop :=
  ∀ st H Q, Sat X.K o st H ds → DK X.K o k H → (∀ as k' vs H', R as k' → Kp o H H' → DK X.K o k' H' → DTs X.K o H' vs as → Q vs H') → WA X es st H Q
def EvK (X : Cx) (o : Os) (es : List Keyword) (ds : List (Option Dat)) (k : Cs) (R : List Dat → Cs → Prop) : Prop :=
  ∀ st H Q, Sat X.K o st H ds → DK X.K o k H → (∀ as k' vs H', R as k' → Kp o H H' → DK X.K o k' H' → DTs X.K o H' vs as → Q vs H') → WK X es st H Q
/-- one outcome alone -/
def Ev (X : Cx) (o : Os) (e : Expr) (ds : List (Option Dat)) (k : Cs) (d : Dat) (k' : Cs) : Prop := ∀ R : Dat → Cs → Prop, R d k' → EvC X o e ds k R
def Et (X : Cx) (o : Os) (e : Expr) (ds : List (Option Dat)) (k : Cs) (b : Bool) (k' : Cs) : Prop := ∀ R : Bool → Cs → Prop, R b k' → EvT X o e ds k R
end Wz

set_option Elab.async false
set_option linter.all false
set_option maxRecDepth 100000
set_option maxHeartbeats 4000000
namespace Wz
open PySem PySem.Spec PyProof.Rows L2 Evl
@[reducible] def onI (x : Dat) (C : Int → Prop) : Prop := match x with | .int i => C i | _ => False
@[reducible] def onB (x : Dat) (C : Bool → Prop) : Prop := match x with | .bl i => C i | _ => False
@[reducible] def onT (x : Dat) (C : List Dat → Prop) : Prop := match x with | .tup i => C i | _ => False
@[reducible] def bc (b : Bool) (p q : Prop) : Prop := match b with | true => p | false => q
/-- what a list holds, a cell too -/
@[reducible] def onL (k : Cs) (x : Dat) (C : List Dat → Prop) : Prop := match x with
  | .lst as => C as
  | .cel i => match k[i]? with | some as => C as | none => False
  | _ => False
section
variable {X : Cx} {o : Os} {ds : List (Option Dat)} {k k1 k2 k3 k0 : Cs} {e a b c e1 e2 e3 : Expr} {es : List Expr} {d d1 d2 d3 : Dat} {as : List Dat} {pos p p2 p3 : Pos} {R : Dat → Cs → Prop} {RT : Bool → Cs → Prop} {x : Str}
theorem onI_ex {d : Dat} {C : Int → Prop} (h : onI d C) : ∃ i, d = .int i ∧ C i := by
  cases d <;> first | exact ⟨_, rfl, h⟩ | exact h.elim
theorem onB_ex {d : Dat} {C : Bool → Prop} (h : onB d C) : ∃ i, d = .bl i ∧ C i := by
  cases d <;> first | exact ⟨_, rfl, h⟩ | exact h.elim
theorem onT_ex {d : Dat} {C : List Dat → Prop} (h : onT d C) : ∃ i, d = .tup i ∧ C i := by
  cases d <;> first | exact ⟨_, rfl, h⟩ | exact h.elim
theorem onII_ex {d e : Dat} {C : Int → Int → Prop} (h : onI d fun i => onI e (C i)) : ∃ i j, d = .int i ∧ e = .int j ∧ C i j := by
  cases d with
  | int i =>
    cases e with
    | int j => exact ⟨i, j, rfl, rfl, h⟩
    | _ => exact h.elim
  | _ => exact h.elim
/-- a list that is read: its place, its items -/
theorem onL_ex {K : PySem.W.Frag} {H : Hp} {v : V} {C : List Dat → Prop} (hk : DK K o k H) (h : onL k d C) (hd : DT K o H v d) : ∃ p xs as, v = .ref p ∧ SqL K H p xs ∧ DVs K o H xs as ∧ C as := by
  cases d with
  | lst as =>
    obtain ⟨p, xs, rfl, h1, h2⟩ := hd.unlst
    exact ⟨p, xs, as, rfl, h1.sq, h2, h⟩
  | cel i =>
    obtain ⟨p, rfl, hp⟩ := hd.uncel
    cases hi : k[i]? with
    | none => simp only [onL, hi] at h
    | some as =>
      simp only [onL, hi] at h
      obtain ⟨xs, h1, h2⟩ := hk.at_ i p as hp hi
      exact ⟨p, xs, as, rfl, .inl (.inl h1), h2, h⟩
  | _ => exact h.elim

theorem c_name {i : Nat} (h : ds[i]? = some (some d)) (hR : R d k) (hN : X.N[i]? = some x := by rfl) (hv : Vis X.env.scope x := by first | exact Or.inl rfl | exact Or.inr (Or.inl rfl) | exact Or.inr (Or.inr rfl)) (hd : (x == ("__debug__" : Str)) = false := by decide) (hcd : (x == ("__classdict__" : Str)) = false := by decide) : EvC X o (.Name x pos) ds k R := by
  intro st H Q S hk q
  obtain ⟨v, h1, h2⟩ := S.2 i d h
  exact we (pe_var hN hv hd hcd) ⟨v, h1, q d k v H hR (Kp.refl _ _) hk h2⟩
/-- a name by its slot -/
theorem nm (i : Nat) (h : ds[i]? = some (some d)) (hR : R d k) (hN : X.N[i]? = some x := by rfl) (hv : Vis X.env.scope x := by first | exact Or.inl rfl | exact Or.inr (Or.inl rfl) | exact Or.inr (Or.inr rfl)) (hd : (x == ("__debug__" : Str)) = false := by decide) (hcd : (x == ("__classdict__" : Str)) = false := by decide) : EvC X o (.Name x pos) ds k R := c_name h hR hN hv hd hcd
theorem c_int {i : Int} {j} (hR : R (.int i) k) : EvC X o (.Constant (.int i) j pos) ds k R := fun _ H _ _ hk q => we pe_int (q _ _ _ H hR (Kp.refl _ _) hk (.v (.int _)))
theorem c_bl {i : Bool} {j} (hR : R (.bl i) k) : EvC X o (.Constant (.bool i) j pos) ds k R := fun _ H _ _ hk q => we pe_bl (q _ _ _ H hR (Kp.refl _ _) hk (.v (.bl _)))
theorem c_non {j} (hR : R .non k) : EvC X o (.Constant .none j pos) ds k R := fun _ H _ _ hk q => we pe_non (q _ _ _ H hR (Kp.refl _ _) hk (.v .non))
theorem c_str {z : Str} {j} (hR : R (.str z) k) : EvC X o (.Constant (.str z) j pos) ds k R := fun _ H _ _ hk q => we pe_str (q _ _ _ H hR (Kp.refl _ _) hk (.v (.str _)))
theorem c_raw {v : V} (h : PE X e (fun _ H Q => Q v H)) (hR : R (.raw v) k) : EvC X o e ds k R := fun _ H _ _ hk q => we h (q _ _ _ H hR (Kp.refl _ _) hk (.v (.raw _)))
theorem EvC.mono {R' : Dat → Cs → Prop} (h : EvC X o e ds k R) (w : ∀ d k, R d k → R' d k) : EvC X o e ds k R' := fun st H Q S hk q => h st H Q S hk fun d k' v H' r => q d k' v H' (w d k' r)
/-- a new list as a value -/
theorem c_ofN (h : EvN X o e ds k fun as k1 => R (.lst as) k1) : EvC X o e ds k R := fun st H Q S hk q => h st H Q S hk fun as k' p xs H' r np kp hk' hp hd => q _ k' _ H' r kp hk' (.v (.lst' (.inl hp) (hk.ne np) hd))
theorem c_det (h : Ev X o e ds k d k1) (r : R d k1) : EvC X o e ds k R := h R r
theorem det (h : ∀ R : Dat → Cs → Prop, R d k1 → EvC X o e ds k R) : Ev X o e ds k d k1 := h

/-! operators of ints -/
theorem c_opI {op : Operator} {C : Int → Int → Prop} {g : Int → Int → V} {z : Int → Int → Dat} (ho : OpR X (binaryOp op) (rI C g)) (hz : ∀ H i j, DT X.K o H (g i j) (z i j))
    (ha : EvC X o a ds k fun x k1 => EvC X o b ds k1 fun y k2 => onI x fun i => onI y fun j => C i j ∧ R (z i j) k2) : EvC X o (.BinOp a op b pos) ds k R := fun st H Q S hk q =>
  we (pe_op ho pe_w pe_w) (ha st H _ S hk fun x k1 v H1 hx e1 hk1 h1 => hx st H1 _ (S.kp e1 hk) hk1 fun y k2 w H2 hy e2 hk2 h2 => by
    obtain ⟨i, j, rfl, rfl, hc, hr⟩ := onII_ex hy
    exact ⟨i, j, h1.unint, h2.unint, hc, q _ k2 _ H2 hr (e1.trans e2) hk2 (hz _ _ _)⟩)
theorem c_opI0 {op : Operator} {g : Int → Int → V} {z : Int → Int → Dat} (ho : OpR X (binaryOp op) (rI0 g)) (hz : ∀ H i j, DT X.K o H (g i j) (z i j))
    (ha : EvC X o a ds k fun x k1 => EvC X o b ds k1 fun y k2 => onI x fun i => onI y fun j => R (z i j) k2) : EvC X o (.BinOp a op b pos) ds k R := fun st H Q S hk q =>
  we (pe_op ho pe_w pe_w) (ha st H _ S hk fun x k1 v H1 hx e1 hk1 h1 => hx st H1 _ (S.kp e1 hk) hk1 fun y k2 w H2 hy e2 hk2 h2 => by
    obtain ⟨i, j, rfl, rfl, hr⟩ := onII_ex hy
    exact ⟨i, j, h1.unint, h2.unint, q _ k2 _ H2 hr (e1.trans e2) hk2 (hz _ _ _)⟩)
theorem c_add (h : EvC X o a ds k fun x k1 => EvC X o b ds k1 fun y k2 => onI x fun i => onI y fun j => R (.int (i + j)) k2) : EvC X o (.BinOp a .Add b pos) ds k R := c_opI0 op_add (fun _ _ _ => .v (.int _)) h
theorem c_sub (h : EvC X o a ds k fun x k1 => EvC X o b ds k1 fun y k2 => onI x fun i => onI y fun j => R (.int (i - j)) k2) : EvC X o (.BinOp a .Sub b pos) ds k R := c_opI0 op_sub (fun _ _ _ => .v (.int _)) h
theorem c_mul (h : EvC X o a ds k fun x k1 => EvC X o b ds k1 fun y k2 => onI x fun i => onI y fun j => CMulW i j ∧ R (.int (i * j)) k2) : EvC X o (.BinOp a .Mult b pos) ds k R := c_opI op_mulW (fun _ _ _ => .v (.int _)) h
theorem c_mod (h : EvC X o a ds k fun x k1 => EvC X o b ds k1 fun y k2 => onI x fun i => onI y fun j => 0 < j ∧ R (.int (i % j)) k2) : EvC X o (.BinOp a .Mod b pos) ds k R := c_opI op_mod (fun _ _ _ => .v (.int _)) h
theorem c_fdiv (h : EvC X o a ds k fun x k1 => EvC X o b ds k1 fun y k2 => onI x fun i => onI y fun j => CDivW i j ∧ R (.int (i / j)) k2) : EvC X o (.BinOp a .FloorDiv b pos) ds k R := c_opI op_fdivW (fun _ _ _ => .v (.int _)) h
/-- // by any divisor but 0 below 2 ^ 9000 -/
def CDivX (_ j : Int) : Prop := j ≠ 0 ∧ j.natAbs.log2 < 9000
theorem op_fdivX : OpR X (binaryOp .FloorDiv) (rI CDivX fun i j => .int (i.fdiv j)) := opI fun i j _ _ _ _ _ hc q => floordiv_int hc.1 q (.inl (PyProof.noPylong_of_log2 hc.2))
theorem c_fdivX (h : EvC X o a ds k fun x k1 => EvC X o b ds k1 fun y k2 => onI x fun i => onI y fun j => CDivX i j ∧ R (.int (i.fdiv j)) k2) : EvC X o (.BinOp a .FloorDiv b pos) ds k R := c_opI op_fdivX (fun _ _ _ => .v (.int _)) h
theorem c_pow (h : EvC X o a ds k fun x k1 => EvC X o b ds k1 fun y k2 => onI x fun i => onI y fun j => CPow i j ∧ R (.int (i ^ j.toNat)) k2) : EvC X o (.BinOp a .Pow b pos) ds k R := c_opI op_pow (fun _ _ _ => .v (.int _)) h
theorem c_neg (h : EvC X o a ds k fun x k1 => onI x fun i => R (.int (-i)) k1) : EvC X o (.UnaryOp .USub a pos) ds k R := fun st H Q S hk q =>
  we (pe_un un_neg pe_w) (h st H _ S hk fun x k1 v H1 hx e1 hk1 h1 => by
    obtain ⟨i, rfl, hr⟩ := onI_ex hx
    exact ⟨i, h1.unint, q _ k1 _ H1 hr e1 hk1 (.v (.int _))⟩)
/-! comparisons -/
theorem c_cmp {op : CmpOp} {r : R2} (ho : OpR X (compareOp op) r) (hm : behindInMarks op b = false) {C : Dat → Dat → Cs → Bool → Prop} (hc : ∀ x y k2 v w H Q, (∃ z, C x y k2 z) → DK X.K o k2 H → DT X.K o H v x → DT X.K o H w y → (∀ z, C x y k2 z → Q (V.bl z) H) → r v w H Q)
    (h : EvC X o a ds k fun x k1 => EvC X o b ds k1 fun y k2 => (∃ z, C x y k2 z) ∧ ∀ z, C x y k2 z → R (.bl z) k2) : EvC X o (.Compare a [op] [b] pos) ds k R := fun st H Q S hk q =>
  we (pe_cmpR ho pe_w pe_w hm) (h st H _ S hk fun x k1 v H1 hx e1 hk1 h1 => hx st H1 _ (S.kp e1 hk) hk1 fun y k2 w H2 hy e2 hk2 h2 =>
    hc x y k2 v w H2 _ hy.1 hk2 (h1.kp e2 hk1) h2 fun z hz => q _ k2 _ H2 (hy.2 z hz) (e1.trans e2) hk2 (.v (.bl _)))
theorem tc_cmp {op : CmpOp} {r : R2} (ho : OpR X (compareOp op) r) (hm : behindInMarks op b = false) {C : Dat → Dat → Cs → Bool → Prop} (hc : ∀ x y k2 v w H Q, (∃ z, C x y k2 z) → DK X.K o k2 H → DT X.K o H v x → DT X.K o H w y → (∀ z, C x y k2 z → Q (V.bl z) H) → r v w H Q)
    (h : EvC X o a ds k fun x k1 => EvC X o b ds k1 fun y k2 => (∃ z, C x y k2 z) ∧ ∀ z, C x y k2 z → RT z k2) : EvT X o (.Compare a [op] [b] pos) ds k RT := fun st H Q S hk q =>
  wt (pt_cmpR ho pe_w pe_w hm) (h st H _ S hk fun x k1 v H1 hx e1 hk1 h1 => hx st H1 _ (S.kp e1 hk) hk1 fun y k2 w H2 hy e2 hk2 h2 =>
    hc x y k2 v w H2 _ hy.1 hk2 (h1.kp e2 hk1) h2 fun z hz => ⟨z, rfl, q _ k2 H2 (hy.2 z hz) (e1.trans e2) hk2⟩)
/-- two ints compared -/
def CI (g : Int → Int → Bool) (x y : Dat) (_ : Cs) (z : Bool) : Prop := onI x fun i => onI y fun j => z = g i j
theorem ci_r {g : Int → Int → Bool} (x y : Dat) (k2 : Cs) (v w : V) (H : Hp) (Q : VK) (h : ∃ z, CI g x y k2 z) (_ : DK X.K o k2 H) (h1 : DT X.K o H v x) (h2 : DT X.K o H w y) (q : ∀ z, CI g x y k2 z → Q (V.bl z) H) : rI0 (fun i j => .bl (g i j)) v w H Q := by
  obtain ⟨z, hz⟩ := h
  obtain ⟨i, j, rfl, rfl, hz⟩ := onII_ex hz
  exact ⟨i, j, h1.unint, h2.unint, q _ rfl⟩
theorem c_cmpI {op : CmpOp} {g : Int → Int → Bool} (ho : OpR X (compareOp op) (rI0 fun i j => .bl (g i j))) (hm : behindInMarks op b = false)
    (h : EvC X o a ds k fun x k1 => EvC X o b ds k1 fun y k2 => onI x fun i => onI y fun j => R (.bl (g i j)) k2) : EvC X o (.Compare a [op] [b] pos) ds k R :=
  c_cmp ho hm (C := CI g) ci_r (h.mono fun x k1 hx => hx.mono fun y k2 hy => by
    obtain ⟨i, j, rfl, rfl, hy⟩ := onII_ex hy
    exact ⟨⟨_, rfl⟩, fun z hz => by rw [show z = g i j from hz]; exact hy⟩)
theorem tc_cmpI {op : CmpOp} {P : Int → Int → Prop} [∀ i j, Decidable (P i j)] (ho : OpR X (compareOp op) (rI0 fun i j => .bl (decide (P i j)))) (hm : behindInMarks op b = false)
    (h : EvC X o a ds k fun x k1 => EvC X o b ds k1 fun y k2 => onI x fun i => onI y fun j => (P i j → RT true k2) ∧ (¬ P i j → RT false k2)) : EvT X o (.Compare a [op] [b] pos) ds k RT :=
  tc_cmp ho hm (C := CI fun i j => decide (P i j)) ci_r (h.mono fun x k1 hx => hx.mono fun y k2 hy => by
    obtain ⟨i, j, rfl, rfl, hy⟩ := onII_ex hy
    refine ⟨⟨_, rfl⟩, fun z hz => ?_⟩
    rw [show z = decide (P i j) from hz]
    by_cases hp : P i j
    · rw [decide_eq_true hp]; exact hy.1 hp
    · rw [decide_eq_false hp]; exact hy.2 hp)
theorem c_lt (h : EvC X o a ds k fun x k1 => EvC X o b ds k1 fun y k2 => onI x fun i => onI y fun j => R (.bl (decide (i < j))) k2) : EvC X o (.Compare a [.Lt] [b] pos) ds k R := c_cmpI op_lt (nobehind _ (by decide) (by decide)) h
theorem c_le (h : EvC X o a ds k fun x k1 => EvC X o b ds k1 fun y k2 => onI x fun i => onI y fun j => R (.bl (decide (i ≤ j))) k2) : EvC X o (.Compare a [.LtE] [b] pos) ds k R := c_cmpI op_le (nobehind _ (by decide) (by decide)) h
theorem c_gt (h : EvC X o a ds k fun x k1 => EvC X o b ds k1 fun y k2 => onI x fun i => onI y fun j => R (.bl (decide (j < i))) k2) : EvC X o (.Compare a [.Gt] [b] pos) ds k R := c_cmpI op_gt (nobehind _ (by decide) (by decide)) h
theorem c_ge (h : EvC X o a ds k fun x k1 => EvC X o b ds k1 fun y k2 => onI x fun i => onI y fun j => R (.bl (decide (j ≤ i))) k2) : EvC X o (.Compare a [.GtE] [b] pos) ds k R := c_cmpI op_ge (nobehind _ (by decide) (by decide)) h
theorem t_lt (h : EvC X o a ds k fun x k1 => EvC X o b ds k1 fun y k2 => onI x fun i => onI y fun j => (i < j → RT true k2) ∧ (¬ i < j → RT false k2)) : EvT X o (.Compare a [.Lt] [b] pos) ds k RT := tc_cmpI op_lt (nobehind _ (by decide) (by decide)) h
theorem t_le (h : EvC X o a ds k fun x k1 => EvC X o b ds k1 fun y k2 => onI x fun i => onI y fun j => (i ≤ j → RT true k2) ∧ (¬ i ≤ j → RT false k2)) : EvT X o (.Compare a [.LtE] [b] pos) ds k RT := tc_cmpI op_le (nobehind _ (by decide) (by decide)) h
theorem t_gt (h : EvC X o a ds k fun x k1 => EvC X o b ds k1 fun y k2 => onI x fun i => onI y fun j => (j < i → RT true k2) ∧ (¬ j < i → RT false k2)) : EvT X o (.Compare a [.Gt] [b] pos) ds k RT := tc_cmpI (P := fun i j => j < i) op_gt (nobehind _ (by decide) (by decide)) h
theorem t_ge (h : EvC X o a ds k fun x k1 => EvC X o b ds k1 fun y k2 => onI x fun i => onI y fun j => (j ≤ i → RT true k2) ∧ (¬ j ≤ i → RT false k2)) : EvT X o (.Compare a [.GtE] [b] pos) ds k RT := tc_cmpI (P := fun i j => j ≤ i) op_ge (nobehind _ (by decide) (by decide)) h
/-! == and != of plain things: what they are is told by scal -/
@[reducible] def fl : Dat → Option V
  | .non => some .non
  | .bl b => some (.bl b)
  | .int i => some (.int i)
  | .str x => some (.str x)
  | _ => none
theorem fl_is {K : PySem.W.Frag} {H : Hp} {v w : V} (f : fl d = some v) (h : DT K o H w d) : w = v := by
  cases h with
  | cel h => cases f
  | v h => cases h <;> first | (cases f; rfl) | cases f
/-- flat things compared -/
def CF (n : Bool) (x y : Dat) (_ : Cs) (z : Bool) : Prop := ∃ u w, fl x = some u ∧ fl y = some w ∧ scal u w = true ∧ z = (if n = true then !decide (u = w) else decide (u = w))
theorem bl_int (i j : Int) : decide (V.int i = V.int j) = decide (i = j) := by
  by_cases h : i = j
  · subst h
    simp
  · rw [decide_eq_false h, decide_eq_false (fun z => h (V.int.inj z))]
theorem c_eqF {u w : V} (h : EvC X o a ds k fun x k1 => EvC X o b ds k1 fun y k2 => fl x = some u ∧ fl y = some w ∧ scal u w = true ∧ R (.bl (decide (u = w))) k2) : EvC X o (.Compare a [.Eq] [b] pos) ds k R :=
  c_cmp op_eq (nobehind _ (by decide) (by decide)) (C := CF false) (fun x y k2 v w' H Q hz _ h1 h2 q => by
    obtain ⟨z, u, w, f1, f2, hs, rfl⟩ := hz
    have q1 := fl_is f1 h1
    have q2 := fl_is f2 h2
    subst q1 q2
    exact ⟨hs, q _ ⟨_, _, f1, f2, hs, rfl⟩⟩) (h.mono fun x k1 hx => hx.mono fun y k2 ⟨f1, f2, hs, hy⟩ => ⟨⟨_, _, _, f1, f2, hs, rfl⟩, fun z ⟨u', w', g1, g2, hs', e⟩ => by
      rw [f1] at g1; rw [f2] at g2
      cases g1; cases g2
      rw [e]
      exact hy⟩)
theorem t_eqF {u w : V} (h : EvC X o a ds k fun x k1 => EvC X o b ds k1 fun y k2 => fl x = some u ∧ fl y = some w ∧ scal u w = true ∧ RT (decide (u = w)) k2) : EvT X o (.Compare a [.Eq] [b] pos) ds k RT :=
  tc_cmp op_eq (nobehind _ (by decide) (by decide)) (C := CF false) (fun x y k2 v w' H Q hz _ h1 h2 q => by
    obtain ⟨z, u, w, f1, f2, hs, rfl⟩ := hz
    have q1 := fl_is f1 h1
    have q2 := fl_is f2 h2
    subst q1 q2
    exact ⟨hs, q _ ⟨_, _, f1, f2, hs, rfl⟩⟩) (h.mono fun x k1 hx => hx.mono fun y k2 ⟨f1, f2, hs, hy⟩ => ⟨⟨_, _, _, f1, f2, hs, rfl⟩, fun z ⟨u', w', g1, g2, hs', e⟩ => by
      rw [f1] at g1; rw [f2] at g2
      cases g1; cases g2
      rw [e]
      exact hy⟩)
theorem ci_eq (x y : Dat) (k2 : Cs) (v w : V) (H : Hp) (Q : VK) (h : ∃ z, CI (fun i j => decide (i = j)) x y k2 z) (_ : DK X.K o k2 H) (h1 : DT X.K o H v x) (h2 : DT X.K o H w y) (q : ∀ z, CI (fun i j => decide (i = j)) x y k2 z → Q (V.bl z) H) : scal v w = true ∧ Q (.bl (decide (v = w))) H := by
  obtain ⟨z, hz⟩ := h
  obtain ⟨i, j, rfl, rfl, hz⟩ := onII_ex hz
  have q1 := h1.unint
  have q2 := h2.unint
  subst q1 q2
  exact ⟨rfl, by rw [bl_int]; exact q _ rfl⟩
theorem ci_ne (x y : Dat) (k2 : Cs) (v w : V) (H : Hp) (Q : VK) (h : ∃ z, CI (fun i j => !decide (i = j)) x y k2 z) (_ : DK X.K o k2 H) (h1 : DT X.K o H v x) (h2 : DT X.K o H w y) (q : ∀ z, CI (fun i j => !decide (i = j)) x y k2 z → Q (V.bl z) H) : scal v w = true ∧ Q (.bl (!decide (v = w))) H := by
  obtain ⟨z, hz⟩ := h
  obtain ⟨i, j, rfl, rfl, hz⟩ := onII_ex hz
  have q1 := h1.unint
  have q2 := h2.unint
  subst q1 q2
  exact ⟨rfl, by rw [bl_int]; exact q _ rfl⟩
theorem c_eqI (h : EvC X o a ds k fun x k1 => EvC X o b ds k1 fun y k2 => onI x fun i => onI y fun j => R (.bl (decide (i = j))) k2) : EvC X o (.Compare a [.Eq] [b] pos) ds k R :=
  c_cmp op_eq (nobehind _ (by decide) (by decide)) (C := CI fun i j => decide (i = j)) ci_eq (h.mono fun x k1 hx => hx.mono fun y k2 hy => by
    obtain ⟨i, j, rfl, rfl, hy⟩ := onII_ex hy
    exact ⟨⟨_, rfl⟩, fun z hz => by rw [show z = decide (i = j) from hz]; exact hy⟩)
theorem t_eqI (h : EvC X o a ds k fun x k1 => EvC X o b ds k1 fun y k2 => onI x fun i => onI y fun j => (i = j → RT true k2) ∧ (¬ i = j → RT false k2)) : EvT X o (.Compare a [.Eq] [b] pos) ds k RT :=
  tc_cmp op_eq (nobehind _ (by decide) (by decide)) (C := CI fun i j => decide (i = j)) ci_eq (h.mono fun x k1 hx => hx.mono fun y k2 hy => by
    obtain ⟨i, j, rfl, rfl, hy⟩ := onII_ex hy
    refine ⟨⟨_, rfl⟩, fun z hz => ?_⟩
    rw [show z = decide (i = j) from hz]
    by_cases hp : i = j
    · rw [decide_eq_true hp]; exact hy.1 hp
    · rw [decide_eq_false hp]; exact hy.2 hp)
theorem c_neI (h : EvC X o a ds k fun x k1 => EvC X o b ds k1 fun y k2 => onI x fun i => onI y fun j => R (.bl (!decide (i = j))) k2) : EvC X o (.Compare a [.NotEq] [b] pos) ds k R :=
  c_cmp op_ne (nobehind _ (by decide) (by decide)) (C := CI fun i j => !decide (i = j)) ci_ne (h.mono fun x k1 hx => hx.mono fun y k2 hy => by
    obtain ⟨i, j, rfl, rfl, hy⟩ := onII_ex hy
    exact ⟨⟨_, rfl⟩, fun z hz => by rw [show z = !decide (i = j) from hz]; exact hy⟩)
theorem t_neI (h : EvC X o a ds k fun x k1 => EvC X o b ds k1 fun y k2 => onI x fun i => onI y fun j => (¬ i = j → RT true k2) ∧ (i = j → RT false k2)) : EvT X o (.Compare a [.NotEq] [b] pos) ds k RT :=
  tc_cmp op_ne (nobehind _ (by decide) (by decide)) (C := CI fun i j => !decide (i = j)) ci_ne (h.mono fun x k1 hx => hx.mono fun y k2 hy => by
    obtain ⟨i, j, rfl, rfl, hy⟩ := onII_ex hy
    refine ⟨⟨_, rfl⟩, fun z hz => ?_⟩
    rw [show z = !decide (i = j) from hz]
    by_cases hp : i = j
    · rw [decide_eq_true hp]; exact hy.2 hp
    · rw [decide_eq_false hp]; exact hy.1 hp)
/-! is None -/
@[reducible] def isN : Dat → Option Bool
  | .non => some true
  | .raw _ => none
  | .obj _ _ _ => some false
  | _ => some false
theorem isN_is {K : PySem.W.Frag} {H : Hp} {v : V} {b : Bool} (f : isN d = some b) (h : DT K o H v d) : decide (v = .non) = b := by
  cases h with
  | cel h => cases f; exact decide_eq_false (fun z => by cases z)
  | v h => cases h <;> first | (cases f; rfl) | (cases f; exact decide_eq_false (fun z => by cases z)) | cases f
theorem t_isN {j pos'} (h : EvC X o a ds k fun x k1 => match isN x with | some b => RT b k1 | none => False) : EvT X o (.Compare a [.Is] [.Constant .none j pos'] pos) ds k RT := fun st H Q S hk q =>
  wt (pt_cmp (pc_isN pe_w)) (h st H _ S hk fun x k1 v H1 hx e1 hk1 h1 => by
    cases hb : isN x with
    | none => simp only [hb] at hx
    | some b =>
      simp only [hb] at hx
      exact ⟨_, rfl, by rw [isN_is hb h1]; exact q _ k1 H1 hx e1 hk1⟩)
theorem c_isN {j pos'} (h : EvC X o a ds k fun x k1 => match isN x with | some b => R (.bl b) k1 | none => False) : EvC X o (.Compare a [.Is] [.Constant .none j pos'] pos) ds k R := fun st H Q S hk q =>
  we (pe_cmp (pc_isN pe_w)) (h st H _ S hk fun x k1 v H1 hx e1 hk1 h1 => by
    cases hb : isN x with
    | none => simp only [hb] at hx
    | some b =>
      simp only [hb] at hx
      rw [isN_is hb h1]
      exact q _ k1 _ H1 hx e1 hk1 (.v (.bl _)))
/-! and, or, not of bools, as values -/
theorem c_one {op : BoolOp} (h : EvC X o a ds k R) : EvC X o (.BoolOp op [a] pos) ds k R := fun st H Q S hk q => we (pe_one pe_w) (h st H Q S hk q)
theorem c_and {rest : List Expr} (h : EvC X o a ds k fun x k1 => onB x fun z => bc z (EvC X o (.BoolOp .And (b :: rest) pos) ds k1 R) (R (.bl false) k1)) : EvC X o (.BoolOp .And (a :: b :: rest) pos) ds k R := fun st H Q S hk q =>
  we (pe_and pe_w pe_w) (h st H _ S hk fun x k1 v H1 hx e1 hk1 h1 => by
    obtain ⟨z, rfl, hx⟩ := onB_ex hx
    refine ⟨z, h1.unbl, ?_⟩
    cases z with
    | true => exact hx st H1 Q (S.kp e1 hk) hk1 fun y k2 w H2 hy e2 hk2 h2 => q y k2 w H2 hy (e1.trans e2) hk2 h2
    | false => exact q _ k1 _ H1 hx e1 hk1 (.v (.bl _)))
theorem c_or {rest : List Expr} (h : EvC X o a ds k fun x k1 => onB x fun z => bc z (R (.bl true) k1) (EvC X o (.BoolOp .Or (b :: rest) pos) ds k1 R)) : EvC X o (.BoolOp .Or (a :: b :: rest) pos) ds k R := fun st H Q S hk q =>
  we (pe_or pe_w pe_w) (h st H _ S hk fun x k1 v H1 hx e1 hk1 h1 => by
    obtain ⟨z, rfl, hx⟩ := onB_ex hx
    refine ⟨z, h1.unbl, ?_⟩
    cases z with
    | false => exact hx st H1 Q (S.kp e1 hk) hk1 fun y k2 w H2 hy e2 hk2 h2 => q y k2 w H2 hy (e1.trans e2) hk2 h2
    | true => exact q _ k1 _ H1 hx e1 hk1 (.v (.bl _)))
theorem c_not (h : EvC X o a ds k fun x k1 => onB x fun z => R (.bl (!z)) k1) : EvC X o (.UnaryOp .Not a pos) ds k R := fun st H Q S hk q =>
  we (pe_not pe_w) (h st H _ S hk fun x k1 v H1 hx e1 hk1 h1 => by
    obtain ⟨z, rfl, hx⟩ := onB_ex hx
    exact ⟨z, h1.unbl, q _ k1 _ H1 hx e1 hk1 (.v (.bl _))⟩)
/-! tests -/
theorem t_val (h : EvC X o e ds k fun x k1 => onB x fun z => RT z k1) (he : ∀ whole, isTrue e X.env whole = (do let v ← whole; standAt e.pos; holding [v] (truthy v)) := by intro _; rfl) : EvT X o e ds k RT := fun st H Q S hk q =>
  wt (pt_val pe_w he) (h st H _ S hk fun x k1 v H1 hx e1 hk1 h1 => by
    obtain ⟨z, rfl, hx⟩ := onB_ex hx
    exact ⟨z, h1.unbl, q _ k1 H1 hx e1 hk1⟩)
/-- the truth of an int -/
theorem t_tru (h : EvC X o e ds k fun x k1 => onI x fun i => (i ≠ 0 → RT true k1) ∧ (i = 0 → RT false k1)) (he : ∀ whole, isTrue e X.env whole = (do let v ← whole; standAt e.pos; holding [v] (truthy v)) := by intro _; rfl) : EvT X o e ds k RT := fun st H Q S hk q =>
  wt (pt_truth pe_w he) (h st H _ S hk fun x k1 v H1 hx e1 hk1 h1 => by
    obtain ⟨i, rfl, hx⟩ := onI_ex hx
    have := h1.unint
    subst this
    by_cases z : i = 0
    · exact ⟨_, rfl, by rw [show (i != 0) = false by simp [z]]; exact q _ k1 H1 (hx.2 z) e1 hk1⟩
    · exact ⟨_, rfl, by rw [show (i != 0) = true by simp [z]]; exact q _ k1 H1 (hx.1 z) e1 hk1⟩)
theorem EvT.mono {RT' : Bool → Cs → Prop} (h : EvT X o e ds k RT) (w : ∀ d k, RT d k → RT' d k) : EvT X o e ds k RT' := fun st H Q S hk q => h st H Q S hk fun d k' H' r => q d k' H' (w d k' r)
theorem t_w (h : EvW X o e ds k RT) : EvT X o e ds k RT := fun st H Q S hk q => wt pw_w.pt (h st H Q S hk q)
theorem w_and1 (h : EvT X o a ds k RT) : EvW X o (.BoolOp .And [a] pos) ds k RT := fun st H Q S hk q => ww (pw_and1 pt_w) (h st H Q S hk q)
theorem w_or1 (h : EvT X o a ds k RT) : EvW X o (.BoolOp .Or [a] pos) ds k RT := fun st H Q S hk q => ww (pw_or1 pt_w) (h st H Q S hk q)
theorem w_and {rest : List Expr} (h : EvT X o a ds k fun x k1 => bc x (EvW X o (.BoolOp .And (b :: rest) pos) ds k1 RT) (RT false k1)) : EvW X o (.BoolOp .And (a :: b :: rest) pos) ds k RT := fun st H Q S hk q =>
  ww (pw_and pt_w pw_w) (h st H _ S hk fun x k1 H1 hx e1 hk1 => by
    cases x with
    | true => exact hx st H1 Q (S.kp e1 hk) hk1 fun y k2 H2 hy e2 hk2 => q y k2 H2 hy (e1.trans e2) hk2
    | false => exact q _ k1 H1 hx e1 hk1)
theorem w_or {rest : List Expr} (h : EvT X o a ds k fun x k1 => bc x (RT true k1) (EvW X o (.BoolOp .Or (b :: rest) pos) ds k1 RT)) : EvW X o (.BoolOp .Or (a :: b :: rest) pos) ds k RT := fun st H Q S hk q =>
  ww (pw_or pt_w pw_w) (h st H _ S hk fun x k1 H1 hx e1 hk1 => by
    cases x with
    | false => exact hx st H1 Q (S.kp e1 hk) hk1 fun y k2 H2 hy e2 hk2 => q y k2 H2 hy (e1.trans e2) hk2
    | true => exact q _ k1 H1 hx e1 hk1)
theorem t_not (h : EvT X o a ds k fun x k1 => RT (!x) k1) : EvT X o (.UnaryOp .Not a pos) ds k RT := fun st H Q S hk q => wt (pt_not pt_w) (h st H _ S hk fun x k1 H1 hx e1 hk1 => q _ k1 H1 hx e1 hk1)
theorem c_if (h : EvT X o c ds k fun x k1 => bc x (EvC X o a ds k1 R) (EvC X o b ds k1 R)) : EvC X o (.IfExp c a b pos) ds k R := fun st H Q S hk q =>
  we (pe_ifExp pt_w pe_w pe_w) (h st H _ S hk fun x k1 H1 hx e1 hk1 => by
    cases x with
    | true => exact hx st H1 Q (S.kp e1 hk) hk1 fun y k2 v H2 hy e2 hk2 h2 => q y k2 v H2 hy (e1.trans e2) hk2 h2
    | false => exact hx st H1 Q (S.kp e1 hk) hk1 fun y k2 v H2 hy e2 hk2 h2 => q y k2 v H2 hy (e1.trans e2) hk2 h2)
/-- both ways joined -/
theorem c_ifJ {J : Dat → Cs → Prop} (h : EvT X o c ds k fun x k1 => bc x (EvC X o a ds k1 J) (EvC X o b ds k1 J)) (hJ : ∀ d k', J d k' → R d k') : EvC X o (.IfExp c a b pos) ds k R := (c_if h).mono hJ
/-! arguments, displays -/
theorem ca_nil {RA : List Dat → Cs → Prop} (h : RA [] k) : EvA X o [] ds k RA := fun st H Q S hk q => wa pa_nil (q [] k [] H h (Kp.refl _ _) hk DTs.nil)
theorem ca_cons {RA : List Dat → Cs → Prop} (h : EvC X o e ds k fun x k1 => EvA X o es ds k1 fun xs k2 => RA (x :: xs) k2) (hs : starEach (e :: es) X.env = (false, eval e X.env) :: starEach es X.env := by rfl) : EvA X o (e :: es) ds k RA := fun st H Q S hk q =>
  wa (pa_cons pe_w pa_w hs) (h st H _ S hk fun x k1 v H1 hx e1 hk1 h1 => hx st H1 _ (S.kp e1 hk) hk1 fun xs k2 vs H2 hy e2 hk2 h2 => q _ k2 _ H2 hy (e1.trans e2) hk2 (DTs.cons (h1.kp e2 hk1) h2))
theorem EvA.mono {RA RA' : List Dat → Cs → Prop} (h : EvA X o es ds k RA) (w : ∀ d k, RA d k → RA' d k) : EvA X o es ds k RA' := fun st H Q S hk q => h st H Q S hk fun d k' v H' r => q d k' v H' (w d k' r)
theorem ck_nil {RA : List Dat → Cs → Prop} (h : RA [] k) : EvK X o [] ds k RA := fun st H Q S hk q => wk pk_nil (q [] k [] H h (Kp.refl _ _) hk DTs.nil)
theorem ck_cons {RA : List Dat → Cs → Prop} {nm : Option Str} {kpos : Pos} {ks : List Keyword} (h : EvC X o e ds k fun x k1 => EvK X o ks ds k1 fun xs k2 => RA (x :: xs) k2) : EvK X o (⟨nm, e, kpos⟩ :: ks) ds k RA := fun st H Q S hk q =>
  wk (pk_cons pe_w pk_w) (h st H _ S hk fun x k1 v H1 hx e1 hk1 h1 => hx st H1 _ (S.kp e1 hk) hk1 fun xs k2 vs H2 hy e2 hk2 h2 => q _ k2 _ H2 hy (e1.trans e2) hk2 (DTs.cons (h1.kp e2 hk1) h2))
theorem c_tup {cx : Nat} (h : EvA X o es ds k fun xs k1 => (xs.all noC = true ∧ xs.length ≤ 1000) ∧ R (.tup xs) k1) : EvC X o (.Tuple es cx pos) ds k R := fun st H Q S hk q =>
  we (pe_tup pa_w) (h st H _ S hk fun xs k1 vs H1 hx e1 hk1 h1 => ⟨by rw [h1.1]; exact Nat.le_trans hx.1.2 (by decide), fun p np => q _ k1 _ _ hx.2 (e1.trans (Kp.of_ex (Ex.new np))) (hk1.ex (Ex.new np)) (.v (.tup' (.inl (.inl upd_same)) ((h1.unc hx.1.1).kp (Kp.of_ex (Ex.new np)) hk1)))⟩)
theorem ex_back {H H' : Hp} {q : Addr} (e : Kp o H H') (hk : DK X.K o k H) (np : H' q = none) : H q = none ∨ q ∈ o := by
  by_cases m : q ∈ o
  · exact .inr m
  · refine .inl ?_
    cases h : H q with
    | none => rfl
    | some u =>
      have := e q u m h
      rw [np] at this
      cases this
theorem fresh_back {H H' : Hp} {q : Addr} (e : Kp o H H') (hk' : DK X.K o k H') (np : H' q = none) : H q = none := by
  cases h : H q with
  | none => rfl
  | some u =>
    have := e q u (hk'.ne np) h
    rw [np] at this
    cases this
theorem n_disp {RN : List Dat → Cs → Prop} (h : EvA X o es ds k fun xs k1 => (xs.all noC = true ∧ xs.length ≤ 1000) ∧ RN xs k1) : EvN X o (.List es pos) ds k RN := fun st H Q S hk q =>
  we (pe_lst pa_w) (h st H _ S hk fun xs k1 vs H1 hx e1 hk1 h1 => ⟨by rw [h1.1]; exact Nat.le_trans hx.1.2 (by decide), fun p np => q _ k1 p vs _ hx.2 (fresh_back e1 hk1 np) (e1.trans (Kp.of_ex (Ex.new np))) (hk1.ex (Ex.new np)) upd_same ((h1.unc hx.1.1).kp (Kp.of_ex (Ex.new np)) hk1)⟩)
theorem c_lst (h : EvA X o es ds k fun xs k1 => (xs.all noC = true ∧ xs.length ≤ 1000) ∧ R (.lst xs) k1) : EvC X o (.List es pos) ds k R := c_ofN (n_disp h)
/-! t[i], xs[i] -/
@[reducible] def onAt (as : List Dat) (i : Int) (C : Dat → Prop) : Prop := ∃ (j : Nat) (d : Dat), i = (j : Int) ∧ as[j]? = some d ∧ C d
theorem c_ixT (h : EvC X o a ds k fun x k1 => EvC X o b ds k1 fun y k2 => onT x fun as => onI y fun i => onAt as i fun d => R d k2) (hp : PlainIx b := by exact fun _ _ => rfl) : EvC X o (.Subscript a b pos) ds k R := fun st H Q S hk q =>
  we (pe_ix ix_tup pe_w pe_w hp) (h st H _ S hk fun x k1 v H1 hx e1 hk1 h1 => hx st H1 _ (S.kp e1 hk) hk1 fun y k2 w H2 hy e2 hk2 h2 => by
    obtain ⟨as, rfl, hy⟩ := onT_ex hy
    obtain ⟨i, rfl, j, d, rfl, hj, hr⟩ := onI_ex hy
    have h1' := h1.kp e2 hk1
    obtain ⟨p, xs, rfl, hs, hd⟩ := h1'.untup
    obtain ⟨v, g1, g2⟩ := hd.at hj
    exact ⟨_, _, _, v, rfl, h2.unint, hs, atI_nat g1, q _ k2 v H2 hr (e1.trans e2) hk2 (.v g2)⟩)
theorem c_ixL (h : EvC X o a ds k fun x k1 => EvC X o b ds k1 fun y k2 => onL k2 x fun as => onI y fun i => onAt as i fun d => R d k2) (hp : PlainIx b := by exact fun _ _ => rfl) : EvC X o (.Subscript a b pos) ds k R := fun st H Q S hk q =>
  we (pe_ix ix_list pe_w pe_w hp) (h st H _ S hk fun x k1 v H1 hx e1 hk1 h1 => hx st H1 _ (S.kp e1 hk) hk1 fun y k2 w H2 hy e2 hk2 h2 => by
    obtain ⟨p, xs, as, rfl, hs, hd, hy⟩ := onL_ex hk2 hy (h1.kp e2 hk1)
    obtain ⟨i, rfl, j, d, rfl, hj, hr⟩ := onI_ex hy
    obtain ⟨v, g1, g2⟩ := hd.at hj
    exact ⟨_, _, _, v, rfl, h2.unint, hs, atI_nat g1, q _ k2 v H2 hr (e1.trans e2) hk2 (.v g2)⟩)
end
end Wz

set_option Elab.async false
set_option linter.all false
set_option maxRecDepth 100000
set_option maxHeartbeats 4000000
namespace Wz
open PySem PySem.Spec PyProof.Rows L2 Evl

/-! ### defs -/
abbrev FP := List Dat → (Dat → Prop) → Prop
abbrev FN := List Dat → (List Dat → Prop) → Prop
abbrev FD := List Dat → List Dat → (Dat → List Dat → Prop) → Prop
abbrev FE := List Dat → List Dat → (List Dat → List Dat → Prop) → Prop
/-- a def without side -/
def spP (K : PySem.W.Frag) (F : FP) : Sp := fun vs H Q _ => ∃ ds G, DTs K [] H vs ds ∧ F ds G ∧ ∀ d, G d → ∀ v H', Kp [] H H' → DV K [] H' v d → Q v H'
/-- one that tells a new list -/
def spN (K : PySem.W.Frag) (F : FN) : Sp := fun vs H Q _ => ∃ ds G, DTs K [] H vs ds ∧ F ds G ∧ ∀ as, G as → ∀ p xs H', H p = none → Kp [] H H' → H' p = some (.lst xs) → DVs K [] H' xs as → Q (.ref p) H'
/-- one whose first argument is a cell -/
def spD (K : PySem.W.Frag) (F : FD) : Sp := fun vs H Q _ => ∃ (a : Addr) (ws : List V) (ds s : List Dat) (G : Dat → List Dat → Prop), vs = .ref a :: ws ∧ DK K [a] [s] H ∧ DVs K [a] H ws ds ∧ F ds s G ∧ ∀ d s', G d s' → ∀ v H', Kp [a] H H' → DK K [a] [s'] H' → DV K [a] H' v d → Q v H'
/-- such a one that tells a new list -/
def spE (K : PySem.W.Frag) (F : FE) : Sp := fun vs H Q _ => ∃ (a : Addr) (ws : List V) (ds s : List Dat) (G : List Dat → List Dat → Prop), vs = .ref a :: ws ∧ DK K [a] [s] H ∧ DVs K [a] H ws ds ∧ F ds s G ∧ ∀ as s', G as s' → ∀ p xs H', H p = none → Kp [a] H H' → DK K [a] [s'] H' → H' p = some (.lst xs) → DVs K [a] H' xs as → Q (.ref p) H'
structure Cl (P : Program) (w : World) (K : PySem.W.Frag) (mg : Str → Option Value) (base : Heap) (k : Nat) (x : Str) (ps : List Str) (sp : Sp) : Prop where
  ex : ∃ (f : Addr) (fd : FuncData), mg x = some (.ref f) ∧ PySem.W.keepIn K (.ref f) = true ∧ Binds K fd ps [] ∧ FnOk P w K mg base CX0 k f fd ps sp
theorem Cl.mono {P : Program} {w : World} {K : PySem.W.Frag} {mg : Str → Option Value} {base : Heap} {j k : Nat} {x : Str} {ps : List Str} {sp : Sp} (c : Cl P w K mg base j x ps sp) (h : j ≤ k) : Cl P w K mg base k x ps sp := by
  obtain ⟨f, fd, a, b, c1, F⟩ := c.ex
  exact ⟨f, fd, a, b, c1, F.mono h⟩
/-- an argument as what is read -/
@[reducible] def rd (k : Cs) : Dat → Dat
  | .cel i => .lst (k.getD i [])
  | d => d
theorem rd_dt {K : PySem.W.Frag} {o : Os} {k : Cs} {H : Hp} {v : V} {d : Dat} (hk : DK K o k H) (h : DT K o H v d) : DT K [] H v (rd k d) := by
  cases h with
  | v h =>
    have h' : DV K [] H v d := h.less (fun b z => by cases z)
    have e : rd k d = d := by cases h <;> rfl
    rw [e]
    exact .v h'
  | cel hi =>
    rename_i a i
    have hl : i < k.length := by rw [← hk.len]; exact (List.getElem?_eq_some_iff.mp hi).1
    have hki : k[i]? = some (k.getD i []) := by rw [List.getD_eq_getElem?_getD, List.getElem?_eq_getElem hl]; rfl
    obtain ⟨xs, hx, hd⟩ := hk.at_ i a _ hi hki
    exact .v (.lst' (.inl hx) (fun z => by cases z) (hd.less fun b z => by cases z))
theorem rd_dts {K : PySem.W.Frag} {o : Os} {k : Cs} {H : Hp} {vs : List V} {ds : List Dat} (hk : DK K o k H) (h : DTs K o H vs ds) : DTs K [] H vs (ds.map (rd k)) := by
  refine ⟨by rw [List.length_map]; exact h.1, fun i v d a b => ?_⟩
  rw [List.getElem?_map] at b
  cases hd : ds[i]? with
  | none => rw [hd] at b; cases b
  | some d0 =>
    rw [hd] at b
    cases b
    exact rd_dt hk (h.2 i v d0 a hd)
/-- the first argument is a cell -/
@[reducible] def onD (k : Cs) (as : List Dat) (C : Nat → List Dat → List Dat → Prop) : Prop := match as with
  | .cel i :: bs => match k[i]? with
    | some s => C i s bs
    | none => False
  | _ => False
theorem onD_ex {k : Cs} {as : List Dat} {C : Nat → List Dat → List Dat → Prop} (h : onD k as C) : ∃ i s bs, as = .cel i :: bs ∧ k[i]? = some s ∧ C i s bs := by
  cases as with
  | nil => exact h.elim
  | cons a bs =>
    cases a with
    | cel i =>
      cases hi : k[i]? with
      | none => simp only [onD, hi] at h
      | some s =>
        simp only [onD, hi] at h
        exact ⟨i, s, bs, rfl, hi, h⟩
    | _ => exact h.elim
/-- the one cell alone -/
theorem dk_one {K : PySem.W.Frag} {o : Os} {k : Cs} {H : Hp} {i : Nat} {a : Addr} {s : List Dat} (hk : DK K o k H) (hi : o[i]? = some a) (hs : k[i]? = some s) : DK K [a] [s] H := by
  refine ⟨rfl, by simp, fun z hz => by rw [List.mem_singleton] at hz; rw [hz]; exact hk.nl s (List.mem_of_getElem? hs), fun j b cs hj hc => ?_⟩
  cases j with
  | zero =>
    cases hj
    cases hc
    obtain ⟨xs, h1, h2⟩ := hk.at_ i _ _ hi hs
    exact ⟨xs, h1, h2.less fun b hb => by rw [List.mem_singleton] at hb; rw [hb]; exact List.mem_of_getElem? hi⟩
  | succ j => cases hj
theorem dk_back {K : PySem.W.Frag} {o : Os} {k : Cs} {H H' : Hp} {i : Nat} {a : Addr} {s : List Dat} (hk : DK K o k H) (hi : o[i]? = some a) (e : Kp [a] H H') (h : DK K [a] [s] H') : DK K o (k.set i s) H' ∧ Kp o H H' := by
  have n : s.all noL = true := h.nl _ (List.mem_singleton.mpr rfl)
  have hm : a ∈ o := List.mem_of_getElem? hi
  have kp : Kp o H H' := e.more fun b hb => by rw [List.mem_singleton] at hb; rw [hb]; exact hm
  refine ⟨⟨by rw [List.length_set]; exact hk.len, hk.nd, fun z hz => ?_, fun j b cs hj hc => ?_⟩, kp⟩
  · rcases List.mem_or_eq_of_mem_set hz with hz | rfl
    · exact hk.nl z hz
    · exact h.nl _ (List.mem_singleton.mpr rfl)
  by_cases z : i = j
  · subst z
    rw [hi] at hj
    cases hj
    have hl : i < k.length := by rw [← hk.len]; exact (List.getElem?_eq_some_iff.mp hi).1
    rw [List.getElem?_set_self hl] at hc
    cases hc
    obtain ⟨xs, h1, h2⟩ := h.at_ 0 _ _ rfl rfl
    exact ⟨xs, h1, h2.back n o⟩
  · rw [List.getElem?_set_ne z] at hc
    obtain ⟨xs, hx, hd⟩ := hk.at_ j b cs hj hc
    refine ⟨xs, e b _ (fun hb => ?_) hx, hd.kp kp hk⟩
    rw [List.mem_singleton] at hb
    subst hb
    have l1 := (List.getElem?_eq_some_iff.mp hi).1
    exact z ((List.getElem?_inj l1 hk.nd).mp (by rw [hi, hj]))
section
variable {X : Cx} {o : Os} {ds : List (Option Dat)} {k k1 k2 : Cs} {e : Expr} {es : List Expr} {p pos : Pos} {R : Dat → Cs → Prop} {RN : List Dat → Cs → Prop} {x : Str} {ps : List Str} {k' : Nat}
theorem c_call {F : FP} (c : Cl X.prog X.w X.K X.mg X.base k' x ps (spP X.K F)) (hr : Room k' X.A) (h : EvA X o (e :: es) ds k fun as k1 => F (as.map (rd k1)) fun d => noL d = true ∧ R d k1) (hg : Gl X x := by rfl) (hdb : (x == ("__debug__" : Str)) = false := by decide)
    (he : starEach (e :: es) X.env = (false, eval e X.env) :: starEach es X.env := by rfl) (hpl : (backTo pos (starEach es X.env)).any (·.1) = false := by rfl) : EvC X o (.Call (.Name x p) (e :: es) [] pos) ds k R := fun st H Q St hk q => by
  obtain ⟨f, fd, a, b, c1, F1⟩ := c.ex
  refine we (pe_call F1 hr hg a b c1 .nil pass0 pa_w hdb he hpl) (h st H _ St hk fun as k1 vs H1 hx e1 hk1 h1 => ?_)
  refine ⟨as.map (rd k1), _, by rw [List.append_nil]; exact rd_dts hk1 h1, hx, fun d hd v H' e' h' => ?_⟩
  have e2 : Ex H1 H' := e'.ex
  exact q d k1 v H' hd.2 (e1.trans (Kp.of_ex e2)) (hk1.ex e2) (.v (h'.back hd.1 o))
theorem n_call {F : FN} (c : Cl X.prog X.w X.K X.mg X.base k' x ps (spN X.K F)) (hr : Room k' X.A) (h : EvA X o (e :: es) ds k fun as k1 => F (as.map (rd k1)) fun bs => bs.all noL = true ∧ RN bs k1) (hg : Gl X x := by rfl) (hdb : (x == ("__debug__" : Str)) = false := by decide)
    (he : starEach (e :: es) X.env = (false, eval e X.env) :: starEach es X.env := by rfl) (hpl : (backTo pos (starEach es X.env)).any (·.1) = false := by rfl) : EvN X o (.Call (.Name x p) (e :: es) [] pos) ds k RN := fun st H Q St hk q => by
  obtain ⟨f, fd, a, b, c1, F1⟩ := c.ex
  refine we (pe_call F1 hr hg a b c1 .nil pass0 pa_w hdb he hpl) (h st H _ St hk fun as k1 vs H1 hx e1 hk1 h1 => ?_)
  refine ⟨as.map (rd k1), _, by rw [List.append_nil]; exact rd_dts hk1 h1, hx, fun bs hd p xs H' np e' hp h' => ?_⟩
  have e2 : Ex H1 H' := e'.ex
  exact q bs k1 p xs H' hd.2 (fresh_back e1 hk1 np) (e1.trans (Kp.of_ex e2)) (hk1.ex e2) hp (h'.back hd.1 o)
/-- a cell handed on -/
theorem dts_cell {K : PySem.W.Frag} {o : Os} {k : Cs} {H : Hp} {vs : List V} {i : Nat} {s bs : List Dat} (hk : DK K o k H) (h : DTs K o H vs (.cel i :: bs)) (hs : k[i]? = some s) (n : bs.all noC = true) : ∃ a ws, vs = .ref a :: ws ∧ o[i]? = some a ∧ DK K [a] [s] H ∧ DVs K [a] H ws bs := by
  cases vs with
  | nil => exact absurd h.1 (by simp)
  | cons v ws =>
    obtain ⟨h1, h2⟩ := h.uncons
    obtain ⟨a, rfl, ha⟩ := h1.uncel
    exact ⟨a, ws, rfl, ha, dk_one hk ha hs, (h2.unc n).less fun b hb => by rw [List.mem_singleton] at hb; rw [hb]; exact List.mem_of_getElem? ha⟩
theorem c_callD {F : FD} (c : Cl X.prog X.w X.K X.mg X.base k' x ps (spD X.K F)) (hr : Room k' X.A) (h : EvA X o (e :: es) ds k fun as k1 => onD k1 as fun i s bs => bs.all noC = true ∧ F bs s fun d s' => noL d = true ∧ R d (k1.set i s')) (hg : Gl X x := by rfl) (hdb : (x == ("__debug__" : Str)) = false := by decide)
    (he : starEach (e :: es) X.env = (false, eval e X.env) :: starEach es X.env := by rfl) (hpl : (backTo pos (starEach es X.env)).any (·.1) = false := by rfl) : EvC X o (.Call (.Name x p) (e :: es) [] pos) ds k R := fun st H Q St hk q => by
  obtain ⟨f, fd, a, b, c1, F1⟩ := c.ex
  refine we (pe_call F1 hr hg a b c1 .nil pass0 pa_w hdb he hpl) (h st H _ St hk fun as k1 vs H1 hx e1 hk1 h1 => ?_)
  obtain ⟨i, s, bs, rfl, hs, hn, hx⟩ := onD_ex hx
  obtain ⟨aa, ws, rfl, ha, hk2, h2⟩ := dts_cell hk1 h1 hs hn
  refine ⟨aa, ws, bs, s, _, by rw [List.append_nil], hk2, h2, hx, fun d s' hd v H' e' hk' h' => ?_⟩
  obtain ⟨hk3, e3⟩ := dk_back hk1 ha e' hk'
  exact q d _ v H' hd.2 (e1.trans e3) hk3 (.v (h'.back hd.1 o))
theorem n_callD {F : FE} (c : Cl X.prog X.w X.K X.mg X.base k' x ps (spE X.K F)) (hr : Room k' X.A) (h : EvA X o (e :: es) ds k fun as k1 => onD k1 as fun i s bs => bs.all noC = true ∧ F bs s fun cs s' => cs.all noL = true ∧ RN cs (k1.set i s')) (hg : Gl X x := by rfl) (hdb : (x == ("__debug__" : Str)) = false := by decide)
    (he : starEach (e :: es) X.env = (false, eval e X.env) :: starEach es X.env := by rfl) (hpl : (backTo pos (starEach es X.env)).any (·.1) = false := by rfl) : EvN X o (.Call (.Name x p) (e :: es) [] pos) ds k RN := fun st H Q St hk q => by
  obtain ⟨f, fd, a, b, c1, F1⟩ := c.ex
  refine we (pe_call F1 hr hg a b c1 .nil pass0 pa_w hdb he hpl) (h st H _ St hk fun as k1 vs H1 hx e1 hk1 h1 => ?_)
  obtain ⟨i, s, bs, rfl, hs, hn, hx⟩ := onD_ex hx
  obtain ⟨aa, ws, rfl, ha, hk2, h2⟩ := dts_cell hk1 h1 hs hn
  refine ⟨aa, ws, bs, s, _, by rw [List.append_nil], hk2, h2, hx, fun cs s' hd p xs H' np e' hk' hp h' => ?_⟩
  obtain ⟨hk3, e3⟩ := dk_back hk1 ha e' hk'
  exact q cs _ p xs H' hd.2 (fresh_back e1 hk1 np) (e1.trans e3) hk3 hp (h'.back hd.1 o)
end
/-! keywords alone -/
def kperm (pi : List Nat) (n : Nat) {α : Type} (us ws : List α) : List α := match us with
  | [] => if ws.length = n then pi.filterMap (fun i => ws[i]?) else []
  | _ :: _ => []
theorem kperm_rel (pi : List Nat) (n : Nat) {vs : List V} {us : List Value} {zs : List V} {ws : List Value} (r : Vals vs us) (r2 : Vals zs ws) : Vals (kperm pi n vs zs) (kperm pi n us ws) := by
  cases r with
  | cons _ _ => exact .nil
  | nil =>
    unfold kperm
    by_cases hn : zs.length = n
    · have e2 : ws.length = n := by rw [← r2.length]; exact hn
      show Vals (if zs.length = n then pi.filterMap (fun i => zs[i]?) else []) (if ws.length = n then pi.filterMap (fun i => ws[i]?) else [])
      rw [if_pos hn, if_pos e2]
      induction pi with
      | nil => exact .nil
      | cons i pi ih =>
        rw [List.filterMap_cons, List.filterMap_cons]
        cases hz : zs[i]? with
        | none =>
          rw [r2.none_of hz]
          exact ih
        | some z =>
          obtain ⟨u, hu, ru⟩ := r2.get hz
          rw [hu]
          exact .cons ru ih
    · have e2 : ¬ ws.length = n := by rw [← r2.length]; exact hn
      show Vals (if zs.length = n then pi.filterMap (fun i => zs[i]?) else []) (if ws.length = n then pi.filterMap (fun i => ws[i]?) else [])
      rw [if_neg hn, if_neg e2]
      exact .nil
theorem Fun.kb {K : PySem.W.Frag} {x qual : Str} {st : Stmt} {f : Addr} {fd : FuncData} {ps ks : List Str} (F : Fun K x qual st f fd) (pi : List Nat) (n : Nat) (hp : 0 < ps.length)
    (h : ∀ (kV doc pm : Value) (an : Option Addr) (cdv ct : Value) (ws : List Value), ws.length = n → bindArgs (PySem.W.fnOf x qual (defArgs st) (defBody st) (defScope st) .none kV doc pm an cdv ct) ⟨[], ks.zip ws⟩ = pure (ps.zip (kperm pi n [] ws))) : KBinds K fd ps ks (kperm pi n) (kperm pi n) := by
  obtain ⟨oc, od, kV, doc, pm, an, cdv, ct, osl, rfl, lk, hcd⟩ := F.ex
  refine ⟨fun s us ws _ hl => ?_, fun r r2 => kperm_rel pi n r r2⟩
  cases us with
  | cons u us =>
    have hl' : (0 : Nat) = ps.length := hl
    omega
  | nil =>
    by_cases hw : ws.length = n
    · exact .of_eq (h kV doc pm an cdv ct ws hw)
    · have e : kperm pi n ([] : List Value) ws = [] := by
        unfold kperm
        rw [if_neg hw]
      rw [e] at hl
      have hl' : (0 : Nat) = ps.length := hl
      omega
@[reducible] def permD (pi : List Nat) (as : List Dat) : List Dat := pi.filterMap (fun i => as[i]?)
theorem DTs.perm {K : PySem.W.Frag} {o : Os} {H : Hp} {vs : List V} {as : List Dat} (h : DTs K o H vs as) (pi : List Nat) : DTs K o H (pi.filterMap fun i => vs[i]?) (permD pi as) := by
  unfold permD
  induction pi with
  | nil => exact DTs.nil
  | cons i pi ih =>
    rw [List.filterMap_cons, List.filterMap_cons]
    cases ha : as[i]? with
    | none =>
      have : vs[i]? = none := by
        rw [List.getElem?_eq_none_iff] at ha ⊢
        rw [h.1]
        exact ha
      rw [this]
      exact ih
    | some dd =>
      obtain ⟨v, hv, hd⟩ := h.at ha
      rw [hv]
      exact DTs.cons hd ih
structure ClK (P : Program) (w : World) (K : PySem.W.Frag) (mg : Str → Option Value) (base : Heap) (k : Nat) (x : Str) (ps ks : List Str) (pi : List Nat) (sp : Sp) : Prop where
  ex : ∃ (f : Addr) (fd : FuncData), mg x = some (.ref f) ∧ PySem.W.keepIn K (.ref f) = true ∧ KBinds K fd ps ks (kperm pi ks.length) (kperm pi ks.length) ∧ FnOk P w K mg base CX0 k f fd ps sp
section
variable {X : Cx} {o : Os} {ds : List (Option Dat)} {k k1 k2 : Cs} {e : Expr} {es : List Expr} {p pos : Pos} {R : Dat → Cs → Prop} {RN : List Dat → Cs → Prop} {x : Str} {ps ks : List Str} {k' : Nat} {pi : List Nat} {kws : List Keyword}
theorem c_callK {F : FP} (c : ClK X.prog X.w X.K X.mg X.base k' x ps ks pi (spP X.K F)) (hr : Room k' X.A) (h : EvK X o kws ds k fun as k1 => as.length = ks.length ∧ F (permD pi (as.map (rd k1))) fun d => noL d = true ∧ R d k1) (hg : Gl X x := by rfl)
    (hall : (backToKw pos (keywordEach kws X.env)).all (·.1.isSome) = true := by rfl) (hks : (backToKw pos (keywordEach kws X.env)).filterMap (·.1) = ks := by rfl) (hdb : (x == ("__debug__" : Str)) = false := by decide)
    (hpl : ((backTo pos (starEach [] X.env)).any (·.1) || (backToKw pos (keywordEach kws X.env)).any (·.1.isNone)) = false := by rfl) : EvC X o (.Call (.Name x p) [] kws pos) ds k R := fun st H Q St hk q => by
  obtain ⟨f, fd, hm, hkp, hb, F1⟩ := c.ex
  intro pins s I
  refine wpAny_Call_Name_kw (ld_glob I hg hm ?_ hdb)
  refine PySem.W.callWith_KW0 (h₀ := X.base) I.ok.mod.kin hkp hall (thn (h st H (fun zs H2 => spP X.K F (kperm pi ks.length [] zs) H2 Q E0) St hk (fun as k1 vs H1 hx e1 hk1 h1 => ?_) pos pins s I) fun ws s2 ⟨zs, H2, I2, rz, q2⟩ => ⟨I2.kIn, ?_⟩) hpl
  · refine ⟨permD pi (as.map (rd k1)), _, ?_, hx.2, fun d hd v H' e' h' => ?_⟩
    · unfold kperm
      rw [if_pos (by rw [h1.1]; exact hx.1)]
      exact (rd_dts hk1 h1).perm pi
    · exact q d k1 v H' hd.2 (e1.trans (Kp.of_ex e'.ex)) (hk1.ex e'.ex) (.v (h'.back hd.1 o))
  · rw [hks]
    exact run_fnk F1 hr hb pass0 I2 .nil rz q2
theorem n_callK {F : FN} (c : ClK X.prog X.w X.K X.mg X.base k' x ps ks pi (spN X.K F)) (hr : Room k' X.A) (h : EvK X o kws ds k fun as k1 => as.length = ks.length ∧ F (permD pi (as.map (rd k1))) fun bs => bs.all noL = true ∧ RN bs k1) (hg : Gl X x := by rfl)
    (hall : (backToKw pos (keywordEach kws X.env)).all (·.1.isSome) = true := by rfl) (hks : (backToKw pos (keywordEach kws X.env)).filterMap (·.1) = ks := by rfl) (hdb : (x == ("__debug__" : Str)) = false := by decide)
    (hpl : ((backTo pos (starEach [] X.env)).any (·.1) || (backToKw pos (keywordEach kws X.env)).any (·.1.isNone)) = false := by rfl) : EvN X o (.Call (.Name x p) [] kws pos) ds k RN := fun st H Q St hk q => by
  obtain ⟨f, fd, hm, hkp, hb, F1⟩ := c.ex
  intro pins s I
  refine wpAny_Call_Name_kw (ld_glob I hg hm ?_ hdb)
  refine PySem.W.callWith_KW0 (h₀ := X.base) I.ok.mod.kin hkp hall (thn (h st H (fun zs H2 => spN X.K F (kperm pi ks.length [] zs) H2 Q E0) St hk (fun as k1 vs H1 hx e1 hk1 h1 => ?_) pos pins s I) fun ws s2 ⟨zs, H2, I2, rz, q2⟩ => ⟨I2.kIn, ?_⟩) hpl
  · refine ⟨permD pi (as.map (rd k1)), _, ?_, hx.2, fun bs hd pp xs H' np e' hp h' => ?_⟩
    · unfold kperm
      rw [if_pos (by rw [h1.1]; exact hx.1)]
      exact (rd_dts hk1 h1).perm pi
    · exact q bs k1 pp xs H' hd.2 (fresh_back e1 hk1 np) (e1.trans (Kp.of_ex e'.ex)) (hk1.ex e'.ex) hp (h'.back hd.1 o)
  · rw [hks]
    exact run_fnk F1 hr hb pass0 I2 .nil rz q2
end

/-! ### blocks -/
/-- the cells are those of the entry, and new ones -/
structure Frs (o0 o : Os) (H0 : Hp) : Prop where
  pre : ∃ l, o = o0 ++ l
  new : ∀ b ∈ o, b ∉ o0 → H0 b = none
theorem Frs.kp {o0 o : Os} {H0 H H1 : Hp} (f : Frs o0 o H0) (e0 : Kp o0 H0 H) (e : Kp o H H1) : Kp o0 H0 H1 := fun b u nb hb => by
  refine e b u (fun m => ?_) (e0 b u nb hb)
  rw [f.new b m nb] at hb
  cases hb
/-- from any heap behind H0, where the names hold ds, the block does what D wants -/
def AS (X : Cx) (o0 o : Os) (sts : List Stmt) (D : Ends) (ds : List (Option Dat)) (k : Cs) (H0 : Hp) : Prop :=
  ∀ st H, Sat X.K o st H ds → DK X.K o k H → Kp o0 H0 H → Frs o0 o H0 → WB X sts D st H
/-- what a def's end wants -/
def RetC (K : PySem.W.Frag) (o0 : Os) (H0 : Hp) (rt : VK) (G : Dat → Cs → Prop) : Prop := ∀ d k' v H1, G d k' → Kp o0 H0 H1 → DK K o0 k' H1 → DV K o0 H1 v d → rt v H1
def RetN (K : PySem.W.Frag) (o0 : Os) (H0 : Hp) (rt : VK) (G : List Dat → Cs → Prop) : Prop := ∀ as k' p xs H1, G as k' → H0 p = none → p ∉ o0 → Kp o0 H0 H1 → DK K o0 k' H1 → H1 p = some (.lst xs) → DVs K o0 H1 xs as → rt (.ref p) H1
section
variable {X : Cx} {o0 o : Os} {ds : List (Option Dat)} {k k1 k2 : Cs} {e c : Expr} {d : Dat} {as : List Dat} {pos pos' : Pos} {rest body orelse : List Stmt} {D : Ends} {H0 : Hp} {G : Dat → Cs → Prop} {GN : List Dat → Cs → Prop}
theorem as_nil (h : ∀ st H, Sat X.K o st H ds → DK X.K o k H → Kp o0 H0 H → Frs o0 o H0 → D.nx st H) : AS X o0 o [] D ds k H0 := fun st H S hk e0 fr => wb pss_nil (h st H S hk e0 fr)
theorem wb_cons {s : Stmt} {st : L2.St} {H : Hp} (h : WS X s { D with nx := fun st' H' => WB X rest D st' H' } st H) : WB X (s :: rest) D st H := wb (pss_cons ps_w pss_w) h
theorem as_asg {i : Nat} {x : Str} (hN : X.N.Nodup) (h : EvC X o e ds k fun d k1 => AS X o0 o rest D (ds.set i (some d)) k1 H0) (hi : X.N[i]? = some x := by rfl) (hx : Loc X.env.scope x := by exact Or.inl rfl) (hs : swapsWith e (some (.Name x pos')) pos.line X.env = pure false := by rfl)
    (hf : X.fn x = true ∨ X.env.scope.names.lookup x = some .local := by exact .inl rfl) : AS X o0 o (.Assign [.Name x pos'] e pos :: rest) D ds k H0 := fun st H S hk e0 fr =>
  wb_cons (wss (ps_set hN hi hx pe_w hs hf) (h st H _ S hk fun d k1 v H1 hr e1 hk1 h1 => hr _ H1 ((S.kp e1 hk).set h1) hk1 (fr.kp e0 e1) fr))
/-- a new cell -/
theorem as_asgN {i : Nat} {x : Str} (hN : X.N.Nodup) (h : EvN X o e ds k fun as k1 => as.all noL = true ∧ ∀ p, AS X o0 (o ++ [p]) rest D (ds.set i (some (.cel k1.length))) (k1 ++ [as]) H0) (hi : X.N[i]? = some x := by rfl) (hx : Loc X.env.scope x := by exact Or.inl rfl) (hs : swapsWith e (some (.Name x pos')) pos.line X.env = pure false := by rfl)
    (hf : X.fn x = true ∨ X.env.scope.names.lookup x = some .local := by exact .inl rfl) : AS X o0 o (.Assign [.Name x pos'] e pos :: rest) D ds k H0 := fun st H S hk e0 fr =>
  wb_cons (wss (ps_set hN hi hx pe_w hs hf) (h st H _ S hk fun as k1 p xs H1 hr np e1 hk1 hp h1 => by
    have n1 := hk.ne np
    have hk2 := dk_plus hk1 n1 hp h1 hr.1
    have fit : ∀ (v : V) (d : Dat), DT X.K o H v d → DT X.K (o ++ [p]) H1 v d := fun v d q => by
      cases q with
      | v q => exact .v ((q.plus np).kp' e1 hk fun b hb => List.mem_append_left _ hb)
      | cel q => exact .cel (by rw [List.getElem?_append_left (List.getElem?_eq_some_iff.mp q).1]; exact q)
    have S1 : Sat X.K (o ++ [p]) st H1 ds := ⟨S.1, fun j d hd => let ⟨v, a, b⟩ := S.2 j d hd; ⟨v, a, fit v d b⟩⟩
    refine hr.2 p _ H1 (S1.set (.cel ?_)) hk2 (fr.kp e0 e1) ⟨?_, fun b hb nb => ?_⟩
    · rw [← hk1.len, List.getElem?_append_right (Nat.le_refl _), Nat.sub_self]
      rfl
    · obtain ⟨l, rfl⟩ := fr.pre
      exact ⟨l ++ [p], by rw [List.append_assoc]⟩
    · rcases List.mem_append.mp hb with hb | hb
      · exact fr.new b hb nb
      · rw [List.mem_singleton] at hb
        subst hb
        cases h0 : H0 b with
        | none => rfl
        | some u =>
          have := e0 b u nb h0
          rw [np] at this
          cases this))
theorem as_drop (h : EvC X o e ds k fun _ k1 => AS X o0 o rest D ds k1 H0) (hs : swapsWith e none pos.line X.env = pure false := by rfl) : AS X o0 o (.Expr e pos :: rest) D ds k H0 := fun st H S hk e0 fr =>
  wb_cons (wss (ps_expr pe_w hs) (h st H _ S hk fun d k1 v H1 hr e1 hk1 h1 => hr _ H1 (S.kp e1 hk) hk1 (fr.kp e0 e1) fr))
theorem as_ret (hq : RetC X.K o0 H0 D.rt G) (h : EvC X o e ds k fun d k1 => noC d = true ∧ G d (k1.take o0.length)) : AS X o0 o (.Return (some e) pos :: rest) D ds k H0 := fun st H S hk e0 fr =>
  wb_cons (wss (ps_ret pe_w) (h st H _ S hk fun d k1 v H1 hr e1 hk1 h1 => by
    obtain ⟨l, rfl⟩ := fr.pre
    exact hq d _ v H1 hr.2 (fr.kp e0 e1) (dk_take hk1) ((h1.unc hr.1).less fun b hb => List.mem_append_left _ hb)))
theorem as_retN (hq : RetN X.K o0 H0 D.rt GN) (h : EvN X o e ds k fun as k1 => GN as (k1.take o0.length)) : AS X o0 o (.Return (some e) pos :: rest) D ds k H0 := fun st H S hk e0 fr =>
  wb_cons (wss (ps_ret pe_w) (h st H _ S hk fun as k1 p xs H1 hr np e1 hk1 hp h1 => by
    have n1 := hk.ne np
    have h0 : H0 p = none := by
      cases h0 : H0 p with
      | none => rfl
      | some u =>
        obtain ⟨l, rfl⟩ := fr.pre
        have := e0 p u (fun z => n1 (List.mem_append_left _ z)) h0
        rw [np] at this
        cases this
    obtain ⟨l, rfl⟩ := fr.pre
    exact hq as _ p xs H1 hr h0 (fun z => n1 (List.mem_append_left _ z)) (fr.kp e0 e1) (dk_take hk1) hp (h1.less fun b hb => List.mem_append_left _ hb)))
/-- return x, x a cell of the def's own -/
theorem as_retC (hq : RetN X.K o0 H0 D.rt GN) (h : EvC X o e ds k fun d k1 => ∃ i s, d = .cel i ∧ o0.length ≤ i ∧ k1[i]? = some s ∧ GN s (k1.take o0.length)) : AS X o0 o (.Return (some e) pos :: rest) D ds k H0 := fun st H S hk e0 fr =>
  wb_cons (wss (ps_ret pe_w) (h st H _ S hk fun d k1 v H1 hr e1 hk1 h1 => by
    obtain ⟨i, s, rfl, hi, hs, hr⟩ := hr
    obtain ⟨a, rfl, ha⟩ := h1.uncel
    obtain ⟨xs, hx, hd⟩ := hk1.at_ i a s ha hs
    have nd := hk1.nd
    obtain ⟨l, rfl⟩ := fr.pre
    have na : a ∉ o0 := fun m => by
      rw [List.getElem?_append_right hi] at ha
      exact (List.nodup_append.mp nd).2.2 a m a (List.mem_of_getElem? ha) rfl
    exact hq s _ a xs H1 hr (fr.new a (List.mem_of_getElem? ha) na) na (fr.kp e0 e1) (dk_take hk1) hx (hd.less fun b hb => List.mem_append_left _ hb)))
theorem as_if (h : EvT X o c ds k fun b k1 => bc b (AS X o0 o body { D with nx := fun st' H' => WB X rest D st' H' } ds k1 H0) (AS X o0 o orelse { D with nx := fun st' H' => WB X rest D st' H' } ds k1 H0)) : AS X o0 o (.If c body orelse pos :: rest) D ds k H0 := fun st H S hk e0 fr =>
  wb_cons (wss (ps_if pt_w pss_w pss_w) (h st H _ S hk fun b k1 H1 hb e1 hk1 => by
    cases b with
    | true => exact hb st H1 (S.kp e1 hk) hk1 (fr.kp e0 e1) fr
    | false => exact hb st H1 (S.kp e1 hk) hk1 (fr.kp e0 e1) fr))
/-- the end of a branch: what follows the if -/
theorem as_go (h : AS X o0 o rest D ds k H0) : AS X o0 o [] { D with nx := fun st' H' => WB X rest D st' H' } ds k H0 := as_nil h
theorem as_ifn (h : EvT X o c ds k fun b k1 => bc b (AS X o0 o body { D with nx := fun st' H' => WB X rest D st' H' } ds k1 H0) (AS X o0 o rest D ds k1 H0)) : AS X o0 o (.If c body [] pos :: rest) D ds k H0 :=
  as_if (h.mono fun b k1 hb => by
    cases b with
    | true => exact hb
    | false => exact as_go hb)
/-- what is known of both branches' ends -/
theorem as_join {J : List (Option Dat) → Cs → Prop} (hJ : ∀ es q, J es q → AS X o0 o rest D es q H0) (h : AS X o0 o body { D with nx := fun st' H' => ∃ es q, J es q ∧ Sat X.K o st' H' es ∧ DK X.K o q H' ∧ Kp o0 H0 H' ∧ Frs o0 o H0 } ds k H0) : AS X o0 o body { D with nx := fun st' H' => WB X rest D st' H' } ds k H0 := fun st H S hk e0 fr => by
  have h1 := h st H S hk e0 fr
  intro pins s I
  refine thn (h1 pins s I) fun f s' hf => ?_
  cases f with
  | next =>
    obtain ⟨σ', H', I', es, q, j, S', hk', e', fr'⟩ := hf
    exact ⟨σ', H', I', hJ es q j σ' H' S' hk' e' fr'⟩
  | brk => exact hf
  | cont => exact hf
  | ret u => exact hf
theorem as_joined {J : List (Option Dat) → Cs → Prop} (j : J ds k) (hD : D.nx = fun st' H' => ∃ es q, J es q ∧ Sat X.K o st' H' es ∧ DK X.K o q H' ∧ Kp o0 H0 H' ∧ Frs o0 o H0) : AS X o0 o [] D ds k H0 := as_nil fun st H S hk e0 fr => by
  rw [hD]
  exact ⟨ds, k, j, S, hk, e0, fr⟩
/-- if .., both ways going on as J -/
theorem as_ifJ (J : List (Option Dat) → Cs → Prop) (h : EvT X o c ds k fun b k1 => bc b (AS X o0 o body { D with nx := fun st' H' => ∃ es q, J es q ∧ Sat X.K o st' H' es ∧ DK X.K o q H' ∧ Kp o0 H0 H' ∧ Frs o0 o H0 } ds k1 H0) (AS X o0 o orelse { D with nx := fun st' H' => ∃ es q, J es q ∧ Sat X.K o st' H' es ∧ DK X.K o q H' ∧ Kp o0 H0 H' ∧ Frs o0 o H0 } ds k1 H0)) (hJ : ∀ es q, J es q → AS X o0 o rest D es q H0) : AS X o0 o (.If c body orelse pos :: rest) D ds k H0 :=
  as_if (h.mono fun b k1 hb => by
    cases b with
    | true => exact as_join hJ hb
    | false => exact as_join hJ hb)
/-- a, b = t -/
theorem as_unp2 {i j : Nat} {x y : Str} {px py pt : Pos} {kt : Nat} (hN : X.N.Nodup) (hc : X.calm = true) (h : EvC X o e ds k fun d k1 => onT d fun as => ∃ d1 d2, as = [d1, d2] ∧ AS X o0 o rest D ((ds.set i (some d1)).set j (some d2)) k1 H0)
    (hi : X.N[i]? = some x := by rfl) (hj : X.N[j]? = some y := by rfl) (hx : Loc X.env.scope x := by exact Or.inl rfl) (hy : Loc X.env.scope y := by exact Or.inl rfl) (hfx : X.fn x = true ∨ X.env.scope.names.lookup x = some .local := by exact .inl rfl) (hfy : X.fn y = true ∨ X.env.scope.names.lookup y = some .local := by exact .inl rfl)
    (hs : swapsWithSole [.Tuple [.Name x px, .Name y py] kt pt] e pos.line X.env = pure false := by rfl) (hw : swappedStores [.Tuple [.Name x px, .Name y py] kt pt] e X.env = pure none := by rfl) :
    AS X o0 o (.Assign [.Tuple [.Name x px, .Name y py] kt pt] e pos :: rest) D ds k H0 := fun st H S hk e0 fr =>
  wb_cons (wss (ps_asg pe_w (pg_tup hc (pgs_cons (pg_name hN hi hx hfx) (pgs_cons (pg_name hN hj hy hfy) pgs_nil))) hs hw) (h st H _ S hk fun d k1 v H1 hr e1 hk1 h1 => by
    obtain ⟨as, rfl, hz⟩ := onT_ex hr
    obtain ⟨d1, d2, rfl, hy⟩ := hz
    obtain ⟨a, xs, rfl, hsq, hd⟩ := h1.untup
    match xs, hd with
    | [v1, v2], hd =>
      exact ⟨a, _, rfl, hsq, rfl, v1, _, rfl, v2, _, rfl, rfl, hy _ H1 (((S.kp e1 hk).set (.v (hd.2 0 _ _ rfl rfl))).set (.v (hd.2 1 _ _ rfl rfl))) hk1 (fr.kp e0 e1) fr⟩))
theorem as_unp3 {i j l : Nat} {x y z : Str} {px py pz pt : Pos} {kt : Nat} (hN : X.N.Nodup) (hc : X.calm = true) (h : EvC X o e ds k fun d k1 => onT d fun as => ∃ d1 d2 d3, as = [d1, d2, d3] ∧ AS X o0 o rest D (((ds.set i (some d1)).set j (some d2)).set l (some d3)) k1 H0)
    (hi : X.N[i]? = some x := by rfl) (hj : X.N[j]? = some y := by rfl) (hl : X.N[l]? = some z := by rfl) (hx : Loc X.env.scope x := by exact Or.inl rfl) (hy : Loc X.env.scope y := by exact Or.inl rfl) (hz : Loc X.env.scope z := by exact Or.inl rfl)
    (hfx : X.fn x = true ∨ X.env.scope.names.lookup x = some .local := by exact .inl rfl) (hfy : X.fn y = true ∨ X.env.scope.names.lookup y = some .local := by exact .inl rfl) (hfz : X.fn z = true ∨ X.env.scope.names.lookup z = some .local := by exact .inl rfl)
    (hs : swapsWithSole [.Tuple [.Name x px, .Name y py, .Name z pz] kt pt] e pos.line X.env = pure false := by rfl) (hw : swappedStores [.Tuple [.Name x px, .Name y py, .Name z pz] kt pt] e X.env = pure none := by rfl) :
    AS X o0 o (.Assign [.Tuple [.Name x px, .Name y py, .Name z pz] kt pt] e pos :: rest) D ds k H0 := fun st H S hk e0 fr =>
  wb_cons (wss (ps_asg pe_w (pg_tup hc (pgs_cons (pg_name hN hi hx hfx) (pgs_cons (pg_name hN hj hy hfy) (pgs_cons (pg_name hN hl hz hfz) pgs_nil)))) hs hw) (h st H _ S hk fun d k1 v H1 hr e1 hk1 h1 => by
    obtain ⟨as, rfl, hz⟩ := onT_ex hr
    obtain ⟨d1, d2, d3, rfl, hy⟩ := hz
    obtain ⟨a, xs, rfl, hsq, hd⟩ := h1.untup
    match xs, hd with
    | [v1, v2, v3], hd =>
      exact ⟨a, _, rfl, hsq, rfl, v1, _, rfl, v2, _, rfl, v3, _, rfl, rfl, hy _ H1 ((((S.kp e1 hk).set (.v (hd.2 0 _ _ rfl rfl))).set (.v (hd.2 1 _ _ rfl rfl))).set (.v (hd.2 2 _ _ rfl rfl))) hk1 (fr.kp e0 e1) fr⟩))
/-- a, b = e1, e2, both plain names -/
theorem as_par {i j : Nat} {x y : Str} {e1 e2 : Expr} {px py pt pt2 : Pos} {kt kt2 : Nat} (hN : X.N.Nodup) (hc : X.calm = true) (h : EvA X o [e1, e2] ds k fun as k1 => ∃ d1 d2, as = [d1, d2] ∧ AS X o0 o rest D ((ds.set i (some d1)).set j (some d2)) k1 H0)
    (hi : X.N[i]? = some x := by rfl) (hj : X.N[j]? = some y := by rfl) (hij : i ≠ j := by decide) (hx : X.env.scope.names.lookup x = some .local := by rfl) (hy : X.env.scope.names.lookup y = some .local := by rfl)
    (hw : swappedStores [.Tuple [.Name x px, .Name y py] kt pt] (.Tuple [e1, e2] kt2 pt2) X.env = pure (some [x, y]) := by rfl) (hs : swapsWithSole [.Tuple [.Name x px, .Name y py] kt pt] (.Tuple [e1, e2] kt2 pt2) pos.line X.env = pure false := by rfl) :
    AS X o0 o (.Assign [.Tuple [.Name x px, .Name y py] kt pt] (.Tuple [e1, e2] kt2 pt2) pos :: rest) D ds k H0 := fun st H S hk e0 fr =>
  wb_cons (wss (ps_par hc hN hi hj hij hx hy pa_w hw hs) (h st H _ S hk fun as k1 vs H1 hr e1 hk1 h1 => by
    obtain ⟨d1, d2, rfl, hr⟩ := hr
    match vs, h1 with
    | [v1, v2], h1 =>
      exact ⟨v1, v2, rfl, hr _ H1 (((S.kp e1 hk).set (h1.2 0 _ _ rfl rfl)).set (h1.2 1 _ _ rfl rfl)) hk1 (fr.kp e0 e1) fr⟩))
theorem as_par3 {i j l : Nat} {x y z : Str} {e1 e2 e3 : Expr} {px py pz pt pt2 : Pos} {kt kt2 : Nat} (hN : X.N.Nodup) (hc : X.calm = true) (h : EvA X o [e1, e2, e3] ds k fun as k1 => ∃ d1 d2 d3, as = [d1, d2, d3] ∧ AS X o0 o rest D (((ds.set i (some d1)).set j (some d2)).set l (some d3)) k1 H0)
    (hi : X.N[i]? = some x := by rfl) (hj : X.N[j]? = some y := by rfl) (hl : X.N[l]? = some z := by rfl) (hij : i ≠ j := by decide) (hil : i ≠ l := by decide) (hjl : j ≠ l := by decide) (hx : X.env.scope.names.lookup x = some .local := by rfl) (hy : X.env.scope.names.lookup y = some .local := by rfl) (hz : X.env.scope.names.lookup z = some .local := by rfl)
    (hw : swappedStores [.Tuple [.Name x px, .Name y py, .Name z pz] kt pt] (.Tuple [e1, e2, e3] kt2 pt2) X.env = pure (some [x, y, z]) := by rfl) (hs : swapsWithSole [.Tuple [.Name x px, .Name y py, .Name z pz] kt pt] (.Tuple [e1, e2, e3] kt2 pt2) pos.line X.env = pure false := by rfl) :
    AS X o0 o (.Assign [.Tuple [.Name x px, .Name y py, .Name z pz] kt pt] (.Tuple [e1, e2, e3] kt2 pt2) pos :: rest) D ds k H0 := fun st H S hk e0 fr =>
  wb_cons (wss (ps_par3 hc hN hi hj hl hij hil hjl hx hy hz pa_w hw hs) (h st H _ S hk fun as k1 vs H1 hr e1 hk1 h1 => by
    obtain ⟨d1, d2, d3, rfl, hr⟩ := hr
    match vs, h1 with
    | [v1, v2, v3], h1 =>
      exact ⟨v1, v2, v3, rfl, hr _ H1 ((((S.kp e1 hk).set (h1.2 0 _ _ rfl rfl)).set (h1.2 1 _ _ rfl rfl)).set (h1.2 2 _ _ rfl rfl)) hk1 (fr.kp e0 e1) fr⟩))
/-- cell[j] = e -/
theorem as_cell {eo ei : Expr} (h : EvC X o e ds k fun d k1 => EvC X o eo ds k1 fun dc k2 => EvC X o ei ds k2 fun di k3 => noL d = true ∧ ∃ (i j : Nat) (s : List Dat), dc = .cel i ∧ di = .int (j : Int) ∧ k3[i]? = some s ∧ j < s.length ∧ AS X o0 o rest D ds (k3.set i (s.set j d)) H0) {tpos : Pos}
    (hs : swapsWithSole [.Subscript eo ei tpos] e pos.line X.env = pure false := by rfl) (hw : swappedStores [.Subscript eo ei tpos] e X.env = pure none := by rfl)
    (hpg : PG X (.Subscript eo ei tpos) (gSub (WE X eo) (WE X ei) rSetL) := by exact pg_sub pe_w pe_w set_list) :
    AS X o0 o (.Assign [.Subscript eo ei tpos] e pos :: rest) D ds k H0 := fun st H S hk e0 fr =>
  wb_cons (wss (ps_asg pe_w hpg hs hw) (h st H _ S hk fun d k1 v H1 hr e1 hk1 h1 => hr st H1 _ (S.kp e1 hk) hk1 fun dc k2 u H2 hr e2 hk2 h2 => hr st H2 _ ((S.kp e1 hk).kp e2 hk1) hk2 fun di k3 w H3 hr e3 hk3 h3 => by
    obtain ⟨nd, i, j, s, rfl, rfl, hs', hj, hr⟩ := hr
    obtain ⟨a, rfl, ha⟩ := h2.uncel
    have hw' := h3.unint
    subst hw'
    obtain ⟨xs, hx, hd⟩ := hk3.at_ i a s ha hs'
    have hv := ((h1.kp e2 hk1).kp e3 hk2).unc (by cases d <;> first | rfl | cases nd)
    have S3 := ((S.kp e1 hk).kp e2 hk1).kp e3 hk2
    have hlx : j < xs.length := by rw [hd.1]; exact hj
    have hdv : DVs X.K o H3 (xs.set j v) (s.set j d) := by
      refine ⟨by rw [List.length_set, List.length_set]; exact hd.1, fun l y z ga gb => ?_⟩
      by_cases e : j = l
      · subst e
        rw [List.getElem?_set_self hlx] at ga
        rw [List.getElem?_set_self hj] at gb
        cases ga
        cases gb
        exact hv
      · rw [List.getElem?_set_ne e] at ga gb
        exact hd.2 l y z ga gb
    have nl : (s.set j d).all noL = true := List.all_eq_true.mpr fun z hz => by
      rcases List.mem_or_eq_of_mem_set hz with hz | rfl
      · exact List.all_eq_true.mp (hk3.nl s (List.mem_of_getElem? hs')) z hz
      · exact nd
    obtain ⟨hk4, e4⟩ := dk_set hk3 ha hdv nl
    exact ⟨a, xs, (j : Int), j, rfl, rfl, hx, ixN_nat hlx, hr st _ (S3.kp e4 hk3) hk4 (fr.kp (fr.kp (fr.kp (fr.kp e0 e1) e2) e3) e4) fr⟩))
end

/-! ### a def from its body -/
section
variable {P : Program} {w : World} {K : PySem.W.Frag} {mg : Str → Option Value} {base : Heap} {f : Addr} {fd : FuncData} {N ps : List Str} {k : Nat}
theorem sat_start {H : Hp} {o : Os} {vs : List V} {ds : List Dat} {m : Nat} (h : DTs K o H vs ds) (hm : N.length = ds.length + m) : Sat K o (L2.start N vs) H (ds.map some ++ List.replicate m none) := by
  refine ⟨?_, fun i d e => ?_⟩
  · unfold L2.start
    rw [List.length_append, List.length_map, List.length_replicate, List.length_append, List.length_map, List.length_replicate, h.1]
    omega
  · by_cases hi : i < ds.length
    · rw [List.getElem?_append_left (by rw [List.length_map]; exact hi), List.getElem?_map] at e
      cases q : ds[i]? with
      | none => rw [q] at e; cases e
      | some d' =>
        rw [q] at e
        have e' : d' = d := by simpa using e
        subst e'
        obtain ⟨v, h1, h2⟩ := h.at q
        refine ⟨v, ?_, h2⟩
        unfold L2.start
        rw [List.getElem?_append_left (by rw [List.length_map, h.1]; exact hi), List.getElem?_map, h1]
        rfl
    · rw [List.getElem?_append_right (by rw [List.length_map]; omega), List.getElem?_replicate] at e
      split at e <;> cases e
theorem dk_none {K : PySem.W.Frag} {H : Hp} : DK K [] [] H := DK.mk rfl (by simp) (fun s hs => absurd hs (by simp)) (fun i a as hi _ => absurd hi (by simp))
theorem frs_self {o : Os} {H : Hp} : Frs o o H := ⟨⟨[], by rw [List.append_nil]⟩, fun b hb nb => absurd hb nb⟩
theorem fn_P {x qual : Str} {st : Stmt} {F : FP} (Fn : Fun K x qual st f fd) (Sc : FnScope N ps (defScope st)) (len : ∀ ds G, F ds G → ds.length = ps.length)
    (hb : ∀ (cdv : Value) (A : Around) (outer : List Env) (s : Shared) (H : Hp) (Q : VK) (E : XK) (ds : List Dat) (G : Dat → Prop), Room k (A.deeper (envOfC qual (defScope st) s.heap.objs.size f cdv)) → F ds G → RetC K [] H Q (fun d _ => G d) →
      AS (cxOf CX0 P w K mg base N qual (defScope st) f cdv A outer s H E).nox [] [] (defBody st) { nx := fun _ H' => Q .non H', rt := Q } (ds.map some ++ List.replicate (N.length - ds.length) none) [] H) : FnOk P w K mg base CX0 (k + 1) f fd ps (spP K F) := by
  refine Fn.ok Sc (fun vs H Q E h => ?_) (fun cdv A outer s H vs Q E hr h => ⟨_, pss_w, ?_⟩)
  · obtain ⟨ds, G, h1, h2, _⟩ := h
    exact h1.1.trans (len ds G h2)
  · obtain ⟨ds, G, h1, h2, q⟩ := h
    have hN : ps.length ≤ N.length := by
      have e := congrArg List.length Sc.pre
      rw [List.length_take] at e
      omega
    refine hb cdv A outer s H Q E ds G hr h2 (fun d k' v H1 g e _ hv => q d g v H1 e hv) _ H (sat_start h1 ?_) dk_none (Kp.refl _ _) frs_self
    have := len ds G h2
    omega
theorem fn_N {x qual : Str} {st : Stmt} {F : FN} (Fn : Fun K x qual st f fd) (Sc : FnScope N ps (defScope st)) (len : ∀ ds G, F ds G → ds.length = ps.length)
    (hb : ∀ (cdv : Value) (A : Around) (outer : List Env) (s : Shared) (H : Hp) (Q : VK) (E : XK) (ds : List Dat) (G : List Dat → Prop), Room k (A.deeper (envOfC qual (defScope st) s.heap.objs.size f cdv)) → F ds G → RetN K [] H Q (fun d _ => G d) →
      AS (cxOf CX0 P w K mg base N qual (defScope st) f cdv A outer s H E).nox [] [] (defBody st) { nx := fun _ H' => Q .non H', rt := Q } (ds.map some ++ List.replicate (N.length - ds.length) none) [] H) : FnOk P w K mg base CX0 (k + 1) f fd ps (spN K F) := by
  refine Fn.ok Sc (fun vs H Q E h => ?_) (fun cdv A outer s H vs Q E hr h => ⟨_, pss_w, ?_⟩)
  · obtain ⟨ds, G, h1, h2, _⟩ := h
    exact h1.1.trans (len ds G h2)
  · obtain ⟨ds, G, h1, h2, q⟩ := h
    have hN : ps.length ≤ N.length := by
      have e := congrArg List.length Sc.pre
      rw [List.length_take] at e
      omega
    refine hb cdv A outer s H Q E ds G hr h2 (fun as k' p xs H1 g np _ e _ hp hv => q as g p xs H1 np e hp hv) _ H (sat_start h1 ?_) dk_none (Kp.refl _ _) frs_self
    have := len ds G h2
    omega
theorem fn_D {x qual : Str} {st : Stmt} {F : FD} (Fn : Fun K x qual st f fd) (Sc : FnScope N ps (defScope st)) (len : ∀ ds s G, F ds s G → ds.length + 1 = ps.length)
    (hb : ∀ (cdv : Value) (A : Around) (outer : List Env) (s : Shared) (H : Hp) (Q : VK) (E : XK) (a : Addr) (ds c : List Dat) (G : Dat → List Dat → Prop), Room k (A.deeper (envOfC qual (defScope st) s.heap.objs.size f cdv)) → F ds c G → RetC K [a] H Q (fun d k' => ∃ c', k' = [c'] ∧ G d c') →
      AS (cxOf CX0 P w K mg base N qual (defScope st) f cdv A outer s H E).nox [a] [a] (defBody st) { nx := fun _ H' => Q .non H', rt := Q } ((Dat.cel 0 :: ds).map some ++ List.replicate (N.length - (ds.length + 1)) none) [c] H) : FnOk P w K mg base CX0 (k + 1) f fd ps (spD K F) := by
  refine Fn.ok Sc (fun vs H Q E h => ?_) (fun cdv A outer s H vs Q E hr h => ⟨_, pss_w, ?_⟩)
  · obtain ⟨a, ws, ds, c, G, rfl, h0, h1, h2, _⟩ := h
    show ws.length + 1 = ps.length
    rw [h1.1]
    exact len ds c G h2
  · obtain ⟨a, ws, ds, c, G, rfl, h0, h1, h2, q⟩ := h
    have hN : ps.length ≤ N.length := by
      have e := congrArg List.length Sc.pre
      rw [List.length_take] at e
      omega
    refine hb cdv A outer s H Q E a ds c G hr h2 (fun d k' v H1 ⟨c', hc, g⟩ e hk hv => q d c' g v H1 e (hc ▸ hk) hv) _ H (sat_start (DTs.cons (.cel rfl) h1.dts) ?_) h0 (Kp.refl _ _) frs_self
    have := len ds c G h2
    show N.length = (ds.length + 1) + _
    omega
theorem fn_E {x qual : Str} {st : Stmt} {F : FE} (Fn : Fun K x qual st f fd) (Sc : FnScope N ps (defScope st)) (len : ∀ ds s G, F ds s G → ds.length + 1 = ps.length)
    (hb : ∀ (cdv : Value) (A : Around) (outer : List Env) (s : Shared) (H : Hp) (Q : VK) (E : XK) (a : Addr) (ds c : List Dat) (G : List Dat → List Dat → Prop), Room k (A.deeper (envOfC qual (defScope st) s.heap.objs.size f cdv)) → F ds c G → RetN K [a] H Q (fun d k' => ∃ c', k' = [c'] ∧ G d c') →
      AS (cxOf CX0 P w K mg base N qual (defScope st) f cdv A outer s H E).nox [a] [a] (defBody st) { nx := fun _ H' => Q .non H', rt := Q } ((Dat.cel 0 :: ds).map some ++ List.replicate (N.length - (ds.length + 1)) none) [c] H) : FnOk P w K mg base CX0 (k + 1) f fd ps (spE K F) := by
  refine Fn.ok Sc (fun vs H Q E h => ?_) (fun cdv A outer s H vs Q E hr h => ⟨_, pss_w, ?_⟩)
  · obtain ⟨a, ws, ds, c, G, rfl, h0, h1, h2, _⟩ := h
    show ws.length + 1 = ps.length
    rw [h1.1]
    exact len ds c G h2
  · obtain ⟨a, ws, ds, c, G, rfl, h0, h1, h2, q⟩ := h
    have hN : ps.length ≤ N.length := by
      have e := congrArg List.length Sc.pre
      rw [List.length_take] at e
      omega
    refine hb cdv A outer s H Q E a ds c G hr h2 (fun as k' p xs H1 ⟨c', hc, g⟩ np _ e hk hp hv => q as c' g p xs H1 np e (hc ▸ hk) hp hv) _ H (sat_start (DTs.cons (.cel rfl) h1.dts) ?_) h0 (Kp.refl _ _) frs_self
    have := len ds c G h2
    show N.length = (ds.length + 1) + _
    omega
end
end Wz

set_option Elab.async false
set_option linter.all false
set_option maxRecDepth 100000
set_option maxHeartbeats 4000000
namespace Wz
open PySem PySem.Spec PyProof.Rows L2 Evl
/-- a list that is no cell, or a tuple -/
@[reducible] def onL0 (d : Dat) (C : List Dat → Prop) : Prop := match d with | .lst as => C as | _ => False
theorem onL0_ex {d : Dat} {C : List Dat → Prop} (h : onL0 d C) : ∃ i, d = .lst i ∧ C i := by
  cases d <;> first | exact ⟨_, rfl, h⟩ | exact h.elim
/-- the end of a piece: J holds of what the names hold -/
def NX (X : Cx) (o0 o : Os) (H0 : Hp) (J : List (Option Dat) → Cs → Prop) : L2.St → Hp → Prop := fun st' H' => ∃ es q, J es q ∧ Sat X.K o st' H' es ∧ DK X.K o q H' ∧ Kp o0 H0 H' ∧ Frs o0 o H0
section
variable {X : Cx} {o0 o : Os} {ds : List (Option Dat)} {k k1 k2 : Cs} {e c a b elt : Expr} {es : List Expr} {d : Dat} {as : List Dat} {pos pos' p p1 p2 p3 : Pos} {rest body orelse : List Stmt} {D : Ends} {H0 : Hp} {R : Dat → Cs → Prop} {RN : List Dat → Cs → Prop} {x : Str}
theorem as_end {J : List (Option Dat) → Cs → Prop} (hD : D.nx = NX X o0 o H0 J) (j : J ds k) : AS X o0 o [] D ds k H0 := as_nil fun st H S hk e0 fr => by
  rw [hD]
  exact ⟨ds, k, j, S, hk, e0, fr⟩
theorem as_endL {J : List (Option Dat) → Cs → Prop} {l : Os} (hD : D.nx = NX X o0 o H0 J) (hf : ∃ l', o = o0 ++ l') (j : J (ds.map (lowC o.length)) (k.take o.length)) : AS X o0 (o ++ l) [] D ds k H0 := as_nil fun st H S hk e0 fr => by
  rw [hD]
  exact ⟨_, _, j, S.low, dk_take hk, e0, hf, fun b hb nb => fr.new b (List.mem_append_left _ hb) nb⟩
theorem as_cont {J : List (Option Dat) → Cs → Prop} (hD : D.ct = NX X o0 o H0 J) (j : J ds k) : AS X o0 o (.Continue pos :: rest) D ds k H0 := fun st H S hk e0 fr =>
  wb_cons (wss ps_continue (show D.ct st H by rw [hD]; exact ⟨ds, k, j, S, hk, e0, fr⟩))
theorem as_brk {J : List (Option Dat) → Cs → Prop} (hD : D.bk = NX X o0 o H0 J) (j : J ds k) : AS X o0 o (.Break pos :: rest) D ds k H0 := fun st H S hk e0 fr =>
  wb_cons (wss ps_break (show D.bk st H by rw [hD]; exact ⟨ds, k, j, S, hk, e0, fr⟩))
/-- while; B: at a break -/
theorem as_while {W : Nat → List (Option Dat) → Cs → Prop} {B : List (Option Dat) → Cs → Prop} (hp : PassesOwn (model X.prog X.w) X.A X.env X.xe) (m : Nat) (h0 : W m ds k)
    (hs : ∀ m es q, W m es q → EvT X o c es q fun b q1 => bc b (AS X o0 o body { D with nx := NX X o0 o H0 (fun es q => ∃ m', m' < m ∧ W m' es q), ct := NX X o0 o H0 (fun es q => ∃ m', m' < m ∧ W m' es q), bk := NX X o0 o H0 B } es q1 H0) (AS X o0 o rest D es q1 H0))
    (hB : ∀ es q, B es q → AS X o0 o rest D es q H0) : AS X o0 o (.While c body [] pos :: rest) D ds k H0 := fun st H S hk e0 fr =>
  wb_cons (wss (ps_while hp pt_w pss_w) (by
    refine ⟨fun m st H => ∃ es q, W m es q ∧ Sat X.K o st H es ∧ DK X.K o q H ∧ Kp o0 H0 H, ⟨m, ds, k, h0, S, hk, e0⟩, ?_⟩
    rintro m st H ⟨es, q, w, S, hk, e0⟩
    refine hs m es q w st H _ S hk fun b q1 H1 hb e1 hk1 => ?_
    cases b with
    | true =>
      rw [if_pos rfl]
      refine ⟨NX X o0 o H0 (fun es q => ∃ m', m' < m ∧ W m' es q), ?_, ?_⟩
      · rintro st' H' ⟨es', q', ⟨m', l, w'⟩, S', hk', e', _⟩
        exact ⟨m', l, es', q', w', S', hk', e'⟩
      · refine fun pins s I => thn (hb st H1 (S.kp e1 hk) hk1 (fr.kp e0 e1) fr pins s I) fun f s' hf => ?_
        cases f with
        | next => exact hf
        | cont => exact hf
        | ret u => exact hf
        | brk =>
          obtain ⟨σ', H', I', es', q', j, S', hk', e', fr'⟩ := hf
          exact ⟨σ', H', I', hB es' q' j σ' H' S' hk' e' fr'⟩
    | false =>
      rw [if_neg Bool.false_ne_true]
      exact hb st H1 (S.kp e1 hk) hk1 (fr.kp e0 e1) fr))
/-- what a def's end wants, seen from within a loop -/
theorem RetC.sub {K : PySem.W.Frag} {o0 o : Os} {H0 H1 : Hp} {rt : VK} {G : Dat → Cs → Prop} (h : RetC K o0 H0 rt G) (e : Kp o0 H0 H1) (fr : Frs o0 o H0) : RetC K o H1 rt (fun d k' => G d (k'.take o0.length)) := fun d k' v H2 g e2 hk hv => by
  have e' := fr.kp e e2
  obtain ⟨l, rfl⟩ := fr.pre
  exact h d _ v H2 g e' (dk_take hk) (hv.less fun b hb => List.mem_append_left _ hb)
theorem RetN.sub {K : PySem.W.Frag} {o0 o : Os} {H0 H1 : Hp} {rt : VK} {G : List Dat → Cs → Prop} (h : RetN K o0 H0 rt G) (e : Kp o0 H0 H1) (fr : Frs o0 o H0) : RetN K o H1 rt (fun d k' => G d (k'.take o0.length)) := fun as k' p xs H2 g np no e2 hk hp hv => by
  have e' := fr.kp e e2
  obtain ⟨l, rfl⟩ := fr.pre
  have no' : p ∉ o0 := fun z => no (List.mem_append_left _ z)
  have n0 : H0 p = none := by
    cases h0 : H0 p with
    | none => rfl
    | some u =>
      have := e p u no' h0
      rw [np] at this
      cases this
  exact h as _ p xs H2 g n0 no' e' (dk_take hk) hp (hv.less fun b hb => List.mem_append_left _ hb)
/-- the body of a for: a break's heap made right -/
theorem for_bk {H1 : Hp} {W : List (Option Dat) → Cs → Prop} {B : List (Option Dat) → Cs → Prop} {st : L2.St} {H : Hp} (e01 : Kp o0 H0 H1) (fr : Frs o0 o H0) (hB : ∀ es q, B es q → AS X o0 o rest D es q H0)
    (h : WB X body { D with nx := NX X o o H1 W, ct := NX X o o H1 W, bk := NX X o o H1 B } st H) : WB X body { D with nx := NX X o o H1 W, ct := NX X o o H1 W, bk := fun st' H' => WB X rest D st' H' } st H := fun pins s I => thn (h pins s I) fun f s' hf => by
  cases f with
  | next => exact hf
  | cont => exact hf
  | ret u => exact hf
  | brk =>
    obtain ⟨σ', H', I', es', q', j, S', hk', e', fr'⟩ := hf
    exact ⟨σ', H', I', hB es' q' j σ' H' S' hk' (fr.kp e01 e') fr⟩
/-- what a for over items wants: W by the turn, B at a break; H1: the heap at its start -/
structure ForW (X : Cx) (o0 o : Os) (H0 : Hp) (body rest : List Stmt) (D : Ends) (n : Nat) (it : Nat → Option Dat) (sl : Dat → List (Option Dat) → List (Option Dat)) (W : Nat → List (Option Dat) → Cs → Prop) (B : List (Option Dat) → Cs → Prop) : Prop where
  turn : ∀ H1, Kp o0 H0 H1 → Frs o0 o H0 → ∀ j d es q, j < n → it j = some d → W j es q → AS X o o body { D with nx := NX X o o H1 (W (j + 1)), ct := NX X o o H1 (W (j + 1)), bk := NX X o o H1 B } (sl d es) q H1
  done : ∀ es q, W n es q → AS X o0 o rest D es q H0
  brk : ∀ es q, B es q → AS X o0 o rest D es q H0
/-- for x in range(a) -/
theorem as_forR1 {i : Nat} {pos2 pos3 : Pos} (hN : X.N.Nodup) (hcalm : X.calm = true) (hp : PassesOwn (model X.prog X.w) X.A X.env X.xe) (hm : X.mg "range" = none)
    (h : EvA X o [a] ds k fun as k1 => ∃ (n : Int) (W : Nat → List (Option Dat) → Cs → Prop) (B : List (Option Dat) → Cs → Prop), as = [.int n] ∧ (-(2 ^ 62) ≤ n ∧ n < 2 ^ 62) ∧ W 0 ds k1 ∧ ForW X o0 o H0 body rest D n.toNat (fun j => some (.int (j : Int))) (fun d es => es.set i (some d)) W B)
    (hg : Gl X "range" := by rfl) (hi : X.N[i]? = some x := by rfl) (hx : Loc X.env.scope x := by exact Or.inl rfl) (hf : X.fn x = true ∨ X.env.scope.names.lookup x = some .local := by exact .inl rfl)
    (hst : starEach [a] X.env = [(false, eval a X.env)] := by rfl) (hset : ∀ y, foldedSetIterable (.Call (.Name "range" p) [a] [] pos2) X.env y = pure y := by intro _; rfl) :
    AS X o0 o (.For (.Name x pos3) (.Call (.Name "range" p) [a] [] pos2) body [] pos :: rest) D ds k H0 := fun st H S hk e0 fr =>
  wb_cons (wss (ps_for hp hcalm (pi_range1 hg hm pa_w hst) (pg_name hN hi hx hf) pss_w hset) (h st H _ S hk fun as k1 vs H1 hr e1 hk1 h1 => by
    obtain ⟨n, W, B, rfl, hn, h0, F⟩ := hr
    match vs, h1 with
    | [v], h1 =>
      have hv := (h1.2 0 _ _ rfl rfl).unint
      subst hv
      have e01 := fr.kp e0 e1
      refine ⟨n, rfl, hn.1, hn.2, for_range (lo := 0) (n := n.toNat) (fun j => NX X o o H1 (W j)) ⟨ds, k1, h0, S.kp e1 hk, hk1, Kp.refl _ _, frs_self⟩ ?_ ?_⟩
      · rintro j st' H' hj ⟨es, q, w, S', hk', e', fr'⟩
        have e00 : (0 : Int) + (j : Int) = (j : Int) := Int.zero_add _
        show WB X body _ (st'.set i (some (.int ((0 : Int) + (j : Int))))) H'
        rw [e00]
        exact for_bk e01 fr F.brk (F.turn H1 e01 fr j _ es q hj rfl w _ H' (S'.set (.v (.int _))) hk' e' fr')
      · rintro st' H' ⟨es, q, w, S', hk', e', fr'⟩
        exact F.done es q w st' H' S' hk' (fr.kp e01 e') fr))
/-- for x in range(a, b) -/
theorem as_forR2 {i : Nat} {pos2 pos3 : Pos} (hN : X.N.Nodup) (hcalm : X.calm = true) (hp : PassesOwn (model X.prog X.w) X.A X.env X.xe) (hm : X.mg "range" = none)
    (h : EvA X o [a, b] ds k fun as k1 => ∃ (n m : Int) (W : Nat → List (Option Dat) → Cs → Prop) (B : List (Option Dat) → Cs → Prop), as = [.int n, .int m] ∧ (-(2 ^ 62) ≤ n ∧ n < 2 ^ 62 ∧ -(2 ^ 62) ≤ m ∧ m < 2 ^ 62) ∧ W 0 ds k1 ∧ ForW X o0 o H0 body rest D (m - n).toNat (fun j => some (.int (n + (j : Int)))) (fun d es => es.set i (some d)) W B)
    (hg : Gl X "range" := by rfl) (hi : X.N[i]? = some x := by rfl) (hx : Loc X.env.scope x := by exact Or.inl rfl) (hf : X.fn x = true ∨ X.env.scope.names.lookup x = some .local := by exact .inl rfl)
    (hst : starEach [a, b] X.env = [(false, eval a X.env), (false, eval b X.env)] := by rfl) (hst2 : starEach [b] X.env = [(false, eval b X.env)] := by rfl) (hset : ∀ y, foldedSetIterable (.Call (.Name "range" p) [a, b] [] pos2) X.env y = pure y := by intro _; rfl) :
    AS X o0 o (.For (.Name x pos3) (.Call (.Name "range" p) [a, b] [] pos2) body [] pos :: rest) D ds k H0 := fun st H S hk e0 fr =>
  wb_cons (wss (ps_for hp hcalm (pi_range2 hg hm pa_w hst hst2) (pg_name hN hi hx hf) pss_w hset) (h st H _ S hk fun as k1 vs H1 hr e1 hk1 h1 => by
    obtain ⟨n, m, W, B, rfl, hn, h0, F⟩ := hr
    match vs, h1 with
    | [v, v'], h1 =>
      have hv := (h1.2 0 _ _ rfl rfl).unint
      have hv' := (h1.2 1 _ _ rfl rfl).unint
      subst hv hv'
      have e01 := fr.kp e0 e1
      refine ⟨n, m, rfl, hn, for_range (lo := n) (n := (m - n).toNat) (fun j => NX X o o H1 (W j)) ⟨ds, k1, h0, S.kp e1 hk, hk1, Kp.refl _ _, frs_self⟩ ?_ ?_⟩
      · rintro j st' H' hj ⟨es, q, w, S', hk', e', fr'⟩
        exact for_bk e01 fr F.brk (F.turn H1 e01 fr j _ es q hj rfl w _ H' (S'.set (.v (.int _))) hk' e' fr')
      · rintro st' H' ⟨es, q, w, S', hk', e', fr'⟩
        exact F.done es q w st' H' S' hk' (fr.kp e01 e') fr))
/-- for x in t, t a tuple -/
theorem as_forT {i : Nat} {pos3 : Pos} (hN : X.N.Nodup) (hcalm : X.calm = true) (hp : PassesOwn (model X.prog X.w) X.A X.env X.xe)
    (h : EvC X o e ds k fun d k1 => onT d fun as => ∃ (W : Nat → List (Option Dat) → Cs → Prop) (B : List (Option Dat) → Cs → Prop), W 0 ds k1 ∧ ForW X o0 o H0 body rest D as.length (fun j => as[j]?) (fun d es => es.set i (some d)) W B)
    (hi : X.N[i]? = some x := by rfl) (hx : Loc X.env.scope x := by exact Or.inl rfl) (hf : X.fn x = true ∨ X.env.scope.names.lookup x = some .local := by exact .inl rfl) (hset : ∀ y, foldedSetIterable e X.env y = pure y := by intro _; rfl) :
    AS X o0 o (.For (.Name x pos3) e body [] pos :: rest) D ds k H0 := fun st H S hk e0 fr =>
  wb_cons (wss (ps_for hp hcalm (pi_tup pe_w) (pg_name hN hi hx hf) pss_w hset) (h st H _ S hk fun d k1 v H1 hr e1 hk1 h1 => by
    obtain ⟨as, rfl, W, B, h0, F⟩ := onT_ex hr
    obtain ⟨t, xs, rfl, hs, hd⟩ := h1.untup
    have e01 := fr.kp e0 e1
    refine ⟨t, rfl, ⟨xs, hs⟩, for_tup (xs := xs) (fun j => NX X o o H1 (W j)) ⟨ds, k1, h0, S.kp e1 hk, hk1, Kp.refl _ _, frs_self⟩ (fun _ _ H' _ ⟨_, _, _, _, _, e', _⟩ => kp_t e' hk1 hs) ?_ ?_⟩
    · rintro j y st' H' hy ⟨es, q, w, S', hk', e', fr'⟩
      have hj : j < as.length := by
        rw [← hd.1]
        exact (List.getElem?_eq_some_iff.mp hy).1
      have hda : as[j]? = some as[j] := List.getElem?_eq_getElem hj
      have hyd := (hd.2 j y _ hy hda).kp e' hk1
      exact for_bk e01 fr F.brk (F.turn H1 e01 fr j _ es q hj hda w _ H' (S'.set (.v hyd)) hk' e' fr')
    · rintro st' H' ⟨es, q, w, S', hk', e', fr'⟩
      exact F.done es q (by rw [hd.1] at w; exact w) st' H' S' hk' (fr.kp e01 e') fr))
/-- for x in xs, a list that is no cell -/
theorem as_forL {i : Nat} {pos3 : Pos} (hN : X.N.Nodup) (hcalm : X.calm = true) (hp : PassesOwn (model X.prog X.w) X.A X.env X.xe)
    (h : EvC X o e ds k fun d k1 => onL0 d fun as => ∃ (W : Nat → List (Option Dat) → Cs → Prop) (B : List (Option Dat) → Cs → Prop), W 0 ds k1 ∧ ForW X o0 o H0 body rest D as.length (fun j => as[j]?) (fun d es => es.set i (some d)) W B)
    (hi : X.N[i]? = some x := by rfl) (hx : Loc X.env.scope x := by exact Or.inl rfl) (hf : X.fn x = true ∨ X.env.scope.names.lookup x = some .local := by exact .inl rfl) (hset : ∀ y, foldedSetIterable e X.env y = pure y := by intro _; rfl) :
    AS X o0 o (.For (.Name x pos3) e body [] pos :: rest) D ds k H0 := fun st H S hk e0 fr =>
  wb_cons (wss (ps_for hp hcalm (pi_list pe_w) (pg_name hN hi hx hf) pss_w hset) (h st H _ S hk fun d k1 v H1 hr e1 hk1 h1 => by
    obtain ⟨as, rfl, W, B, h0, F⟩ := onL0_ex hr
    obtain ⟨t, xs, rfl, hs, hd⟩ := h1.unlst
    have e01 := fr.kp e0 e1
    refine ⟨t, rfl, ⟨xs, hs.sq⟩, for_list (xs := xs) (fun j => NX X o o H1 (W j)) ⟨ds, k1, h0, S.kp e1 hk, hk1, Kp.refl _ _, frs_self⟩ (fun _ _ H' _ ⟨_, _, _, _, _, e', _⟩ => (hs.kp e' fun _ z => z).sq) ?_ ?_⟩
    · rintro j y st' H' hy ⟨es, q, w, S', hk', e', fr'⟩
      have hj : j < as.length := by
        rw [← hd.1]
        exact (List.getElem?_eq_some_iff.mp hy).1
      have hda : as[j]? = some as[j] := List.getElem?_eq_getElem hj
      have hyd := (hd.2 j y _ hy hda).kp e' hk1
      exact for_bk e01 fr F.brk (F.turn H1 e01 fr j _ es q hj hda w _ H' (S'.set (.v hyd)) hk' e' fr')
    · rintro st' H' ⟨es, q, w, S', hk', e', fr'⟩
      exact F.done es q (by rw [hd.1] at w; exact w) st' H' S' hk' (fr.kp e01 e') fr))
end
end Wz

set_option Elab.async false
set_option linter.all false
set_option maxRecDepth 100000
set_option maxHeartbeats 4000000
namespace Wz
open PySem PySem.Spec PyProof.Rows L2 Evl
section
variable {X : Cx} {o0 o : Os} {ds : List (Option Dat)} {k k1 k2 : Cs} {e c a b elt e1 e2 e3 : Expr} {es : List Expr} {d : Dat} {as : List Dat} {pos pos' p p1 p2 p3 : Pos} {rest body orelse : List Stmt} {D : Ends} {H0 : Hp} {R : Dat → Cs → Prop} {RT : Bool → Cs → Prop} {RN : List Dat → Cs → Prop} {x : Str}
/-! built-ins by value -/
theorem c_bif {id : String} {r : List V → Hp → VK → Prop} (hc : CallR X (.builtin id) r) (hm : X.mg x = none) (hv : bootBuiltins x = some (.builtin id)) (h : EvA X o (e :: es) ds k fun as k1 => ∀ vs H Q, DTs X.K o H vs as → DK X.K o k1 H → (∀ d v H', R d k1 → Ex H H' → DT X.K o H' v d → Q v H') → r vs H Q)
    (hg : Gl X x := by rfl) (hn : x ≠ "__name__" := by decide) (hdb : (x == ("__debug__" : Str)) = false := by decide) (he : starEach (e :: es) X.env = (false, eval e X.env) :: starEach es X.env := by rfl) (hpl : (backTo pos (starEach es X.env)).any (·.1) = false := by rfl) :
    EvC X o (.Call (.Name x p) (e :: es) [] pos) ds k R := fun st H Q St hk q =>
  we (pe_callB hc hg hm hv pa_w hn hdb he hpl) (h st H _ St hk fun as k1 vs H1 hx e1 hk1 h1 => hx vs H1 Q h1 hk1 fun d v H2 hr ex h2 => q d k1 v H2 hr (e1.trans (Kp.of_ex ex)) (hk1.ex ex) h2)
theorem c_bty {T : String} {r : List V → Hp → VK → Prop} (hc : CallR X (.type T) r) (hm : X.mg x = none) (hv : bootBuiltins x = some (.type T)) (h : EvA X o (e :: es) ds k fun as k1 => ∀ vs H Q, DTs X.K o H vs as → DK X.K o k1 H → (∀ d v H', R d k1 → Ex H H' → DT X.K o H' v d → Q v H') → r vs H Q)
    (hg : Gl X x := by rfl) (hn : x ≠ "__name__" := by decide) (hdb : (x == ("__debug__" : Str)) = false := by decide) (he : starEach (e :: es) X.env = (false, eval e X.env) :: starEach es X.env := by rfl) (hpl : (backTo pos (starEach es X.env)).any (·.1) = false := by rfl) :
    EvC X o (.Call (.Name x p) (e :: es) [] pos) ds k R := fun st H Q St hk q =>
  we (pe_callTy hc hg hm hv pa_w hn hdb he hpl) (h st H _ St hk fun as k1 vs H1 hx e1 hk1 h1 => hx vs H1 Q h1 hk1 fun d v H2 hr ex h2 => q d k1 v H2 hr (e1.trans (Kp.of_ex ex)) (hk1.ex ex) h2)
theorem dts1 {K : PySem.W.Frag} {H : Hp} {vs : List V} {d1 : Dat} (h : DTs K o H vs [d1]) : ∃ v1, vs = [v1] ∧ DT K o H v1 d1 := by
  match vs, h with
  | [v1], h => exact ⟨v1, rfl, h.2 0 v1 d1 rfl rfl⟩
theorem dts2 {K : PySem.W.Frag} {H : Hp} {vs : List V} {d1 d2 : Dat} (h : DTs K o H vs [d1, d2]) : ∃ v1 v2, vs = [v1, v2] ∧ DT K o H v1 d1 ∧ DT K o H v2 d2 := by
  match vs, h with
  | [v1, v2], h => exact ⟨v1, v2, rfl, h.2 0 v1 d1 rfl rfl, h.2 1 v2 d2 rfl rfl⟩
theorem dts3 {K : PySem.W.Frag} {H : Hp} {vs : List V} {d1 d2 d3 : Dat} (h : DTs K o H vs [d1, d2, d3]) : ∃ v1 v2 v3, vs = [v1, v2, v3] ∧ DT K o H v1 d1 ∧ DT K o H v2 d2 ∧ DT K o H v3 d3 := by
  match vs, h with
  | [v1, v2, v3], h => exact ⟨v1, v2, v3, rfl, h.2 0 v1 d1 rfl rfl, h.2 1 v2 d2 rfl rfl, h.2 2 v3 d3 rfl rfl⟩
@[reducible] def on1 (as : List Dat) (C : Dat → Prop) : Prop := match as with | [d] => C d | _ => False
@[reducible] def on2 (as : List Dat) (C : Dat → Dat → Prop) : Prop := match as with | [d, e] => C d e | _ => False
theorem on1_ex {as : List Dat} {C : Dat → Prop} (h : on1 as C) : ∃ d, as = [d] ∧ C d := by
  match as, h with
  | [d], h => exact ⟨d, rfl, h⟩
theorem on2_ex {as : List Dat} {C : Dat → Dat → Prop} (h : on2 as C) : ∃ d e, as = [d, e] ∧ C d e := by
  match as, h with
  | [d, e], h => exact ⟨d, e, rfl, h⟩
theorem c_abs (hm : X.mg "abs" = none) (h : EvA X o [e] ds k fun as k1 => on1 as fun d => onI d fun i => R (.int (if i < 0 then -i else i)) k1) (hg : Gl X "abs" := by rfl) (he : starEach [e] X.env = (false, eval e X.env) :: starEach [] X.env := by rfl) : EvC X o (.Call (.Name "abs" p) [e] [] pos) ds k R :=
  c_bif call_abs hm (by decide +kernel) (h.mono fun as k1 ha vs H Q h1 _ q => by
    obtain ⟨d, rfl, ha⟩ := on1_ex ha
    obtain ⟨i, rfl, ha⟩ := onI_ex ha
    obtain ⟨v, rfl, g1⟩ := dts1 h1
    have q1 := g1.unint
    subst q1
    exact ⟨i, rfl, q _ _ H ha (Ex.refl _) (.v (.int _))⟩) hg (by decide) (by decide) he
theorem c_max (hc : X.calm = true) (hm : X.mg "max" = none) (h : EvA X o [e, e2] ds k fun as k1 => on2 as fun d1 d2 => onI d1 fun i => onI d2 fun j => R (.int (if j > i then j else i)) k1) (hg : Gl X "max" := by rfl) (he : starEach [e, e2] X.env = (false, eval e X.env) :: starEach [e2] X.env := by rfl) (hpl : (backTo pos (starEach [e2] X.env)).any (·.1) = false := by rfl) : EvC X o (.Call (.Name "max" p) [e, e2] [] pos) ds k R :=
  c_bif (call_max2 hc) hm (by decide +kernel) (h.mono fun as k1 ha vs H Q h1 _ q => by
    obtain ⟨d1, d2, rfl, ha⟩ := on2_ex ha
    obtain ⟨i, j, rfl, rfl, ha⟩ := onII_ex ha
    obtain ⟨v, w, rfl, g1, g2⟩ := dts2 h1
    have q1 := g1.unint
    have q2 := g2.unint
    subst q1 q2
    exact ⟨i, j, rfl, q _ _ H ha (Ex.refl _) (.v (.int _))⟩) hg (by decide) (by decide) he hpl
theorem c_min (hc : X.calm = true) (hm : X.mg "min" = none) (h : EvA X o [e, e2] ds k fun as k1 => on2 as fun d1 d2 => onI d1 fun i => onI d2 fun j => R (.int (if j < i then j else i)) k1) (hg : Gl X "min" := by rfl) (he : starEach [e, e2] X.env = (false, eval e X.env) :: starEach [e2] X.env := by rfl) (hpl : (backTo pos (starEach [e2] X.env)).any (·.1) = false := by rfl) : EvC X o (.Call (.Name "min" p) [e, e2] [] pos) ds k R :=
  c_bif (call_min2 hc) hm (by decide +kernel) (h.mono fun as k1 ha vs H Q h1 _ q => by
    obtain ⟨d1, d2, rfl, ha⟩ := on2_ex ha
    obtain ⟨i, j, rfl, rfl, ha⟩ := onII_ex ha
    obtain ⟨v, w, rfl, g1, g2⟩ := dts2 h1
    have q1 := g1.unint
    have q2 := g2.unint
    subst q1 q2
    exact ⟨i, j, rfl, q _ _ H ha (Ex.refl _) (.v (.int _))⟩) hg (by decide) (by decide) he hpl
theorem c_lenT (hm : X.mg "len" = none) (h : EvA X o [e] ds k fun as k1 => on1 as fun d => onT d fun xs => R (.int (xs.length : Int)) k1) (hg : Gl X "len" := by rfl) (he : starEach [e] X.env = (false, eval e X.env) :: starEach [] X.env := by rfl) : EvC X o (.Call (.Name "len" p) [e] [] pos) ds k R :=
  c_bif call_len_seq hm PySem.boot_len (h.mono fun as k1 ha vs H Q h1 _ q => by
    obtain ⟨d, rfl, ha⟩ := on1_ex ha
    obtain ⟨xs, rfl, ha⟩ := onT_ex ha
    obtain ⟨v, rfl, g1⟩ := dts1 h1
    obtain ⟨a, ys, rfl, hs, hl⟩ := g1.untup
    exact ⟨a, ys, rfl, .inr hs, by rw [hl.1]; exact q _ _ H ha (Ex.refl _) (.v (.int _))⟩) hg (by decide) (by decide) he
theorem c_lenL (hm : X.mg "len" = none) (h : EvA X o [e] ds k fun as k1 => on1 as fun d => onL k1 d fun xs => R (.int (xs.length : Int)) k1) (hg : Gl X "len" := by rfl) (he : starEach [e] X.env = (false, eval e X.env) :: starEach [] X.env := by rfl) : EvC X o (.Call (.Name "len" p) [e] [] pos) ds k R :=
  c_bif call_len_seq hm PySem.boot_len (h.mono fun as k1 ha vs H Q h1 hk q => by
    obtain ⟨d, rfl, ha⟩ := on1_ex ha
    obtain ⟨v, rfl, g1⟩ := dts1 h1
    obtain ⟨p, ys, xs, rfl, hs, hl, ha⟩ := onL_ex hk ha g1
    exact ⟨p, ys, rfl, .inl hs, by rw [hl.1]; exact q _ _ H ha (Ex.refl _) (.v (.int _))⟩) hg (by decide) (by decide) he
theorem c_intI (hm : X.mg "int" = none) (h : EvA X o [e] ds k fun as k1 => on1 as fun d => onI d fun i => R (.int i) k1) (hg : Gl X "int" := by rfl) (he : starEach [e] X.env = (false, eval e X.env) :: starEach [] X.env := by rfl) : EvC X o (.Call (.Name "int" p) [e] [] pos) ds k R :=
  c_bty call_int1 hm (by decide +kernel) (h.mono fun as k1 ha vs H Q h1 _ q => by
    obtain ⟨d, rfl, ha⟩ := on1_ex ha
    obtain ⟨i, rfl, ha⟩ := onI_ex ha
    obtain ⟨v, rfl, g1⟩ := dts1 h1
    have q1 := g1.unint
    subst q1
    exact Or.inl ⟨i, rfl, q _ _ H ha (Ex.refl _) (.v (.int _))⟩) hg (by decide) (by decide) he
theorem c_intB (hm : X.mg "int" = none) (h : EvA X o [e] ds k fun as k1 => on1 as fun d => onB d fun i => R (.int (if i then 1 else 0)) k1) (hg : Gl X "int" := by rfl) (he : starEach [e] X.env = (false, eval e X.env) :: starEach [] X.env := by rfl) : EvC X o (.Call (.Name "int" p) [e] [] pos) ds k R :=
  c_bty call_int1 hm (by decide +kernel) (h.mono fun as k1 ha vs H Q h1 _ q => by
    obtain ⟨d, rfl, ha⟩ := on1_ex ha
    obtain ⟨i, rfl, ha⟩ := onB_ex ha
    obtain ⟨v, rfl, g1⟩ := dts1 h1
    have q1 := g1.unbl
    subst q1
    exact Or.inr ⟨i, rfl, q _ _ H ha (Ex.refl _) (.v (.int _))⟩) hg (by decide) (by decide) he
/-- int of a comparison of ints -/
theorem c_ty {T : String} (hm : X.mg x = none) (hv : bootBuiltins x = some (.type T)) (hR : R (.raw (.ty T)) k) (hg : Gl X x := by rfl) (hn : x ≠ "__name__" := by decide) (hd : (x == ("__debug__" : Str)) = false := by decide) : EvC X o (.Name x pos) ds k R := fun st H Q St hk q =>
  we (pe_bltn hg hm hv (v := .ty T) rfl hn hd) (q _ _ _ H hR (Kp.refl _ _) hk (.v (.raw _)))
/-- a module's tuple -/
structure KT (K : PySem.W.Frag) (mg : Str → Option Value) (x : Str) (as : List Dat) : Prop where
  ex : ∃ (C : Addr) (xs : List V), mg x = some (.ref C) ∧ (∀ H, SqT K H C xs) ∧ ∀ o H, DVs K o H xs as
theorem c_kt (t : KT X.K X.mg x as) (hR : R (.tup as) k) (hg : Gl X x := by rfl) (hd : (x == ("__debug__" : Str)) = false := by decide) : EvC X o (.Name x pos) ds k R := fun st H Q St hk q => by
  obtain ⟨C, xs, hm, h1, h2⟩ := t.ex
  exact we (pe_glob hg hm (v := .ref C) rfl hd) (q _ _ _ H hR (Kp.refl _ _) hk (.v (.tup' (h1 H) (h2 o H))))
/-! isinstance -/
@[reducible] def tyN (k : Cs) : Dat → Option String
  | .non => some "NoneType"
  | .bl _ => some "bool"
  | .int _ => some "int"
  | .str _ => some "str"
  | .tup _ => some "tuple"
  | .lst _ => some "list"
  | .cel _ => some "list"
  | .raw _ => none
  | .obj _ _ _ => none
theorem ty_x {K : PySem.W.Frag} {H : Hp} {v : V} {T : String} (hk : DK K o k H) (t : tyN k d = some T) (h : DT K o H v d) : TyX K H v (.type T) := by
  cases h with
  | cel hi =>
    cases t
    have hm := List.mem_of_getElem? hi
    obtain ⟨xs, hx⟩ := hk.cell hm
    exact .base (.lst hx)
  | v h =>
    cases h with
    | non => cases t; exact .base .non
    | bl b => cases t; exact .base (.bl b)
    | int i => cases t; exact .base (.int i)
    | str z => cases t; exact .base (.str z)
    | tup hs _ _ =>
      cases t
      rcases hs with (hs | ⟨ob, hs⟩) | ⟨ob, its, n, h1, h2, _⟩
      · exact .base (.tup hs)
      · exact .fTuple hs
      · exact .kTuple h1 h2
    | lst hs _ _ =>
      cases t
      rcases hs with ⟨hs | ⟨ob, hs⟩, _⟩ | ⟨ob, its, n, h1, h2, _⟩
      · exact .base (.lst hs)
      · exact .base (.frz hs)
      · exact .kList h1 h2
    | raw v => cases t
    | obj _ _ _ _ _ => cases t
theorem kit2 {K : PySem.W.Frag} {T U1 U2 : String} {b1 b2 : Bool} (h1 : kitB T U1 = some b1) (h2 : kitB T U2 = some b2) : PySem.W.kitAny K (.type T) [.type U1, .type U2] = some (b1 || b2) := by
  refine kitAny_cons (kit_ty h1) (fun e => ?_) (fun e => by rw [e]; rfl)
  rw [e, Bool.false_or]
  refine kitAny_cons (kit_ty h2) (fun e => ?_) (fun e => e)
  rw [kitAny_nil, e]
theorem kit3 {K : PySem.W.Frag} {T U1 U2 U3 : String} {b1 b2 b3 : Bool} (h1 : kitB T U1 = some b1) (h2 : kitB T U2 = some b2) (h3 : kitB T U3 = some b3) : PySem.W.kitAny K (.type T) [.type U1, .type U2, .type U3] = some (b1 || (b2 || b3)) := by
  refine kitAny_cons (kit_ty h1) (fun e => ?_) (fun e => by rw [e]; rfl)
  rw [e, Bool.false_or]
  exact kit2 h2 h3
/-- isinstance(e, T) -/
@[reducible] def isT (U : String) : Dat → Bool
  | .bl _ => U == "bool" || U == "int"
  | .int _ => U == "int"
  | .str _ => U == "str"
  | .tup _ => U == "tuple"
  | .lst _ => U == "list"
  | .cel _ => U == "list"
  | _ => false
theorem c_isi {U : String} (hm : X.mg "isinstance" = none) (h : EvA X o [e1, e2] ds k fun as k1 => on2 as fun d1 d2 => d2 = .raw (.ty U) ∧ ∃ T b, tyN k1 d1 = some T ∧ kitB T U = some b ∧ R (.bl b) k1) (hg : Gl X "isinstance" := by rfl) (he : starEach [e1, e2] X.env = (false, eval e1 X.env) :: starEach [e2] X.env := by rfl)
    (hpl : (backTo pos (starEach [e2] X.env)).any (·.1) = false := by rfl) : EvC X o (.Call (.Name "isinstance" p) [e1, e2] [] pos) ds k R :=
  c_bif call_isi hm (by decide +kernel) (h.mono fun as k1 ha vs H Q h1 hk q => by
    obtain ⟨d1, d2, rfl, rfl, T, b, hT, hb, ha⟩ := on2_ex ha
    obtain ⟨v, w, rfl, g1, g2⟩ := dts2 h1
    have q2 := g2.unraw
    subst q2
    exact ⟨v, .ty U, _, _, b, rfl, .ty U, ty_x hk hT g1, kit_ty hb, q _ _ H ha (Ex.refl _) (.v (.bl _))⟩) hg (by decide) (by decide) he hpl
/-- isinstance(e, (T1, T2)) -/
theorem c_isi2 {U1 U2 : String} {n1 n2 : Str} {p1 p2 p3 : Pos} {cx : Nat} (hm : X.mg "isinstance" = none) (hm1 : X.mg n1 = none) (hv1 : bootBuiltins n1 = some (.type U1)) (hm2 : X.mg n2 = none) (hv2 : bootBuiltins n2 = some (.type U2))
    (h : EvC X o e1 ds k fun d k1 => ∃ T b1 b2, tyN k1 d = some T ∧ kitB T U1 = some b1 ∧ kitB T U2 = some b2 ∧ R (.bl (b1 || b2)) k1) (hg : Gl X "isinstance" := by rfl) (hg1 : Gl X n1 := by rfl) (hg2 : Gl X n2 := by rfl) (hn1 : n1 ≠ "__name__" := by decide) (hn2 : n2 ≠ "__name__" := by decide) (hd1 : (n1 == ("__debug__" : Str)) = false := by decide) (hd2 : (n2 == ("__debug__" : Str)) = false := by decide)
    (he : starEach [e1, .Tuple [.Name n1 p1, .Name n2 p2] cx p3] X.env = (false, eval e1 X.env) :: starEach [.Tuple [.Name n1 p1, .Name n2 p2] cx p3] X.env := by rfl)
    (hpl : (backTo pos (starEach [.Tuple [.Name n1 p1, .Name n2 p2] cx p3] X.env)).any (·.1) = false := by rfl) : EvC X o (.Call (.Name "isinstance" p) [e1, .Tuple [.Name n1 p1, .Name n2 p2] cx p3] [] pos) ds k R := fun st H Q St hk q =>
  we (pe_callB call_isiT hg hm (by decide +kernel) (pa_cons pe_w (pa_cons (pe_tup (pa_cons (pe_bltn hg1 hm1 hv1 (v := .ty U1) rfl hn1 hd1) (pa_cons (pe_bltn hg2 hm2 hv2 (v := .ty U2) rfl hn2 hd2) pa_nil))) pa_nil) he) (by decide) (by decide) he hpl) (h st H _ St hk fun d k1 v H1 hr ex hk1 h1 => by
    refine ⟨by show 2 ≤ sizeLine; decide, fun tp np => ?_⟩
    obtain ⟨T, b1, b2, hT, hb1, hb2, hr⟩ := hr
    have e2 := Kp.of_ex (o := o) (Ex.new (o := .tup [.ty U1, .ty U2]) np)
    have hk2 := hk1.ex (Ex.new (o := .tup [.ty U1, .ty U2]) np)
    exact ⟨v, tp, [.ty U1, .ty U2], _, [.type U1, .type U2], _, rfl, upd_same, .cons (.ty U1) (.cons (.ty U2) .nil), ty_x hk2 hT (h1.kp e2 hk1), kit2 hb1 hb2, q _ k1 _ _ hr (ex.trans e2) hk2 (.v (.bl _))⟩)
/-! slices of tuples and lists, t + u, xs + ys -/
theorem cutV_map {α β : Type} (xs : List α) (lo hi : Option Int) : True := trivial
def cutD (xs : List Dat) (lo hi : Option Int) : List Dat := (xs.drop (HT.sIx xs.length 0 lo)).take (HT.sIx xs.length xs.length hi - HT.sIx xs.length 0 lo)
theorem DVs.cut {K : PySem.W.Frag} {H : Hp} {vs : List V} {ds : List Dat} (h : DVs K o H vs ds) (lo hi : Option Int) : DVs K o H (cutV vs lo hi) (cutD ds lo hi) := by
  unfold cutV cutD
  rw [h.1]
  refine ⟨by rw [List.length_take, List.length_drop, List.length_take, List.length_drop, h.1], fun i v d a b => ?_⟩
  rw [List.getElem?_take] at a b
  split at a
  · rename_i hi'
    rw [if_pos hi'] at b
    rw [List.getElem?_drop] at a b
    exact h.2 _ v d a b
  · cases a
def WO (X : Cx) (oe : Option Expr) (st : L2.St) (H : Hp) (Q : Option Int → Hp → Prop) : Prop := ∀ (pins : List (Addr × Obj)) (s : Shared), Inv X pins st H s →
    wpAny (model X.prog X.w) X.A (evalPart oe X.env) (fun u s' => ∃ o H', Inv X pins st H' s' ∧ IsPart u o ∧ Q o H') X.xe s
theorem po_w {oe : Option Expr} : PO X oe (WO X oe) := ⟨fun pins s _ _ _ I h => h pins s I⟩
theorem wo {oe : Option Expr} {t : TO} (h : PO X oe t) {st : L2.St} {H : Hp} {Q : Option Int → Hp → Prop} (q : t st H Q) : WO X oe st H Q := fun pins s I => h.run pins s st H Q I q
/-- a part of a slice -/
def EvO (X : Cx) (o : Os) (oe : Option Expr) (ds : List (Option Dat)) (k : Cs) (R : Option Int → Cs → Prop) : Prop :=
  ∀ st H Q, Sat X.K o st H ds → DK X.K o k H → (∀ l k' H', R l k' → Kp o H H' → DK X.K o k' H' → Q l H') → WO X oe st H Q
theorem o_none {RO : Option Int → Cs → Prop} (h : RO none k) : EvO X o none ds k RO := fun st H Q S hk q => wo po_none (q none k H h (Kp.refl _ _) hk)
theorem o_some {RO : Option Int → Cs → Prop} (h : EvC X o e ds k fun d k1 => onI d fun i => RO (some i) k1) : EvO X o (some e) ds k RO := fun st H Q S hk q => wo (po_some pe_w) (h st H _ S hk fun d k1 v H1 hr e1 hk1 h1 => by
  obtain ⟨i, rfl, hr⟩ := onI_ex hr
  exact ⟨i, h1.unint, q _ k1 H1 hr e1 hk1⟩)
theorem cutD_all {ds : List Dat} {lo hi : Option Int} (h : HT.sIx ds.length 0 lo = 0 ∧ HT.sIx ds.length ds.length hi = ds.length) : cutD ds lo hi = ds := by
  unfold cutD
  rw [h.1, h.2, List.drop_zero, Nat.sub_zero, List.take_length]
theorem c_cutT {lo hi : Option Expr} (h : EvC X o e ds k fun d k1 => EvO X o lo ds k1 fun l k2 => EvO X o hi ds k2 fun u k3 => onT d fun as => R (.tup (cutD as l u)) k3) : EvC X o (.Subscript e (.Slice lo hi none p2) pos) ds k R := fun st H Q S hk q =>
  we (pe_slice sl_tupA pe_w po_w po_w) (h st H _ S hk fun d k1 v H1 hr e1 hk1 h1 => hr st H1 _ (S.kp e1 hk) hk1 fun l k2 H2 hr e2 hk2 => hr st H2 _ ((S.kp e1 hk).kp e2 hk1) hk2 fun u k3 H3 hr e3 hk3 => by
    obtain ⟨as, rfl, hr'⟩ := onT_ex hr
    obtain ⟨a, xs, rfl, hs, hd⟩ := ((h1.kp e2 hk1).kp e3 hk2).untup
    refine ⟨a, xs, rfl, hs, fun hw => ?_, fun hw p np => ?_⟩
    · rw [hd.1] at hw
      rw [cutD_all hw] at hr'
      exact q _ k3 _ H3 hr' ((e1.trans e2).trans e3) hk3 (.v (.tup' hs hd))
    · have e4 := Kp.of_ex (o := o) (Ex.new (o := .tup (cutV xs l u)) np)
      exact q _ k3 _ _ hr' (((e1.trans e2).trans e3).trans e4) (hk3.ex (Ex.new np)) (.v (.tup' (.inl (.inl upd_same)) ((hd.cut l u).kp e4 hk3))))
theorem n_cutL {lo hi : Option Expr} (h : EvC X o e ds k fun d k1 => EvO X o lo ds k1 fun l k2 => EvO X o hi ds k2 fun u k3 => onL k3 d fun as => RN (cutD as l u) k3) : EvN X o (.Subscript e (.Slice lo hi none p2) pos) ds k RN := fun st H Q S hk q =>
  we (pe_slice sl_list pe_w po_w po_w) (h st H _ S hk fun d k1 v H1 hr e1 hk1 h1 => hr st H1 _ (S.kp e1 hk) hk1 fun l k2 H2 hr e2 hk2 => hr st H2 _ ((S.kp e1 hk).kp e2 hk1) hk2 fun u k3 H3 hr e3 hk3 => by
    obtain ⟨a, xs, as, rfl, hs, hd, hr⟩ := onL_ex hk3 hr ((h1.kp e2 hk1).kp e3 hk2)
    refine ⟨a, xs, rfl, hs, fun p np => ?_⟩
    have e4 := Kp.of_ex (o := o) (Ex.new (o := .lst (cutV xs l u)) np)
    exact q _ k3 _ _ _ hr (fresh_back ((e1.trans e2).trans e3) hk3 np) (((e1.trans e2).trans e3).trans e4) (hk3.ex (Ex.new np)) upd_same ((hd.cut l u).kp e4 hk3))
theorem c_catT (h : EvC X o a ds k fun x k1 => EvC X o b ds k1 fun y k2 => onT x fun as => onT y fun bs => as.length + bs.length ≤ 1000 ∧ R (.tup (as ++ bs)) k2) : EvC X o (.BinOp a .Add b pos) ds k R := fun st H Q S hk q =>
  we (pe_op op_catA pe_w pe_w) (h st H _ S hk fun x k1 v H1 hx e1 hk1 h1 => hx st H1 _ (S.kp e1 hk) hk1 fun y k2 w H2 hy e2 hk2 h2 => by
    obtain ⟨as, rfl, hz⟩ := onT_ex hy
    obtain ⟨bs, rfl, hl, hr⟩ := onT_ex hz
    obtain ⟨pa, xs, rfl, hs, hd⟩ := (h1.kp e2 hk1).untup
    obtain ⟨pb, ys, rfl, hs2, hd2⟩ := h2.untup
    have e12 := e1.trans e2
    refine ⟨pa, pb, xs, ys, rfl, rfl, hs, hs2, ?_, fun hx => ?_, fun _ hy => ?_, fun _ _ p np => ?_⟩
    · rw [hd.1, hd2.1]
      exact Nat.le_trans hl (by decide)
    · have : as = [] := List.eq_nil_of_length_eq_zero (by rw [← hd.1, hx]; rfl)
      subst this
      exact q _ k2 _ H2 hr e12 hk2 (.v (.tup' hs2 hd2))
    · have : bs = [] := List.eq_nil_of_length_eq_zero (by rw [← hd2.1, hy]; rfl)
      subst this
      rw [List.append_nil] at hr
      exact q _ k2 _ H2 hr e12 hk2 (.v (.tup' hs hd))
    · have e4 := Kp.of_ex (o := o) (Ex.new (o := .tup (xs ++ ys)) np)
      exact q _ k2 _ _ hr (e12.trans e4) (hk2.ex (Ex.new np)) (.v (.tup' (.inl (.inl upd_same)) ((hd.append hd2).kp e4 hk2))))
def rCatR (K : PySem.W.Frag) : R2 := fun x y H Q => ∃ l b xs zs, x = .ref l ∧ y = .ref b ∧ SqL K H l xs ∧ SqL K H b zs ∧ xs.length + zs.length ≤ sizeLine ∧ ∀ p, H p = none → Q (.ref p) (upd H p (.lst (xs ++ zs)))
theorem op_catR : OpR X (binaryOp .Add) (rCatR X.K) := by
  intro pins s σ H x y v u Q I rx ry h
  obtain ⟨l, b, xs, zs, rfl, rfl, hH, hB, hz, q⟩ := h
  cases rx
  cases ry
  obtain ⟨its, r, pl, hl1⟩ := I.list hH
  obtain ⟨its2, r2, pl2, hl3⟩ := I.list hB
  have hl := r.length
  have hl2 := r2.length
  obtain ⟨⟨cls, dd, data, sl⟩, ho, hc, n, hd⟩ := pl.isList
  obtain ⟨⟨cls2, dd2, data2, sl2⟩, ho2, hc2, n2, hd2⟩ := pl2.isList
  simp only at hc hd hc2 hd2
  subst hc hd hc2 hd2
  have ea : its.toArray ++ its2.toArray = (its ++ its2).toArray := by simp
  refine concat_meets ⟨_, ho, rfl⟩ ⟨_, ho2, rfl⟩ noFill_list_add seq_list_add PySem.F.slot_list_add PySem.F.entry_list_add (PySem.F.args_list_add_2 _ _) (list_addW l b its.toArray its2.toArray n n2 dd dd2 sl sl2 (by rw [List.size_toArray, List.size_toArray]; omega)) ⟨ho, ho2, ?_⟩
  rw [ea]
  exact ⟨.ref _, _, I.lnew (t' := s.toks) (r.append r2) (by rw [List.length_append]; omega), rfl, q _ I.fresh⟩
theorem n_cat (h : EvC X o a ds k fun x k1 => EvC X o b ds k1 fun y k2 => onL k2 x fun as => onL k2 y fun bs => as.length + bs.length ≤ 10000 ∧ RN (as ++ bs) k2) : EvN X o (.BinOp a .Add b pos) ds k RN := fun st H Q S hk q =>
  we (pe_op op_catR pe_w pe_w) (h st H _ S hk fun x k1 v H1 hx e1 hk1 h1 => hx st H1 _ (S.kp e1 hk) hk1 fun y k2 w H2 hy e2 hk2 h2 => by
    obtain ⟨pa, xs, as, rfl, hs, hd, hz⟩ := onL_ex hk2 hy (h1.kp e2 hk1)
    obtain ⟨pb, ys, bs, rfl, hs2, hd2, hl, hr⟩ := onL_ex hk2 hz h2
    have e12 := e1.trans e2
    refine ⟨pa, pb, xs, ys, rfl, rfl, hs, hs2, ?_, fun p np => ?_⟩
    · rw [hd.1, hd2.1]
      exact Nat.le_trans hl (by decide)
    · have e4 := Kp.of_ex (o := o) (Ex.new (o := .lst (xs ++ ys)) np)
      exact q _ k2 p _ _ hr (fresh_back e12 hk2 np) (e12.trans e4) (hk2.ex (Ex.new np)) upd_same ((hd.append hd2).kp e4 hk2))
/-! methods of cells -/
@[reducible] def onC (x : Dat) (C : Nat → Prop) : Prop := match x with | .cel i => C i | _ => False
theorem onC_ex {d : Dat} {C : Nat → Prop} (h : onC d C) : ∃ i, d = .cel i ∧ C i := by
  cases d <;> first | exact ⟨_, rfl, h⟩ | exact h.elim
theorem cell_ty {K : PySem.W.Frag} {H : Hp} {a : Addr} {i : Nat} (hk : DK K o k H) (ha : o[i]? = some a) : tyV K "list" (.ref a) H := by
  obtain ⟨ys, hy⟩ := hk.cell (List.mem_of_getElem? ha)
  exact .inl ⟨rfl, ys, .inl (.inl hy)⟩
theorem noL_noC (n : noL d = true) : noC d = true := by cases d <;> first | rfl | cases n
theorem all_app {as bs : List Dat} (h1 : as.all noL = true) (h2 : bs.all noL = true) : (as ++ bs).all noL = true := by rw [List.all_append, h1, h2]; rfl
theorem all_one (h : noL d = true) : [d].all noL = true := by
  show (noL d && true) = true
  rw [h]; rfl
theorem c_append {eo : Expr} {apos cpos : Pos} (h : EvC X o eo ds k fun dc k1 => onC dc fun i => EvA X o [e1] ds k1 fun as k2 => on1 as fun d => noL d = true ∧ ∃ s, k2[i]? = some s ∧ s.length < 10000 ∧ R .non (k2.set i (s ++ [d])))
    (hbase : attributeBase eo "append" X.env (eval eo X.env) = eval eo X.env := by rfl)
    (hfew : ((backTo cpos (starEach [e1] X.env)).all (fun x => !x.1) && (backToKw cpos (keywordEach [] X.env)).all (fun x => x.1.isSome) && decide ([e1].length + ([] : List Keyword).length + (if ([] : List Keyword).isEmpty then 0 else 1) < 30)) = true := by rfl)
    (hline : (apos.endLine == cpos.line) = true := by rfl) (hs : starEach [e1] X.env = (false, eval e1 X.env) :: starEach [] X.env := by rfl) (hplain : (backTo cpos (starEach [] X.env)).any (·.1) = false := by rfl) : EvC X o (.Call (.Attribute eo "append" apos) [e1] [] cpos) ds k R := fun st H Q S hk q =>
  we (pe_bm PySem.F.plainAttrs_list PySem.F.slot_list_append PySem.F.type_list_append mt_append pe_w pa_w hbase hfew hline hs hplain) (h st H _ S hk fun dc k1 v H1 hx e1 hk1 h1 => by
    obtain ⟨i, rfl, hx⟩ := onC_ex hx
    obtain ⟨a, rfl, ha⟩ := h1.uncel
    refine ⟨cell_ty hk1 ha, hx st H1 _ (S.kp e1 hk) hk1 fun as k2 vs H2 hr e2 hk2 h2 => ?_⟩
    obtain ⟨d, rfl, nd, s, hs', hl, hr⟩ := on1_ex hr
    obtain ⟨w, rfl, g⟩ := dts1 h2
    obtain ⟨xs, hx', hd⟩ := hk2.at_ i a s ha hs'
    have hw := g.unc (noL_noC nd)
    obtain ⟨hk3, e3⟩ := dk_set hk2 ha (hd.append (DVs.cons hw DVs.nil)) (all_app (hk2.nl s (List.mem_of_getElem? hs')) (all_one nd))
    exact ⟨a, xs, w, rfl, rfl, hx', by rw [hd.1]; exact Nat.lt_of_lt_of_le hl (by decide), q _ _ _ _ hr ((e1.trans e2).trans e3) hk3 (.v .non)⟩)
theorem DVs.take {K : PySem.W.Frag} {H : Hp} {vs : List V} {ds : List Dat} (h : DVs K o H vs ds) (n : Nat) : DVs K o H (vs.take n) (ds.take n) := by
  refine ⟨by rw [List.length_take, List.length_take, h.1], fun i v d a b => ?_⟩
  rw [List.getElem?_take] at a b
  split at a
  · rename_i hi'
    rw [if_pos hi'] at b
    exact h.2 _ v d a b
  · cases a
theorem DVs.drop {K : PySem.W.Frag} {H : Hp} {vs : List V} {ds : List Dat} (h : DVs K o H vs ds) (n : Nat) : DVs K o H (vs.drop n) (ds.drop n) := by
  refine ⟨by rw [List.length_drop, List.length_drop, h.1], fun i v d a b => ?_⟩
  rw [List.getElem?_drop] at a b
  exact h.2 _ v d a b
theorem all_take {as : List Dat} {n : Nat} (h : as.all noL = true) : (as.take n).all noL = true := List.all_eq_true.mpr fun x hx => List.all_eq_true.mp h x (List.mem_of_mem_take hx)
theorem all_drop {as : List Dat} {n : Nat} (h : as.all noL = true) : (as.drop n).all noL = true := List.all_eq_true.mpr fun x hx => List.all_eq_true.mp h x (List.mem_of_mem_drop hx)
theorem c_insert {eo : Expr} {apos cpos : Pos} (h : EvC X o eo ds k fun dc k1 => onC dc fun i => EvA X o [e1, e2] ds k1 fun as k2 => on2 as fun dj d => onI dj fun j => noL d = true ∧ (0 ≤ j ∧ j < 2 ^ 63) ∧ ∃ s, k2[i]? = some s ∧ s.length < 10000 ∧ R .non (k2.set i (s.take j.toNat ++ [d] ++ s.drop j.toNat)))
    (hbase : attributeBase eo "insert" X.env (eval eo X.env) = eval eo X.env := by rfl)
    (hfew : ((backTo cpos (starEach [e1, e2] X.env)).all (fun x => !x.1) && (backToKw cpos (keywordEach [] X.env)).all (fun x => x.1.isSome) && decide ([e1, e2].length + ([] : List Keyword).length + (if ([] : List Keyword).isEmpty then 0 else 1) < 30)) = true := by rfl)
    (hline : (apos.endLine == cpos.line) = true := by rfl) (hs : starEach [e1, e2] X.env = (false, eval e1 X.env) :: starEach [e2] X.env := by rfl) (hplain : (backTo cpos (starEach [e2] X.env)).any (·.1) = false := by rfl) : EvC X o (.Call (.Attribute eo "insert" apos) [e1, e2] [] cpos) ds k R := fun st H Q S hk q =>
  we (pe_bm PySem.F.plainAttrs_list PySem.F.slot_list_insert PySem.F.type_list_insert mt_insert pe_w pa_w hbase hfew hline hs hplain) (h st H _ S hk fun dc k1 v H1 hx e1 hk1 h1 => by
    obtain ⟨i, rfl, hx⟩ := onC_ex hx
    obtain ⟨a, rfl, ha⟩ := h1.uncel
    refine ⟨cell_ty hk1 ha, hx st H1 _ (S.kp e1 hk) hk1 fun as k2 vs H2 hr e2 hk2 h2 => ?_⟩
    obtain ⟨dj, d, rfl, hr⟩ := on2_ex hr
    obtain ⟨j, rfl, nd, hj, s, hs', hl, hr⟩ := onI_ex hr
    obtain ⟨u, w, rfl, g0, g⟩ := dts2 h2
    have q1 := g0.unint
    subst q1
    obtain ⟨xs, hx', hd⟩ := hk2.at_ i a s ha hs'
    have hw := g.unc (noL_noC nd)
    have nl := hk2.nl s (List.mem_of_getElem? hs')
    obtain ⟨hk3, e3⟩ := dk_set hk2 ha (((hd.take j.toNat).append (DVs.cons hw DVs.nil)).append (hd.drop j.toNat)) (all_app (all_app (all_take nl) (all_one nd)) (all_drop nl))
    exact ⟨a, xs, j, w, rfl, rfl, hx', by rw [hd.1]; exact Nat.lt_of_lt_of_le hl (by decide), hj.1, hj.2, q _ _ _ _ hr ((e1.trans e2).trans e3) hk3 (.v .non)⟩)
end
end Wz

set_option Elab.async false
set_option linter.all false
set_option maxRecDepth 100000
set_option maxHeartbeats 4000000
namespace Wz
open PySem PySem.Spec PyProof.Rows L2 Evl
abbrev BX (X : Cx) (scope : Scope) (s : Shared) (H : Hp) (C : Addr) (cl : List (Str × Addr)) (fp : List Addr) : Cx := X.blk s H scope (compEnvC scope cl C X.env) fp
def bT (X : Cx) (scope : Scope) (c : Expr) : TT := fun st H Q => ∀ s0 H0 C cl fp, WT (BX X scope s0 H0 C cl fp) c st H Q
def bE (X : Cx) (scope : Scope) (c : Expr) : TE := fun st H Q => ∀ s0 H0 C cl fp, WE (BX X scope s0 H0 C cl fp) c st H Q
/-- the turn's invariant -/
def CvI (K : PySem.W.Frag) (o : Os) (H1 : Hp) (D : Addr) (W : Nat → List Dat → Cs → Prop) (i : Nat) (H' : Hp) : Prop :=
  Kp o H1 H' ∧ ∃ q acc vs, W i acc q ∧ DK K o q H' ∧ H' D = some (.lst vs) ∧ DVs K o H' vs acc ∧ acc.all noL = true ∧ acc.length ≤ i
theorem tm_upd {K : PySem.W.Frag} {H : Hp} {p : Addr} {xs ys : List V} (h : H p = some (.lst xs)) : ∀ b zs, SqT K H b zs → SqT K (upd H p (.lst ys)) b zs := fun b zs s => by
  rcases s with (s | ⟨ob, s⟩) | s
  · have n : b ≠ p := fun z => by
      rw [z, h] at s
      cases s
    exact .inl (.inl (by rw [upd_ne n]; exact s))
  · have n : b ≠ p := fun z => by
      rw [z, h] at s
      cases s
    exact .inl (.inr ⟨ob, by rw [upd_ne n]; exact s⟩)
  · exact .inr s
theorem DV.tm {K : PySem.W.Frag} {o : Os} {H H' : Hp} (m : ∀ b xs, SqT K H b xs → SqT K H' b xs) {v : V} {d : Dat} (h : DV K o H v d) : noL d = true → DV K o H' v d := by
  induction h with
  | non => intro _; exact .non
  | bl b => intro _; exact .bl b
  | int i => intro _; exact .int i
  | str x => intro _; exact .str x
  | tup s l _ ih =>
    intro h
    rw [noL] at h
    exact .tup (m _ _ s) l fun i v d a b => ih i v d a b (noLs_at h b)
  | lst s l _ ih => intro h; rw [noL] at h; cases h
  | raw v => intro h; rw [noL] at h; cases h
  | obj s n m l _ ih => intro h; rw [noL] at h; cases h
theorem DVs.tm {K : PySem.W.Frag} {o : Os} {H H' : Hp} (m : ∀ b xs, SqT K H b xs → SqT K H' b xs) {vs : List V} {ds : List Dat} (h : DVs K o H vs ds) (n : ds.all noL = true) : DVs K o H' vs ds := ⟨h.1, fun i v d a b => (h.2 i v d a b).tm m (noLs_all n b)⟩
theorem cv_step {K : PySem.W.Frag} {o : Os} {k1 q : Cs} {H1 H3 H4 : Hp} {D : Addr} {W : Nat → List Dat → Cs → Prop} {i : Nat} {acc : List Dat} {vs : List V} {u : V} {y : Dat} {q' : Cs} (n1 : H1 D = none) (hk1 : DK K o k1 H1) (hi : i < 10000) (w1 : Kp o H1 H3) (hk3 : DK K o q H3) (hD : H3 D = some (.lst vs)) (hv : DVs K o H3 vs acc) (na : acc.all noL = true) (hl : acc.length ≤ i)
    (e : Kp o H3 H4) (hk4 : DK K o q' H4) (hu : DT K o H4 u y) (ny : noL y = true) (hW : W (i + 1) (acc ++ [y]) q') : ∃ vs, H4 D = some (.lst vs) ∧ vs.length < sizeLine ∧ CvI K o H1 D W (i + 1) (upd H4 D (.lst (vs ++ [u]))) := by
  have nD : D ∉ o := hk1.ne n1
  have hD4 : H4 D = some (.lst vs) := e D _ nD hD
  refine ⟨vs, hD4, ?_, fun b z nb hb => ?_, q', acc ++ [y], vs ++ [u], hW, ?_, upd_same, ?_, all_app na (all_one ny), ?_⟩
  · rw [hv.1]
    exact Nat.lt_of_le_of_lt hl (Nat.lt_of_lt_of_le hi (by decide))
  · rw [upd_ne (ne_of_none hb n1)]
    exact e b z nb (w1 b z nb hb)
  · refine ⟨hk4.len, hk4.nd, hk4.nl, fun j a as ha hs => ?_⟩
    obtain ⟨xs, hx, hd⟩ := hk4.at_ j a as ha hs
    refine ⟨xs, ?_, hd.tm (tm_upd hD4) (hk4.nl as (List.mem_of_getElem? hs))⟩
    rw [upd_ne (fun z => nD (by rw [← z]; exact List.mem_of_getElem? ha))]
    exact hx
  · exact ((hv.kp e hk3).append (DVs.cons (hu.unc (noL_noC ny)) DVs.nil)).tm (tm_upd hD4) (all_app na (all_one ny))
  · rw [List.length_append]
    show acc.length + 1 ≤ i + 1
    omega
theorem set_wipe {st : L2.St} {j : Nat} {v : V} : (wipe st [j]).set j (some v) = st.set j (some v) := by
  show (st.set j none).set j (some v) = _
  rw [List.set_set]
theorem wipe_set {st : L2.St} {j : Nat} {v : V} : wipe (st.set j (some v)) [j] = wipe st [j] := by
  show (st.set j (some v)).set j none = st.set j none
  rw [List.set_set]
section
variable {X : Cx} {o0 o : Os} {ds : List (Option Dat)} {k k1 k2 : Cs} {e c a b elt e1 e2 e3 : Expr} {es : List Expr} {d : Dat} {as : List Dat} {pos pos' p p1 p2 p3 : Pos} {rest body orelse : List Stmt} {D : Ends} {H0 : Hp} {R : Dat → Cs → Prop} {RT : Bool → Cs → Prop} {RN : List Dat → Cs → Prop} {x : Str} {scope : Scope} {j : Nat}
/-- what a comprehension wants: W by the turn and what is told so far -/
structure LcW (X : Cx) (o : Os) (scope : Scope) (elt : Expr) (ds : List (Option Dat)) (n : Nat) (it : Nat → Option Dat) (sl : Dat → List (Option Dat) → List (Option Dat)) (W : Nat → List Dat → Cs → Prop) : Prop where
  turn : ∀ s H C cl fp j d acc q, j < n → it j = some d → W j acc q → EvC (BX X scope s H C cl fp) o elt (sl d ds) q fun y q' => noL y = true ∧ W (j + 1) (acc ++ [y]) q'
/-- with an if -/
structure LcC (X : Cx) (o : Os) (scope : Scope) (c elt : Expr) (ds : List (Option Dat)) (n : Nat) (it : Nat → Option Dat) (sl : Dat → List (Option Dat) → List (Option Dat)) (W : Nat → List Dat → Cs → Prop) : Prop where
  turn : ∀ s H C cl fp j d acc q, j < n → it j = some d → W j acc q → EvT (BX X scope s H C cl fp) o c (sl d ds) q fun b q1 => bc b (∀ s H C cl fp, EvC (BX X scope s H C cl fp) o elt (sl d ds) q1 fun y q' => noL y = true ∧ W (j + 1) (acc ++ [y]) q') (W (j + 1) acc q1)
/-- the turn of a comprehension without if -/
theorem lc_turn0 {n : Nat} {it : Nat → Option Dat} {W : Nat → List Dat → Cs → Prop} {H1 H' : Hp} {Dr : Addr} {st : L2.St} {i : Nat} {y : V} {d : Dat} (n1 : H1 Dr = none) (hk1 : DK X.K o k1 H1) (S1 : Sat X.K o st H1 ds) (L : LcW X o scope elt ds n it (fun d es => es.set j (some d)) W) (hn : n ≤ 10000) (hi : i < n) (hd : it i = some d) (hy : DV X.K o H1 y d) (w : CvI X.K o H1 Dr W i H') :
    wipe ((wipe st [j]).set j (some y)) [j] = wipe st [j] ∧ tYes ((wipe st [j]).set j (some y)) H' fun b H3 => if b = true then bE X scope elt ((wipe st [j]).set j (some y)) H3 fun y H4 => ∃ acc, H4 Dr = some (.lst acc) ∧ acc.length < sizeLine ∧ CvI X.K o H1 Dr W (i + 1) (upd H4 Dr (.lst (acc ++ [y]))) else CvI X.K o H1 Dr W (i + 1) H3 := by
  rw [set_wipe, wipe_set]
  refine ⟨rfl, ?_⟩
  simp only [tYes, if_true]
  obtain ⟨w1, q, acc, vs, hW, hk', hD, hv, na, hl⟩ := w
  have S2 : Sat X.K o (st.set j (some y)) H' (ds.set j (some d)) := (S1.kp w1 hk1).set (.v (hy.kp w1 hk1))
  exact fun s0 H0 C cl fp => L.turn s0 H0 C cl fp i d acc q hi hd hW _ H' _ S2 hk' fun z q' u H4 hr e4 hk4 hu => cv_step n1 hk1 (by omega) w1 hk' hD hv na hl e4 hk4 hu hr.1 hr.2
theorem lc_turn1 {n : Nat} {it : Nat → Option Dat} {W : Nat → List Dat → Cs → Prop} {H1 H' : Hp} {Dr : Addr} {st : L2.St} {i : Nat} {y : V} {d : Dat} (n1 : H1 Dr = none) (hk1 : DK X.K o k1 H1) (S1 : Sat X.K o st H1 ds) (L : LcC X o scope c elt ds n it (fun d es => es.set j (some d)) W) (hn : n ≤ 10000) (hi : i < n) (hd : it i = some d) (hy : DV X.K o H1 y d) (w : CvI X.K o H1 Dr W i H') :
    wipe ((wipe st [j]).set j (some y)) [j] = wipe st [j] ∧ bT X scope c ((wipe st [j]).set j (some y)) H' fun b H3 => if b = true then bE X scope elt ((wipe st [j]).set j (some y)) H3 fun y H4 => ∃ acc, H4 Dr = some (.lst acc) ∧ acc.length < sizeLine ∧ CvI X.K o H1 Dr W (i + 1) (upd H4 Dr (.lst (acc ++ [y]))) else CvI X.K o H1 Dr W (i + 1) H3 := by
  rw [set_wipe, wipe_set]
  refine ⟨rfl, ?_⟩
  obtain ⟨w1, q, acc, vs, hW, hk', hD, hv, na, hl⟩ := w
  have S2 : Sat X.K o (st.set j (some y)) H' (ds.set j (some d)) := (S1.kp w1 hk1).set (.v (hy.kp w1 hk1))
  have nD : Dr ∉ o := hk1.ne n1
  refine fun s0 H0 C cl fp => L.turn s0 H0 C cl fp i d acc q hi hd hW _ H' _ S2 hk' fun b q1 H3 hb e3 hk3 => ?_
  cases b with
  | true =>
    rw [if_pos rfl]
    exact fun s0 H0 C cl fp => hb s0 H0 C cl fp _ H3 _ (S2.kp e3 hk') hk3 fun z q' u H4 hr e4 hk4 hu => cv_step n1 hk1 (by omega) (w1.trans e3) hk3 (e3 Dr _ nD hD) (hv.kp e3 hk') na hl e4 hk4 hu hr.1 hr.2
  | false =>
    rw [if_neg Bool.false_ne_true]
    exact ⟨w1.trans e3, q1, acc, vs, hb, hk3, e3 Dr _ nD hD, hv.kp e3 hk', na, by omega⟩
theorem cv_start {W : Nat → List Dat → Cs → Prop} {H1 : Hp} {Dr : Addr} (n1 : H1 Dr = none) (hk1 : DK X.K o k1 H1) (h0 : W 0 [] k1) : CvI X.K o H1 Dr W 0 (upd H1 Dr (.lst [])) := ⟨Kp.of_ex (Ex.new n1), k1, [], [], h0, hk1.ex (Ex.new n1), upd_same, DVs.nil, rfl, Nat.le_refl _⟩
/-- [elt for x in range(a)] -/
theorem n_lcR (hcalm : X.calm = true) (hN : X.N.Nodup) (hm : X.mg "range" = none) (hok : BlkOk X.N X.env.scope scope [(x, j)]) (hgn : ∀ s H C cl fp, PG (BX X scope s H C cl fp) (.Name x p1) (gName j))
    (h : EvA X o [a] ds k fun as k1 => on1 as fun d => onI d fun n => (0 ≤ n ∧ n ≤ 10000) ∧ ∃ W, W 0 [] k1 ∧ LcW X o scope elt ds n.toNat (fun i => some (.int (i : Int))) (fun d es => es.set j (some d)) W ∧ ∀ acc q, W n.toNat acc q → acc.all noL = true → RN acc q) (hg : Gl X "range" := by rfl) (hst : starEach [a] X.env = [(false, eval a X.env)] := by rfl)
    (hset : ∀ y, foldedSetIterable (.Call (.Name "range" p2) [a] [] p3) X.env y = pure y := by intro _; rfl) :
    EvN X o (.ListComp elt [⟨.Name x p1, .Call (.Name "range" p2) [a] [] p3, [], 0⟩] scope pos) ds k RN := fun st H Q S hk q =>
  we (pe_lc (own := [(x, j)]) (g := gName j) (tt := tYes) (te := bE X scope elt) hcalm hN (pi_range1 hg hm pa_w hst) hok hgn
    (fun s0 H0 C cl fp => pts_nil) (fun s0 H0 C cl fp => ⟨fun pins s st H Q I h => h s0 H0 C cl fp pins s I⟩) hset) (h st H _ S hk fun as k1 vs H1 hr e1 hk1 h1 => by
    obtain ⟨d, rfl, hr⟩ := on1_ex hr
    obtain ⟨n, rfl, hn, W, h0, L, hd⟩ := onI_ex hr
    obtain ⟨u, rfl, g1⟩ := dts1 h1
    have q1 := g1.unint
    subst q1
    refine ⟨n, rfl, by omega, by omega, fun Dr nD => ?_⟩
    refine lc_range (lo := 0) (n := n.toNat) (g := gName j) (tt := tYes) (te := bE X scope elt) (vs := [j]) (σ := st) (Qd := fun H' => Q (.ref Dr) H') (CvI X.K o H1 Dr W) (cv_start nD hk1 h0) (fun i H' hi w => ?_) (fun H' w => ?_)
    · have e0 : (0 : Int) + (i : Int) = (i : Int) := Int.zero_add _
      show wipe ((wipe st [j]).set j (some (.int ((0 : Int) + (i : Int))))) [j] = wipe st [j] ∧ _
      rw [e0]
      exact lc_turn0 nD hk1 (S.kp e1 hk) L (by omega) hi rfl (.int _) w
    · obtain ⟨w1, q', acc, vs, hW, hk', hD, hv, na, hl⟩ := w
      exact q acc q' Dr vs H' (hd acc q' hW na) (fresh_back e1 hk1 nD) (e1.trans w1) hk' hD hv)
/-- [elt for x in t], t a tuple -/
theorem n_lcT (hcalm : X.calm = true) (hN : X.N.Nodup) (hok : BlkOk X.N X.env.scope scope [(x, j)]) (hgn : ∀ s H C cl fp, PG (BX X scope s H C cl fp) (.Name x p1) (gName j))
    (h : EvC X o a ds k fun d k1 => onT d fun as => as.length ≤ 10000 ∧ ∃ W, W 0 [] k1 ∧ LcW X o scope elt ds as.length (fun i => as[i]?) (fun d es => es.set j (some d)) W ∧ ∀ acc q, W as.length acc q → acc.all noL = true → RN acc q)
    (hset : ∀ y, foldedSetIterable a X.env y = pure y := by intro _; rfl) :
    EvN X o (.ListComp elt [⟨.Name x p1, a, [], 0⟩] scope pos) ds k RN := fun st H Q S hk q =>
  we (pe_lc (own := [(x, j)]) (g := gName j) (tt := tYes) (te := bE X scope elt) hcalm hN (pi_tup pe_w) hok hgn
    (fun s0 H0 C cl fp => pts_nil) (fun s0 H0 C cl fp => ⟨fun pins s st H Q I h => h s0 H0 C cl fp pins s I⟩) hset) (h st H _ S hk fun d k1 v H1 hr e1 hk1 h1 => by
    obtain ⟨as, rfl, hn, W, h0, L, hd⟩ := onT_ex hr
    obtain ⟨t, xs, rfl, hs, hdv⟩ := h1.untup
    refine ⟨t, rfl, ⟨xs, hs⟩, fun Dr nD => ?_⟩
    refine lc_tup (xs := xs) (g := gName j) (tt := tYes) (te := bE X scope elt) (vs := [j]) (σ := st) (Qd := fun H' => Q (.ref Dr) H') (CvI X.K o H1 Dr W) (cv_start nD hk1 h0) (fun i H' _ w => kp_t w.1 hk1 hs) (fun i y H' hy w => ?_) (fun H' w => ?_)
    · have hi : i < as.length := by
        rw [← hdv.1]
        exact (List.getElem?_eq_some_iff.mp hy).1
      have hda : as[i]? = some as[i] := List.getElem?_eq_getElem hi
      exact lc_turn0 nD hk1 (S.kp e1 hk) L hn hi hda (hdv.2 i y _ hy hda) w
    · obtain ⟨w1, q', acc, vs, hW, hk', hD, hv, na, hl⟩ := w
      rw [hdv.1] at hW
      exact q acc q' Dr vs H' (hd acc q' hW na) (fresh_back e1 hk1 nD) (e1.trans w1) hk' hD hv)
/-- [elt for x in xs], xs a list that is no cell -/
theorem n_lcL (hcalm : X.calm = true) (hN : X.N.Nodup) (hok : BlkOk X.N X.env.scope scope [(x, j)]) (hgn : ∀ s H C cl fp, PG (BX X scope s H C cl fp) (.Name x p1) (gName j))
    (h : EvC X o a ds k fun d k1 => onL0 d fun as => as.length ≤ 10000 ∧ ∃ W, W 0 [] k1 ∧ LcW X o scope elt ds as.length (fun i => as[i]?) (fun d es => es.set j (some d)) W ∧ ∀ acc q, W as.length acc q → acc.all noL = true → RN acc q)
    (hset : ∀ y, foldedSetIterable a X.env y = pure y := by intro _; rfl) :
    EvN X o (.ListComp elt [⟨.Name x p1, a, [], 0⟩] scope pos) ds k RN := fun st H Q S hk q =>
  we (pe_lc (own := [(x, j)]) (g := gName j) (tt := tYes) (te := bE X scope elt) hcalm hN (pi_list pe_w) hok hgn
    (fun s0 H0 C cl fp => pts_nil) (fun s0 H0 C cl fp => ⟨fun pins s st H Q I h => h s0 H0 C cl fp pins s I⟩) hset) (h st H _ S hk fun d k1 v H1 hr e1 hk1 h1 => by
    obtain ⟨as, rfl, hn, W, h0, L, hd⟩ := onL0_ex hr
    obtain ⟨t, xs, rfl, hs, hdv⟩ := h1.unlst
    refine ⟨t, rfl, ⟨xs, hs.sq⟩, fun Dr nD => ?_⟩
    refine lc_list (xs := xs) (g := gName j) (tt := tYes) (te := bE X scope elt) (vs := [j]) (σ := st) (Qd := fun H' => Q (.ref Dr) H') (CvI X.K o H1 Dr W) (cv_start nD hk1 h0) (fun i H' _ w => (hs.kp w.1 fun _ z => z).sq) (fun i y H' hy w => ?_) (fun H' w => ?_)
    · have hi : i < as.length := by
        rw [← hdv.1]
        exact (List.getElem?_eq_some_iff.mp hy).1
      have hda : as[i]? = some as[i] := List.getElem?_eq_getElem hi
      exact lc_turn0 nD hk1 (S.kp e1 hk) L hn hi hda (hdv.2 i y _ hy hda) w
    · obtain ⟨w1, q', acc, vs, hW, hk', hD, hv, na, hl⟩ := w
      rw [hdv.1] at hW
      exact q acc q' Dr vs H' (hd acc q' hW na) (fresh_back e1 hk1 nD) (e1.trans w1) hk' hD hv)
end
end Wz

set_option Elab.async false
set_option linter.all false
set_option maxRecDepth 100000
set_option maxHeartbeats 4000000
namespace Wz
open PySem PySem.Spec PyProof.Rows L2 Evl
/-! deep == -/
def noR : Dat → Bool
  | .raw _ => false
  | .obj _ _ _ => false
  | .cel _ => false
  | .lst xs => noRs xs
  | .tup xs => noRs xs
  | _ => true
where noRs : List Dat → Bool
  | [] => true
  | d :: ds => noR d && noRs ds
def pd : Dat → PyData
  | .non => .none
  | .bl b => .bool b
  | .int i => .int i
  | .str x => .str x
  | .tup xs => .tuple (pds xs)
  | .lst xs => .list (pds xs)
  | .cel _ => .none
  | .raw _ => .none
  | .obj _ _ _ => .none
where pds : List Dat → List PyData
  | [] => []
  | d :: ds => pd d :: pds ds
theorem noRs_at : ∀ {ds : List Dat} {i : Nat} {d : Dat}, noR.noRs ds = true → ds[i]? = some d → noR d = true
  | [], _, _, _, h => by simp at h
  | d :: ds, 0, e, h, q => by
    simp at q
    subst q
    rw [noR.noRs, Bool.and_eq_true] at h
    exact h.1
  | d :: ds, i + 1, e, h, q => by
    rw [noR.noRs, Bool.and_eq_true] at h
    exact noRs_at (i := i) h.2 (by simpa using q)
theorem dpall {K : PySem.W.Frag} {H : Hp} : ∀ {xs : List V} {ds : List Dat}, xs.length = ds.length → (∀ (i : Nat) (v : V) (d : Dat), xs[i]? = some v → ds[i]? = some d → Dp K H v (pd d)) → DpAll K H xs (pd.pds ds)
  | [], [], _, _ => .nil
  | x :: xs, d :: ds, hl, h => .cons (h 0 x d rfl rfl) (dpall (by simpa using hl) fun i v e a b => h (i + 1) v e (by simpa using a) (by simpa using b))
theorem DV.dp {K : PySem.W.Frag} {o : Os} {H : Hp} {v : V} {d : Dat} (h : DV K o H v d) : noR d = true → Dp K H v (pd d) := by
  induction h with
  | non => intro _; exact .non
  | bl b => intro _; exact .bl b
  | int i => intro _; exact .int i
  | str x => intro _; exact .str x
  | tup s l _ ih =>
    intro n
    rw [noR] at n
    exact .tup s (dpall l fun i v d a b => ih i v d a b (noRs_at n b))
  | lst s l _ ih =>
    intro n
    rw [noR] at n
    exact .lst (s.sq) (dpall l fun i v d a b => ih i v d a b (noRs_at n b))
  | raw v => intro n; rw [noR] at n; cases n
  | obj _ _ _ _ _ _ => intro n; rw [noR] at n; cases n
theorem noR_noC {d : Dat} (n : noR d = true) : noC d = true := by cases d <;> first | rfl | cases n
/-- what is compared is data of few depths -/
@[reducible] def eqOk (x y : Dat) : Prop := (noR x = true ∧ noR y = true) ∧ SeqAt.shaped (pd x) = true ∧ SeqAt.shaped (pd y) = true
section
variable {X : Cx} {o0 o : Os} {ds : List (Option Dat)} {k k1 k2 : Cs} {e c a b elt e1 e2 e3 : Expr} {es : List Expr} {d : Dat} {as : List Dat} {pos pos' p p1 p2 p3 : Pos} {rest body orelse : List Stmt} {D : Ends} {H0 : Hp} {R : Dat → Cs → Prop} {RT : Bool → Cs → Prop} {RN : List Dat → Cs → Prop} {x : Str} {scope : Scope} {j : Nat}
def CD (n : Bool) (x y : Dat) (_ : Cs) (z : Bool) : Prop := eqOk x y ∧ z = (if n = true then !PyData.eqv (pd x) (pd y) else PyData.eqv (pd x) (pd y))
theorem c_eqD (hu : X.A.units + 64 < cLine) (h : EvC X o a ds k fun x k1 => EvC X o b ds k1 fun y k2 => eqOk x y ∧ R (.bl (PyData.eqv (pd x) (pd y))) k2) : EvC X o (.Compare a [.Eq] [b] pos) ds k R :=
  c_cmp (op_eqD hu) (nobehind _ (by decide) (by decide)) (C := CD false) (fun x y k2 v w H Q hz _ h1 h2 q => by
    obtain ⟨z, ⟨⟨n1, n2⟩, s1, s2⟩, rfl⟩ := hz
    exact ⟨_, _, (h1.unc (noR_noC n1)).dp n1, (h2.unc (noR_noC n2)).dp n2, s1, s2, q _ ⟨⟨⟨n1, n2⟩, s1, s2⟩, rfl⟩⟩) (h.mono fun x k1 hx => hx.mono fun y k2 ⟨ok, hy⟩ => ⟨⟨_, ok, rfl⟩, fun z ⟨_, e⟩ => by
      rw [e]
      exact hy⟩)
theorem t_eqD (hu : X.A.units + 64 < cLine) (h : EvC X o a ds k fun x k1 => EvC X o b ds k1 fun y k2 => eqOk x y ∧ RT (PyData.eqv (pd x) (pd y)) k2) : EvT X o (.Compare a [.Eq] [b] pos) ds k RT :=
  tc_cmp (op_eqD hu) (nobehind _ (by decide) (by decide)) (C := CD false) (fun x y k2 v w H Q hz _ h1 h2 q => by
    obtain ⟨z, ⟨⟨n1, n2⟩, s1, s2⟩, rfl⟩ := hz
    exact ⟨_, _, (h1.unc (noR_noC n1)).dp n1, (h2.unc (noR_noC n2)).dp n2, s1, s2, q _ ⟨⟨⟨n1, n2⟩, s1, s2⟩, rfl⟩⟩) (h.mono fun x k1 hx => hx.mono fun y k2 ⟨ok, hy⟩ => ⟨⟨_, ok, rfl⟩, fun z ⟨_, e⟩ => by
      rw [e]
      exact hy⟩)
theorem c_neD (hu : X.A.units + 64 < cLine) (h : EvC X o a ds k fun x k1 => EvC X o b ds k1 fun y k2 => eqOk x y ∧ R (.bl (!PyData.eqv (pd x) (pd y))) k2) : EvC X o (.Compare a [.NotEq] [b] pos) ds k R :=
  c_cmp (op_neD hu) (nobehind _ (by decide) (by decide)) (C := CD true) (fun x y k2 v w H Q hz _ h1 h2 q => by
    obtain ⟨z, ⟨⟨n1, n2⟩, s1, s2⟩, rfl⟩ := hz
    exact ⟨_, _, (h1.unc (noR_noC n1)).dp n1, (h2.unc (noR_noC n2)).dp n2, s1, s2, q _ ⟨⟨⟨n1, n2⟩, s1, s2⟩, rfl⟩⟩) (h.mono fun x k1 hx => hx.mono fun y k2 ⟨ok, hy⟩ => ⟨⟨_, ok, rfl⟩, fun z ⟨_, e⟩ => by
      rw [e]
      exact hy⟩)
theorem t_neD (hu : X.A.units + 64 < cLine) (h : EvC X o a ds k fun x k1 => EvC X o b ds k1 fun y k2 => eqOk x y ∧ RT (!PyData.eqv (pd x) (pd y)) k2) : EvT X o (.Compare a [.NotEq] [b] pos) ds k RT :=
  tc_cmp (op_neD hu) (nobehind _ (by decide) (by decide)) (C := CD true) (fun x y k2 v w H Q hz _ h1 h2 q => by
    obtain ⟨z, ⟨⟨n1, n2⟩, s1, s2⟩, rfl⟩ := hz
    exact ⟨_, _, (h1.unc (noR_noC n1)).dp n1, (h2.unc (noR_noC n2)).dp n2, s1, s2, q _ ⟨⟨⟨n1, n2⟩, s1, s2⟩, rfl⟩⟩) (h.mono fun x k1 hx => hx.mono fun y k2 ⟨ok, hy⟩ => ⟨⟨_, ok, rfl⟩, fun z ⟨_, e⟩ => by
      rw [e]
      exact hy⟩)
/-- an int in a tuple of ints -/
theorem vints {K : PySem.W.Frag} {H : Hp} {xs : List V} {is : List Int} (hd : DVs K o H xs (is.map Dat.int)) : xs = is.map V.int := by
  refine List.ext_getElem? fun j => ?_
  by_cases hj : j < xs.length
  · have hj2 : j < is.length := by rw [hd.1, List.length_map] at hj; exact hj
    have q1 : (is.map Dat.int)[j]? = some (.int is[j]) := by rw [List.getElem?_map, List.getElem?_eq_getElem hj2]; rfl
    have q2 := hd.2 j _ _ (List.getElem?_eq_getElem hj) q1
    rw [List.getElem?_eq_getElem hj, List.getElem?_map, List.getElem?_eq_getElem hj2]
    generalize xs[j] = vv at q2
    cases q2
    rfl
  · have hj2 : ¬ j < is.length := by rw [hd.1, List.length_map] at hj; exact hj
    rw [List.getElem?_eq_none (by omega), List.getElem?_eq_none (by rw [List.length_map]; omega)]
theorem inV_ints {i : Int} : ∀ {is : List Int}, inV (.int i) (is.map V.int) = decide (i ∈ is)
  | [] => by simp [inV]
  | j :: is => by
    have ih := inV_ints (i := i) (is := is)
    unfold inV at *
    rw [List.map_cons, List.any_cons, ih]
    by_cases h : i = j
    · subst h
      simp [eqV]
    · have : eqV (V.int j) (V.int i) = false := by
        simp [eqV]
        omega
      simp [this, h]
theorem c_inI {is : List Int} (h : EvC X o a ds k fun x k1 => EvC X o b ds k1 fun y k2 => onI x fun i => y = .tup (is.map Dat.int) ∧ R (.bl (decide (i ∈ is))) k2) (hm : behindInMarks .In b = false := by rfl) : EvC X o (.Compare a [.In] [b] pos) ds k R := fun st H Q S hk q =>
  we (pe_cmpR op_in_seq pe_w pe_w hm) (h st H _ S hk fun x k1 v H1 hx e1 hk1 h1 => hx st H1 _ (S.kp e1 hk) hk1 fun y k2 w H2 hy e2 hk2 h2 => by
    obtain ⟨i, rfl, rfl, hr⟩ := onI_ex hy
    have q1 := h1.unint
    subst q1
    obtain ⟨pp, xs, rfl, hs, hd⟩ := h2.untup
    have ex := vints hd
    subst ex
    refine ⟨pp, _, rfl, .inr hs, rfl, ?_, ?_⟩
    · rw [List.all_map]
      exact List.all_eq_true.mpr fun _ _ => rfl
    · show Q (.bl (if false = true then !inV (.int i) (is.map V.int) else inV (.int i) (is.map V.int))) H2
      rw [if_neg Bool.false_ne_true, inV_ints]
      exact q _ k2 _ H2 hr (e1.trans e2) hk2 (.v (.bl _)))
/-! unpacking -/
/-- (a, b), (c, d) = t -/
theorem as_unp22 {i j l m : Nat} {x y z u : Str} {px py pz pu pt1 pt2 pt : Pos} {kt1 kt2 kt : Nat} (hN : X.N.Nodup) (hc : X.calm = true) (h : EvC X o e ds k fun d k1 => ∃ d1 d2 d3 d4, d = .tup [.tup [d1, d2], .tup [d3, d4]] ∧ AS X o0 o rest D ((((ds.set i (some d1)).set j (some d2)).set l (some d3)).set m (some d4)) k1 H0)
    (hi : X.N[i]? = some x := by rfl) (hj : X.N[j]? = some y := by rfl) (hl : X.N[l]? = some z := by rfl) (hm : X.N[m]? = some u := by rfl) (hx : Loc X.env.scope x := by exact Or.inl rfl) (hy : Loc X.env.scope y := by exact Or.inl rfl) (hz : Loc X.env.scope z := by exact Or.inl rfl) (hu : Loc X.env.scope u := by exact Or.inl rfl)
    (hfx : X.fn x = true ∨ X.env.scope.names.lookup x = some .local := by exact .inl rfl) (hfy : X.fn y = true ∨ X.env.scope.names.lookup y = some .local := by exact .inl rfl) (hfz : X.fn z = true ∨ X.env.scope.names.lookup z = some .local := by exact .inl rfl) (hfu : X.fn u = true ∨ X.env.scope.names.lookup u = some .local := by exact .inl rfl)
    (hs : swapsWithSole [.Tuple [.Tuple [.Name x px, .Name y py] kt1 pt1, .Tuple [.Name z pz, .Name u pu] kt2 pt2] kt pt] e pos.line X.env = pure false := by rfl) (hw : swappedStores [.Tuple [.Tuple [.Name x px, .Name y py] kt1 pt1, .Tuple [.Name z pz, .Name u pu] kt2 pt2] kt pt] e X.env = pure none := by rfl) :
    AS X o0 o (.Assign [.Tuple [.Tuple [.Name x px, .Name y py] kt1 pt1, .Tuple [.Name z pz, .Name u pu] kt2 pt2] kt pt] e pos :: rest) D ds k H0 := fun st H S hk e0 fr =>
  wb_cons (wss (ps_asg pe_w (pg_tup hc (pgs_cons (pg_tup hc (pgs_cons (pg_name hN hi hx hfx) (pgs_cons (pg_name hN hj hy hfy) pgs_nil))) (pgs_cons (pg_tup hc (pgs_cons (pg_name hN hl hz hfz) (pgs_cons (pg_name hN hm hu hfu) pgs_nil))) pgs_nil))) hs hw) (h st H _ S hk fun d k1 v H1 hr e1 hk1 h1 => by
    obtain ⟨d1, d2, d3, d4, rfl, hy⟩ := hr
    obtain ⟨a, xs, rfl, hsq, hd⟩ := h1.untup
    match xs, hd with
    | [v1, v2], hd =>
      obtain ⟨a1, ys, rfl, hs1, hd1⟩ := (hd.2 0 _ _ rfl rfl).untup
      obtain ⟨a2, zs, rfl, hs2, hd2⟩ := (hd.2 1 _ _ rfl rfl).untup
      match ys, hd1, zs, hd2 with
      | [u1, u2], hd1, [u3, u4], hd2 =>
        exact ⟨a, _, rfl, hsq, rfl, _, _, rfl, ⟨a1, _, rfl, hs1, rfl, u1, _, rfl, u2, _, rfl, rfl, _, _, rfl, ⟨a2, _, rfl, hs2, rfl, u3, _, rfl, u4, _, rfl, rfl, rfl, hy _ H1 (((((S.kp e1 hk).set (.v (hd1.2 0 _ _ rfl rfl))).set (.v (hd1.2 1 _ _ rfl rfl))).set (.v (hd2.2 0 _ _ rfl rfl))).set (.v (hd2.2 1 _ _ rfl rfl))) hk1 (fr.kp e0 e1) fr⟩⟩⟩))
end
end Wz

set_option Elab.async false
set_option linter.all false
set_option maxRecDepth 100000
set_option maxHeartbeats 4000000
namespace Wz
open PySem PySem.Spec PyProof.Rows L2 Evl RZ
/-! x in t, t a tuple of data -/
def rInDT (K : PySem.W.Frag) : R2 := fun x y H Q => ∃ d ds, Dp K H x d ∧ Dp K H y (.tuple ds) ∧ SeqAt.shaped d = true ∧ SeqAt.shaped (.tuple ds) = true ∧ Q (.bl (ds.any fun z => PyData.eqv z d)) H
theorem op_inDT {X : Cx} (hu : X.A.units + 65 < cLine) : OpR X (compareOp .In) (rInDT X.K) := by
  intro pins s σ H x y v u Q I rx ry h
  obtain ⟨d, ds, hd, he, sd, se, q⟩ := h
  obtain ⟨as, r1⟩ := Dp.reads I d x v hd rx
  obtain ⟨bs, r2⟩ := Dp.reads I (.tuple ds) y u he ry
  exact SeqAt.in_tuple_reads r2 r1 (SeqAt.canLay_of_shaped se) (SeqAt.canLay_of_shaped sd) (room_in_shaped sd hu) ⟨.bl _, H, I, rfl, q⟩
section
variable {X : Cx} {o0 o : Os} {ds : List (Option Dat)} {k k1 k2 : Cs} {e c a b elt e1 e2 e3 : Expr} {es : List Expr} {d : Dat} {as : List Dat} {pos pos' pos2 p p1 p2 p3 : Pos} {rest body orelse : List Stmt} {D : Ends} {H0 : Hp} {R : Dat → Cs → Prop} {RT : Bool → Cs → Prop} {RN : List Dat → Cs → Prop} {x : Str} {scope : Scope} {j : Nat}
theorem c_inDT (hu : X.A.units + 65 < cLine) (h : EvC X o a ds k fun x k1 => EvC X o b ds k1 fun y k2 => onT y fun as => eqOk x (.tup as) ∧ R (.bl ((pd.pds as).any fun z => PyData.eqv z (pd x))) k2) (hm : behindInMarks .In b = false := by rfl) : EvC X o (.Compare a [.In] [b] pos) ds k R := fun st H Q S hk q =>
  we (pe_cmpR (op_inDT hu) pe_w pe_w hm) (h st H _ S hk fun x k1 v H1 hx e1 hk1 h1 => hx st H1 _ (S.kp e1 hk) hk1 fun y k2 w H2 hy e2 hk2 h2 => by
    obtain ⟨as, rfl, ⟨⟨n1, n2⟩, s1, s2⟩, hr⟩ := onT_ex hy
    exact ⟨_, _, ((h1.kp e2 hk1).unc (noR_noC n1)).dp n1, (h2.unc rfl).dp n2, s1, s2, q _ k2 _ H2 hr (e1.trans e2) hk2 (.v (.bl _))⟩)
/-! unpacking a list -/
theorem as_unpL2 {i j : Nat} {x y : Str} {px py pt : Pos} {kt : Nat} (hN : X.N.Nodup) (hc : X.calm = true) (h : EvC X o e ds k fun d k1 => onL k1 d fun as => ∃ d1 d2, as = [d1, d2] ∧ AS X o0 o rest D ((ds.set i (some d1)).set j (some d2)) k1 H0)
    (hi : X.N[i]? = some x := by rfl) (hj : X.N[j]? = some y := by rfl) (hx : Loc X.env.scope x := by exact Or.inl rfl) (hy : Loc X.env.scope y := by exact Or.inl rfl) (hfx : X.fn x = true ∨ X.env.scope.names.lookup x = some .local := by exact .inl rfl) (hfy : X.fn y = true ∨ X.env.scope.names.lookup y = some .local := by exact .inl rfl)
    (hs : swapsWithSole [.Tuple [.Name x px, .Name y py] kt pt] e pos.line X.env = pure false := by rfl) (hw : swappedStores [.Tuple [.Name x px, .Name y py] kt pt] e X.env = pure none := by rfl) :
    AS X o0 o (.Assign [.Tuple [.Name x px, .Name y py] kt pt] e pos :: rest) D ds k H0 := fun st H S hk e0 fr =>
  wb_cons (wss (ps_asg pe_w (pg_unl hc (pgs_cons (pg_name hN hi hx hfx) (pgs_cons (pg_name hN hj hy hfy) pgs_nil))) hs hw) (h st H _ S hk fun d k1 v H1 hr e1 hk1 h1 => by
    obtain ⟨a, xs, as, rfl, hsq, hd, hz⟩ := onL_ex hk1 hr h1
    obtain ⟨d1, d2, rfl, hy⟩ := hz
    match xs, hd with
    | [v1, v2], hd =>
      exact ⟨a, _, rfl, hsq, rfl, v1, _, rfl, v2, _, rfl, rfl, hy _ H1 (((S.kp e1 hk).set (.v (hd.2 0 _ _ rfl rfl))).set (.v (hd.2 1 _ _ rfl rfl))) hk1 (fr.kp e0 e1) fr⟩))
/-! {2: .., 3: .., 5: ..}[i] -/
theorem tm_dk {K : PySem.W.Frag} {H : Hp} {p : Addr} {xs ys : List (Key × V)} (h : H p = some (.dK xs)) : ∀ b zs, SqT K H b zs → SqT K (upd H p (.dK ys)) b zs := fun b zs s => by
  rcases s with s | s
  · rcases s with s | ⟨o, s⟩
    · by_cases e : b = p
      · rw [e, h] at s; cases s
      · exact .inl (.inl (by rw [upd_ne e]; exact s))
    · by_cases e : b = p
      · rw [e, h] at s; cases s
      · exact .inl (.inr ⟨o, by rw [upd_ne e]; exact s⟩)
  · exact .inr s
def pick (d1 d2 d3 : Dat) (i : Int) : Dat := if i = 2 then d1 else if i = 3 then d2 else d3
theorem kv_one (i : Int) (v1 v2 v3 : V) (hi : i = 2 ∨ i = 3 ∨ i = 5) : valV (mergeK ([] : List (Key × V)) [(.inl 2, v1), (.inl 3, v2), (.inl 5, v3)]) (.inl i) = some (if i = 2 then v1 else if i = 3 then v2 else v3) := by
  rcases hi with rfl | rfl | rfl <;> rfl
/-- lists at no place but those that stand -/
theorem DV.dict {K : PySem.W.Frag} {H : Hp} {p : Addr} {v : V} {d : Dat} {xs ys : List (Key × V)} (h : H p = some (.dK xs)) (q : DV K o H v d) : DV K o (upd H p (.dK ys)) v d := by
  induction q with
  | non => exact .non
  | bl b => exact .bl b
  | int i => exact .int i
  | str x => exact .str x
  | tup s l _ ih => exact .tup (tm_dk h _ _ s) l ih
  | lst s l _ ih =>
    refine .lst ?_ l ih
    rcases s with ⟨s | ⟨ob, s⟩, n⟩ | s
    · exact .inl ⟨.inl (by rw [upd_ne (fun e => by rw [e, h] at s; cases s)]; exact s), n⟩
    · exact .inl ⟨.inr ⟨ob, by rw [upd_ne (fun e => by rw [e, h] at s; cases s)]; exact s⟩, n⟩
    · exact .inr s
  | raw v => exact .raw v
  | obj s n m l _ ih => exact .obj (by rw [upd_ne (fun z => by rw [z, h] at s; cases s)]; exact s) n m l ih
theorem c_disp3 {d1 d2 d3 : Dat} {j1 j2 j3 : Nat} (hu : X.A.units + 64 < cLine) (h1 : Ev X o e1 ds k d1 k) (h2 : Ev X o e2 ds k d2 k) (h3 : Ev X o e3 ds k d3 k) (n : noC d1 = true ∧ noC d2 = true ∧ noC d3 = true) (hb : EvC X o b ds k fun y k2 => onI y fun i => (i = 2 ∨ i = 3 ∨ i = 5) ∧ R (pick d1 d2 d3 i) k2) (hs : NoSl b := by exact fun _ _ => rfl) :
    EvC X o (.Subscript (.Dict [some (.Constant (.int 2) j1 p1), some (.Constant (.int 3) j2 p2), some (.Constant (.int 5) j3 p3)] [e1, e2, e3] pos) b pos2) ds k R := fun st H Q S hk q =>
  we (pe_dget (Nat.lt_of_le_of_lt (Nat.add_le_add_left (by decide : 1 ≤ 64) _) hu) (pe_disp (pps_cons pe_int pe_w (pps_cons pe_int pe_w (pps_cons pe_int pe_w pps_nil))) rfl rfl (by simp) (Nat.le_of_ble_eq_true rfl)) pe_w hs) (fun p np => by
    have ne := hk.ne np
    have k0 : Kp o H (upd H p (.dK [])) := Kp.of_ex (Ex.new np)
    have hk0 := hk.ex (Ex.new (o := .dK []) np)
    refine h1 (fun d k' => d = d1 ∧ k' = k) ⟨rfl, rfl⟩ st _ _ (S.kp k0 hk) hk0 fun d1' k1' v1 H1 r1 c1 hk1 g1 => ?_
    obtain ⟨rfl, rfl⟩ := r1
    refine h2 (fun d k' => d = d2 ∧ k' = k1') ⟨rfl, rfl⟩ st H1 _ (S.kp (k0.trans c1) hk) hk1 fun d2' k2' v2 H2 r2 c2 hk2 g2 => ?_
    obtain ⟨rfl, rfl⟩ := r2
    refine h3 (fun d k' => d = d3 ∧ k' = k2') ⟨rfl, rfl⟩ st H2 _ (S.kp ((k0.trans c1).trans c2) hk) hk2 fun d3' k3' v3 H3 r3 c3 hk3 g3 => ?_
    obtain ⟨rfl, rfl⟩ := r3
    have hp : H3 p = some (.dK []) := c3 p _ ne (c2 p _ ne (c1 p _ ne upd_same))
    refine ⟨hp, [(.inl 2, v1), (.inl 3, v2), (.inl 5, v3)], rfl, (by decide : 3 ≤ 15), ?_⟩
    have k3 : Kp o H (upd H3 p (.dK (mergeK [] [(.inl 2, v1), (.inl 3, v2), (.inl 5, v3)]))) := fun bb u nb hbb => by
      rw [upd_ne (ne_of_none hbb np)]
      exact (((k0.trans c1).trans c2).trans c3) bb u nb hbb
    have hk4 : DK X.K o k3' (upd H3 p (.dK (mergeK [] [(.inl 2, v1), (.inl 3, v2), (.inl 5, v3)]))) := by
      refine ⟨hk3.len, hk3.nd, hk3.nl, fun j a as ha hs => ?_⟩
      obtain ⟨xs, hx, hd⟩ := hk3.at_ j a as ha hs
      refine ⟨xs, ?_, ⟨hd.1, fun i v d ga gb => (hd.2 i v d ga gb).dict hp⟩⟩
      rw [upd_ne (fun z => ne (by rw [← z]; exact List.mem_of_getElem? ha))]
      exact hx
    refine hb st _ _ (S.kp k3 hk) hk4 fun y k5 v H5 hr c5 hk5 g5 => ?_
    obtain ⟨i, rfl, hi, hr⟩ := onI_ex hr
    have q5 := g5.unint
    subst q5
    have w1 := (((((g1.unc n.1).kp c2 hk1).kp c3 hk2).dict (ys := mergeK [] [(.inl 2, v1), (.inl 3, v2), (.inl 5, v3)]) hp).kp c5 hk4)
    have w2 := ((((g2.unc n.2.1).kp c3 hk2).dict (ys := mergeK [] [(.inl 2, v1), (.inl 3, v2), (.inl 5, v3)]) hp).kp c5 hk4)
    have w3 := (((g3.unc n.2.2).dict (ys := mergeK [] [(.inl 2, v1), (.inl 3, v2), (.inl 5, v3)]) hp).kp c5 hk4)
    refine ⟨p, _, rfl, .inl ⟨_, .inl i, .inl (c5 p _ ne upd_same), rfl, (kv_one i v1 v2 v3 hi).symm⟩, q _ k5 _ H5 hr (k3.trans c5) hk5 (.v ?_)⟩
    unfold pick
    split
    · exact w1
    · split
      · exact w2
      · exact w3)
theorem c_disp3I {i1 i2 i3 : Int} {j1 j2 j3 : Nat} (hu : X.A.units + 64 < cLine) (h1 : Ev X o e1 ds k (.int i1) k) (h2 : Ev X o e2 ds k (.int i2) k) (h3 : Ev X o e3 ds k (.int i3) k) (hb : EvC X o b ds k fun y k2 => onI y fun i => (i = 2 ∨ i = 3 ∨ i = 5) ∧ R (.int (if i = 2 then i1 else if i = 3 then i2 else i3)) k2) (hs : NoSl b := by exact fun _ _ => rfl) :
    EvC X o (.Subscript (.Dict [some (.Constant (.int 2) j1 p1), some (.Constant (.int 3) j2 p2), some (.Constant (.int 5) j3 p3)] [e1, e2, e3] pos) b pos2) ds k R :=
  c_disp3 hu h1 h2 h3 ⟨rfl, rfl, rfl⟩ (hb.mono fun y k2 hy => by
    obtain ⟨i, rfl, hi, hr⟩ := onI_ex hy
    refine ⟨hi, ?_⟩
    have e : pick (.int i1) (.int i2) (.int i3) i = .int (if i = 2 then i1 else if i = 3 then i2 else i3) := by
      unfold pick
      split
      · rfl
      · split <;> rfl
    rw [e]
    exact hr) hs
/-! [elt for x, y in zip(t, u)] -/
structure LcZ (X : Cx) (o : Os) (scope : Scope) (elt : Expr) (ds : List (Option Dat)) (i j : Nat) (as bs : List Dat) (W : Nat → List Dat → Cs → Prop) : Prop where
  turn : ∀ s H C cl fp l d1 d2 acc q, as[l]? = some d1 → bs[l]? = some d2 → W l acc q → EvC (BX X scope s H C cl fp) o elt ((ds.set i (some d1)).set j (some d2)) q fun y q' => noL y = true ∧ W (l + 1) (acc ++ [y]) q'
theorem walk_zipT {K : PySem.W.Frag} {a b : Addr} {xs ys : List V} {n : Nat} (hn : n = min xs.length ys.length) : Walk (ItzT K a b) n (fun H => SqT K H a xs ∧ SqT K H b ys) (YPair (fun i => xs[i]?) (fun i => ys[i]?)) := by
  subst hn
  refine ⟨fun i _ hi q => ?_, fun _ q => ⟨xs, ys, q.1, q.2, by omega⟩, fun i H v H' _ q y => ?_⟩
  · have h1 : i < xs.length := by omega
    have h2 : i < ys.length := by omega
    exact ⟨xs, ys, xs[i], ys[i], q.1, q.2, by simp [h1], by simp [h2]⟩
  · obtain ⟨T, x, z, h1, h2, h3, h4, h5⟩ := y
    exact ⟨T, x, z, h1, h2, h3, h4 xs q.1, h5 ys q.2⟩
/-! all([..]) -/
theorem bls_of {K : PySem.W.Frag} {H : Hp} {xs : List V} {bs : List Bool} (hd : DVs K o H xs (bs.map Dat.bl)) : xs = bs.map V.bl := by
  refine List.ext_getElem? fun j => ?_
  by_cases hj : j < xs.length
  · have hj2 : j < bs.length := by rw [hd.1, List.length_map] at hj; exact hj
    have q1 : (bs.map Dat.bl)[j]? = some (.bl bs[j]) := by rw [List.getElem?_map, List.getElem?_eq_getElem hj2]; rfl
    have q2 := hd.2 j _ _ (List.getElem?_eq_getElem hj) q1
    rw [List.getElem?_eq_getElem hj, List.getElem?_map, List.getElem?_eq_getElem hj2]
    generalize xs[j] = vv at q2
    cases q2
    rfl
  · have hj2 : ¬ j < bs.length := by rw [hd.1, List.length_map] at hj; exact hj
    rw [List.getElem?_eq_none (by omega), List.getElem?_eq_none (by rw [List.length_map]; omega)]
theorem c_all (hc : X.calm = true) (hm : X.mg "all" = none) (h : EvA X o [e] ds k fun as k1 => on1 as fun d => onL k1 d fun xs => ∃ bs : List Bool, xs = bs.map Dat.bl ∧ R (.bl (bs.all id)) k1) (hg : Gl X "all" := by rfl) (he : starEach [e] X.env = (false, eval e X.env) :: starEach [] X.env := by rfl) : EvC X o (.Call (.Name "all" p) [e] [] pos) ds k R :=
  c_bif (cr_all hc) hm (by decide +kernel) (h.mono fun as k1 ha vs H Q h1 hk q => by
    obtain ⟨d, rfl, ha⟩ := on1_ex ha
    obtain ⟨v, rfl, g1⟩ := dts1 h1
    obtain ⟨p, ys, xs, rfl, hs, hl, bs, rfl, ha⟩ := onL_ex hk ha g1
    have e := bls_of hl
    subst e
    exact ⟨p, bs, rfl, hs, q _ _ H ha (Ex.refl _) (.v (.bl _))⟩) hg (by decide) (by decide) he
theorem wipe2 {st : L2.St} {i j : Nat} {a b : V} (h : i ≠ j) : ((wipe st [i, j]).set i (some a)).set j (some b) = (st.set i (some a)).set j (some b) := by
  show ((((st.set j none).set i none).set i (some a)).set j (some b)) = _
  rw [List.set_set]
  have e : (st.set j none).set i (some a) = (st.set i (some a)).set j none := List.set_comm _ _ (Ne.symm h)
  rw [e, List.set_set]
theorem wipe2_back {st : L2.St} {i j : Nat} {a b : V} (h : i ≠ j) : wipe ((st.set i (some a)).set j (some b)) [i, j] = wipe st [i, j] := by
  show ((((st.set i (some a)).set j (some b)).set j none).set i none) = (st.set j none).set i none
  rw [List.set_set]
  have e : (st.set i (some a)).set j none = (st.set j none).set i (some a) := List.set_comm _ _ h
  rw [e, List.set_set]
theorem lc_turnZ {as bs : List Dat} {i j l : Nat} {W : Nat → List Dat → Cs → Prop} {H1 H' : Hp} {Dr T : Addr} {st : L2.St} {y1 y2 : V} {d1 d2 : Dat} {N2 : List Str} (hij : i ≠ j) (n1 : H1 Dr = none) (hk1 : DK X.K o k1 H1) (S1 : Sat X.K o st H1 ds) (L : LcZ X o scope elt ds i j as bs W) (hn : l < 10000) (ha : as[l]? = some d1) (hb : bs[l]? = some d2) (hy1 : DV X.K o H1 y1 d1) (hy2 : DV X.K o H1 y2 d2) (w : CvI X.K o H1 Dr W l H') (nT : H' T = none) :
    gTup X.K 2 (gCons (gName i) (gCons (gName j) gNil)) (.ref T) (wipe st [i, j]) (upd H' T (.tup [y1, y2])) fun σ2 H2 => wipe σ2 [i, j] = wipe st [i, j] ∧ tYes σ2 H2 fun b H3 => if b = true then bE X scope elt σ2 H3 fun y H4 => ∃ acc, H4 Dr = some (.lst acc) ∧ acc.length < sizeLine ∧ CvI X.K o H1 Dr W (l + 1) (upd H4 Dr (.lst (acc ++ [y]))) else CvI X.K o H1 Dr W (l + 1) H3 := by
  obtain ⟨w1, q, acc, vs, hW, hk', hD, hv, na, hl⟩ := w
  have eT : Ex H' (upd H' T (.tup [y1, y2])) := Ex.new nT
  have w2 : Kp o H1 (upd H' T (.tup [y1, y2])) := w1.trans (Kp.of_ex eT)
  have hk2 := hk'.ex eT
  have S2 : Sat X.K o ((st.set i (some y1)).set j (some y2)) (upd H' T (.tup [y1, y2])) ((ds.set i (some d1)).set j (some d2)) := ((S1.kp w2 hk1).set (.v (hy1.kp w2 hk1))).set (.v (hy2.kp w2 hk1))
  refine ⟨T, [y1, y2], rfl, .inl (.inl upd_same), rfl, y1, [y2], rfl, y2, [], rfl, rfl, ?_⟩
  rw [wipe2 hij]
  refine ⟨wipe2_back hij, ?_⟩
  simp only [tYes, if_true]
  exact fun s0 H0 C cl fp => L.turn s0 H0 C cl fp l d1 d2 acc q ha hb hW _ _ _ S2 hk2 fun z q' u H4 hr e4 hk4 hu => cv_step n1 hk1 hn w2 hk2 (eT _ _ hD) (hv.kp (Kp.of_ex eT) hk') na hl e4 hk4 hu hr.1 hr.2
/-- two tuples, or two lists that are no cells, of one length -/
theorem n_lcZ {y : Str} {i j : Nat} {p4 p5 : Pos} {kk : Nat} (hij : i ≠ j) (hcalm : X.calm = true) (hN : X.N.Nodup) (hm : X.mg "zip" = none) (hok : BlkOk X.N X.env.scope scope [(x, i), (y, j)])
    (hgn : ∀ s H C cl fp, PG (BX X scope s H C cl fp) (.Tuple [.Name x p1, .Name y p2] kk p3) (gTup X.K 2 (gCons (gName i) (gCons (gName j) gNil))))
    (h : EvA X o [a, b] ds k fun as k1 => on2 as fun d1 d2 => ∃ as bs, (d1 = .tup as ∧ d2 = .tup bs ∨ d1 = .lst as ∧ d2 = .lst bs) ∧ as.length = bs.length ∧ as.length ≤ 10000 ∧ ∃ W, W 0 [] k1 ∧ LcZ X o scope elt ds i j as bs W ∧ ∀ acc q, W as.length acc q → acc.all noL = true → RN acc q) (hg : Gl X "zip" := by rfl)
    (hs : starEach [a, b] X.env = (false, eval a X.env) :: starEach [b] X.env := by rfl) (hpl : (backTo p5 (starEach [b] X.env)).any (·.1) = false := by rfl)
    (hset : ∀ y, foldedSetIterable (.Call (.Name "zip" p4) [a, b] [] p5) X.env y = pure y := by intro _; rfl) :
    EvN X o (.ListComp elt [⟨.Tuple [.Name x p1, .Name y p2] kk p3, .Call (.Name "zip" p4) [a, b] [] p5, [], 0⟩] scope pos) ds k RN := fun st H Q S hk q =>
  we (pe_lc (own := [(x, i), (y, j)]) (g := gTup X.K 2 (gCons (gName i) (gCons (gName j) gNil))) (tt := tYes) (te := bE X scope elt) hcalm hN (pi_zipA hg hm pa_w hs hpl) hok hgn
    (fun s0 H0 C cl fp => pts_nil) (fun s0 H0 C cl fp => ⟨fun pins s st H Q I h => h s0 H0 C cl fp pins s I⟩) hset) (h st H _ S hk fun as0 k1 vs H1 hr e1 hk1 h1 => by
    obtain ⟨d1, d2, rfl, as, bs, hd12, hl, hn, W, h0, L, hd⟩ := on2_ex hr
    obtain ⟨v1, v2, rfl, g1, g2⟩ := dts2 h1
    have fin : ∀ (Dr : Addr) (nD : H1 Dr = none) (H' : Hp), CvI X.K o H1 Dr W as.length H' → Q (.ref Dr) H' := fun Dr nD H' w => by
      obtain ⟨w1, q', acc, vs, hW, hk', hD, hv, na, hl⟩ := w
      exact q acc q' Dr vs H' (hd acc q' hW na) (fresh_back e1 hk1 nD) (e1.trans w1) hk' hD hv
    rcases hd12 with ⟨rfl, rfl⟩ | ⟨rfl, rfl⟩
    · obtain ⟨t, xs, rfl, hs, hdv⟩ := g1.untup
      obtain ⟨t2, ys, rfl, hs2, hdv2⟩ := g2.untup
      refine ⟨t, t2, xs, ys, rfl, .inr ⟨hs, hs2, fun Dr nD => ?_⟩⟩
      refine lc_it (walk_zipT (xs := xs) (ys := ys) (n := as.length) (by rw [hdv.1, hdv2.1, ← hl]; omega)) (g := gTup X.K 2 (gCons (gName i) (gCons (gName j) gNil))) (tt := tYes) (te := bE X scope elt) (vs := [i, j]) (σ := st) (Qd := fun H' => Q (.ref Dr) H') (CvI X.K o H1 Dr W) (cv_start nD hk1 h0) (fun l H' _ w => ⟨kp_t w.1 hk1 hs, kp_t w.1 hk1 hs2⟩) (fun l v H' H'' hi w yy => ?_) (fin Dr nD)
      obtain ⟨T, y1, y2, rfl, nT, rfl, hy1, hy2⟩ := yy
      have hda : as[l]? = some as[l] := List.getElem?_eq_getElem hi
      have hdb : bs[l]? = some (bs[l]'(by omega)) := List.getElem?_eq_getElem _
      exact lc_turnZ (N2 := []) hij nD hk1 (S.kp e1 hk) L (by omega) hda hdb (hdv.2 l y1 _ hy1 hda) (hdv2.2 l y2 _ hy2 hdb) w nT
    · obtain ⟨t, xs, rfl, hs, hdv⟩ := g1.unlst
      obtain ⟨t2, ys, rfl, hs2, hdv2⟩ := g2.unlst
      refine ⟨t, t2, xs, ys, rfl, .inl ⟨hs.sq, hs2.sq, fun Dr nD => ?_⟩⟩
      refine lc_it (walk_zip (xs := xs) (ys := ys) (n := as.length) (by rw [hdv.1, hdv2.1, ← hl]; omega)) (g := gTup X.K 2 (gCons (gName i) (gCons (gName j) gNil))) (tt := tYes) (te := bE X scope elt) (vs := [i, j]) (σ := st) (Qd := fun H' => Q (.ref Dr) H') (CvI X.K o H1 Dr W) (cv_start nD hk1 h0) (fun l H' _ w => ⟨(hs.kp w.1 fun _ z => z).sq, (hs2.kp w.1 fun _ z => z).sq⟩) (fun l v H' H'' hi w yy => ?_) (fin Dr nD)
      obtain ⟨T, y1, y2, rfl, nT, rfl, hy1, hy2⟩ := yy
      have hda : as[l]? = some as[l] := List.getElem?_eq_getElem hi
      have hdb : bs[l]? = some (bs[l]'(by omega)) := List.getElem?_eq_getElem _
      exact lc_turnZ (N2 := []) hij nD hk1 (S.kp e1 hk) L (by omega) hda hdb (hdv.2 l y1 _ hy1 hda) (hdv2.2 l y2 _ hy2 hdb) w nT)
end
end Wz

set_option Elab.async false
set_option linter.all false
set_option maxRecDepth 100000
set_option maxHeartbeats 4000000
namespace Wz
open PySem PySem.Spec PyProof.Rows L2 Evl RZ
/-! ### sizes of ints -/
def Bd (n : Nat) (i : Int) : Prop := i.natAbs < 2 ^ n
theorem Bd.mono {n m : Nat} {i : Int} (h : Bd n i) (l : n ≤ m) : Bd m i := Nat.lt_of_lt_of_le h (Nat.pow_le_pow_right (by decide) l)
theorem Bd.mul {n m : Nat} {i j : Int} (h : Bd n i) (g : Bd m j) : Bd (n + m) (i * j) := wide_lt h g
theorem pow2_le {n m : Nat} (h : n ≤ m) : 2 ^ n ≤ 2 ^ m := Nat.pow_le_pow_right (by decide) h
theorem Bd.add {n m : Nat} {i j : Int} (h : Bd n i) (g : Bd m j) : Bd (max n m + 1) (i + j) := by
  have h1 : i.natAbs < 2 ^ n := h
  have h2 : j.natAbs < 2 ^ m := g
  have q1 := pow2_le (n := n) (m := max n m) (Nat.le_max_left _ _)
  have q2 := pow2_le (n := m) (m := max n m) (Nat.le_max_right _ _)
  have q3 : 2 ^ (max n m + 1) = 2 * 2 ^ (max n m) := by rw [Nat.pow_succ]; omega
  show (i + j).natAbs < _
  rw [q3]
  omega
theorem Bd.neg {n : Nat} {i : Int} (h : Bd n i) : Bd n (-i) := by
  show (-i).natAbs < _
  rw [Int.natAbs_neg]
  exact h
theorem Bd.sub {n m : Nat} {i j : Int} (h : Bd n i) (g : Bd m j) : Bd (max n m + 1) (i - j) := by
  rw [Int.sub_eq_add_neg]
  exact h.add g.neg
theorem Bd.z : Bd 0 0 := (by decide : (0 : Int).natAbs < 2 ^ 0)
theorem Bd.of (i : Int) : Bd (i.natAbs.log2 + 1) i := Nat.lt_log2_self
theorem Bd.pow {n : Nat} {i : Int} (h : Bd n i) (m : Nat) : Bd (n * m + 1) (i ^ m) := by
  induction m with
  | zero =>
    rw [Int.pow_zero, Nat.mul_zero]
    exact (by decide : (1 : Int).natAbs < 2 ^ (0 + 1))
  | succ m ih =>
    rw [Int.pow_succ]
    exact (ih.mul h).mono (by rw [Nat.mul_succ]; omega)
theorem Bd.ite {n m : Nat} {i j : Int} {c : Prop} [Decidable c] (h : Bd n i) (g : Bd m j) : Bd (max n m) (if c then i else j) := by
  split
  · exact h.mono (Nat.le_max_left _ _)
  · exact g.mono (Nat.le_max_right _ _)
theorem Bd.rng {n : Nat} {i : Int} (h1 : -(2 ^ n : Int) < i) (h2 : i < 2 ^ n) : Bd n i := by
  show i.natAbs < 2 ^ n
  have e : ((2 ^ n : Nat) : Int) = (2 : Int) ^ n := by simp
  omega
theorem cm {n m : Nat} {i j : Int} (h : Bd n i) (g : Bd m j) (l : n + m + 2 ≤ 1000000) : CMulW i j := wide_mul (h.mono (Nat.le_succ n)) (g.mono (Nat.le_succ m)) (Nat.succ_pos _) (Nat.succ_pos _) (by omega)
theorem cdx {n : Nat} {i j : Int} (h0 : j ≠ 0) (h : Bd n j) (l : n + 1 ≤ 9000) : CDivX i j := ⟨h0, Nat.lt_of_lt_of_le (PySem.Flt.log2_lt_of (Nat.succ_pos n) (h.mono (Nat.le_succ n))) l⟩
theorem cdw {n : Nat} {i j : Int} (h0 : 0 < j) (h : Bd n j) (l : n + 1 ≤ 9000) : CDivW i j := ⟨h0, Nat.lt_of_lt_of_le (PySem.Flt.log2_lt_of (Nat.succ_pos n) (h.mono (Nat.le_succ n))) l⟩
def CPowW (i j : Int) : Prop := 0 ≤ j ∧ (PySem.Builtin.Int.intBits i : Int) * j ≤ 2 ^ 27
theorem cpw {n : Nat} {i j : Int} (h0 : 0 ≤ j) (h : Bd n i) (l : ((n + 2 : Nat) : Int) * j ≤ 2 ^ 27) : CPowW i j := by
  refine ⟨h0, Int.le_trans (Int.mul_le_mul_of_nonneg_right (Int.ofNat_le.mpr ?_) h0) l⟩
  have h1 : i.natAbs.log2 < n + 1 := PySem.Flt.log2_lt_of (Nat.succ_pos n) (h.mono (Nat.le_succ n))
  unfold PySem.Builtin.Int.intBits
  split <;> omega
section
variable {X : Cx} {o0 o : Os} {ds : List (Option Dat)} {k k1 k2 : Cs} {e c a b elt e1 e2 e3 : Expr} {es : List Expr} {d : Dat} {as : List Dat} {pos pos' pos2 p p1 p2 p3 : Pos} {rest body orelse : List Stmt} {D : Ends} {H0 : Hp} {R : Dat → Cs → Prop} {RT : Bool → Cs → Prop} {RN : List Dat → Cs → Prop} {x : Str} {scope : Scope} {j : Nat}
@[reducible] def onO (x : Option Dat) (C : Dat → Prop) : Prop := match x with | some d => C d | none => False
theorem onO_ex {x : Option Dat} {C : Dat → Prop} (h : onO x C) : ∃ d, x = some d ∧ C d := by
  cases x with
  | none => exact h.elim
  | some d => exact ⟨d, rfl, h⟩
theorem op_powW : OpR X (binaryOp .Pow) (rI CPowW fun i j => .int (i ^ j.toNat)) := opI fun _ _ _ _ _ _ _ hc q => pow_int hc.1 hc.2 q
theorem c_powW (h : EvC X o a ds k fun x k1 => EvC X o b ds k1 fun y k2 => onI x fun i => onI y fun j => CPowW i j ∧ R (.int (i ^ j.toNat)) k2) : EvC X o (.BinOp a .Pow b pos) ds k R := c_opI op_powW (fun _ _ _ => .v (.int _)) h
/-- one factor is small -/
theorem c_mulS (h : EvC X o a ds k fun x k1 => EvC X o b ds k1 fun y k2 => onI x fun i => onI y fun j => CMul i j ∧ R (.int (i * j)) k2) : EvC X o (.BinOp a .Mult b pos) ds k R := c_opI op_mul (fun _ _ _ => .v (.int _)) h
/-- a test that is a call's answer -/
theorem t_valB (h : EvC X o e ds k fun x k1 => onB x fun z => (z = true → RT true k1) ∧ (z = false → RT false k1)) (he : ∀ whole, isTrue e X.env whole = (do let v ← whole; standAt e.pos; holding [v] (truthy v)) := by intro _; rfl) : EvT X o e ds k RT :=
  t_val (h.mono fun x k1 hx => by
    obtain ⟨z, rfl, hx⟩ := onB_ex hx
    cases z with
    | true => exact hx.1 rfl
    | false => exact hx.2 rfl) he
theorem c_andB {rest : List Expr} (h : EvC X o a ds k fun x k1 => onB x fun z => (z = true → EvC X o (.BoolOp .And (b :: rest) pos) ds k1 R) ∧ (z = false → R (.bl false) k1)) : EvC X o (.BoolOp .And (a :: b :: rest) pos) ds k R :=
  c_and (h.mono fun x k1 hx => by
    obtain ⟨z, rfl, hx⟩ := onB_ex hx
    cases z with
    | true => exact hx.1 rfl
    | false => exact hx.2 rfl)
theorem c_orB {rest : List Expr} (h : EvC X o a ds k fun x k1 => onB x fun z => (z = false → EvC X o (.BoolOp .Or (b :: rest) pos) ds k1 R) ∧ (z = true → R (.bl true) k1)) : EvC X o (.BoolOp .Or (a :: b :: rest) pos) ds k R :=
  c_or (h.mono fun x k1 hx => by
    obtain ⟨z, rfl, hx⟩ := onB_ex hx
    cases z with
    | true => exact hx.2 rfl
    | false => exact hx.1 rfl)
/-- t[i], xs[i] at a place that is written -/
theorem c_ixTn (h : EvC X o a ds k fun x k1 => EvC X o b ds k1 fun y k2 => onT x fun as => onI y fun i => onO as[i.toNat]? fun d => 0 ≤ i ∧ R d k2) (hp : PlainIx b := by exact fun _ _ => rfl) : EvC X o (.Subscript a b pos) ds k R :=
  c_ixT (h.mono fun x k1 hx => hx.mono fun y k2 hy => by
    obtain ⟨as, rfl, hz⟩ := onT_ex hy
    obtain ⟨i, rfl, hz⟩ := onI_ex hz
    obtain ⟨d, hd, hz⟩ := onO_ex hz
    exact ⟨i.toNat, d, by omega, hd, hz.2⟩) hp
theorem c_ixLn (h : EvC X o a ds k fun x k1 => EvC X o b ds k1 fun y k2 => onL k2 x fun as => onI y fun i => onO as[i.toNat]? fun d => 0 ≤ i ∧ R d k2) (hp : PlainIx b := by exact fun _ _ => rfl) : EvC X o (.Subscript a b pos) ds k R :=
  c_ixL (h.mono fun x k1 hx => hx.mono fun y k2 hy => by
    have key : ∀ as, (onI y fun i => onO as[i.toNat]? fun d => 0 ≤ i ∧ R d k2) → onI y fun i => onAt as i fun d => R d k2 := fun as hz => by
      obtain ⟨i, rfl, hz⟩ := onI_ex hz
      obtain ⟨d, hd, hz⟩ := onO_ex hz
      exact ⟨i.toNat, d, by omega, hd, hz.2⟩
    cases x with
    | lst as => exact key as hy
    | cel i =>
      cases hi : k2[i]? with
      | none => simp only [onL, hi] at hy
      | some as =>
        simp only [onL, hi] at hy ⊢
        exact key as hy
    | _ => exact hy.elim) hp
/-- x = [.. for ..]: a new cell -/
theorem as_asgLc {i : Nat} {y : Str} {py : Pos} {tg iter : Expr} {ifs : List Expr} {spos : Pos} (hN : X.N.Nodup) : True := trivial
end
end Wz

set_option Elab.async false
set_option linter.all false
set_option maxRecDepth 100000
set_option maxHeartbeats 4000000
namespace Wz
open PySem PySem.Spec PyProof.Rows L2 Evl RZ
section
variable {X : Cx} {o0 o : Os} {ds : List (Option Dat)} {k k1 k2 : Cs} {e c a b elt e1 e2 e3 : Expr} {es : List Expr} {d : Dat} {as : List Dat} {pos pos' pos2 p p1 p2 p3 : Pos} {rest body orelse : List Stmt} {D : Ends} {H0 : Hp} {R : Dat → Cs → Prop} {RT : Bool → Cs → Prop} {RN : List Dat → Cs → Prop} {x : Str} {scope : Scope} {j : Nat}
theorem as_unp4 {i j l m : Nat} {x y z u : Str} {px py pz pu pt : Pos} {kt : Nat} (hN : X.N.Nodup) (hc : X.calm = true) (h : EvC X o e ds k fun d k1 => onT d fun as => ∃ d1 d2 d3 d4, as = [d1, d2, d3, d4] ∧ AS X o0 o rest D ((((ds.set i (some d1)).set j (some d2)).set l (some d3)).set m (some d4)) k1 H0)
    (hi : X.N[i]? = some x := by rfl) (hj : X.N[j]? = some y := by rfl) (hl : X.N[l]? = some z := by rfl) (hm : X.N[m]? = some u := by rfl) (hx : Loc X.env.scope x := by exact Or.inl rfl) (hy : Loc X.env.scope y := by exact Or.inl rfl) (hz : Loc X.env.scope z := by exact Or.inl rfl) (hu : Loc X.env.scope u := by exact Or.inl rfl)
    (hfx : X.fn x = true ∨ X.env.scope.names.lookup x = some .local := by exact .inl rfl) (hfy : X.fn y = true ∨ X.env.scope.names.lookup y = some .local := by exact .inl rfl) (hfz : X.fn z = true ∨ X.env.scope.names.lookup z = some .local := by exact .inl rfl) (hfu : X.fn u = true ∨ X.env.scope.names.lookup u = some .local := by exact .inl rfl)
    (hs : swapsWithSole [.Tuple [.Name x px, .Name y py, .Name z pz, .Name u pu] kt pt] e pos.line X.env = pure false := by rfl) (hw : swappedStores [.Tuple [.Name x px, .Name y py, .Name z pz, .Name u pu] kt pt] e X.env = pure none := by rfl) :
    AS X o0 o (.Assign [.Tuple [.Name x px, .Name y py, .Name z pz, .Name u pu] kt pt] e pos :: rest) D ds k H0 := fun st H S hk e0 fr =>
  wb_cons (wss (ps_asg pe_w (pg_tup hc (pgs_cons (pg_name hN hi hx hfx) (pgs_cons (pg_name hN hj hy hfy) (pgs_cons (pg_name hN hl hz hfz) (pgs_cons (pg_name hN hm hu hfu) pgs_nil))))) hs hw) (h st H _ S hk fun d k1 v H1 hr e1 hk1 h1 => by
    obtain ⟨as, rfl, hz⟩ := onT_ex hr
    obtain ⟨d1, d2, d3, d4, rfl, hy⟩ := hz
    obtain ⟨a, xs, rfl, hsq, hd⟩ := h1.untup
    match xs, hd with
    | [v1, v2, v3, v4], hd =>
      exact ⟨a, _, rfl, hsq, rfl, v1, _, rfl, v2, _, rfl, v3, _, rfl, v4, _, rfl, rfl, hy _ H1 (((((S.kp e1 hk).set (.v (hd.2 0 _ _ rfl rfl))).set (.v (hd.2 1 _ _ rfl rfl))).set (.v (hd.2 2 _ _ rfl rfl))).set (.v (hd.2 3 _ _ rfl rfl))) hk1 (fr.kp e0 e1) fr⟩))
end
end Wz

set_option Elab.async false
set_option linter.all false
set_option maxRecDepth 100000
set_option maxHeartbeats 4000000
/-! Lz11: math.gcd of three, math.isqrt, list * int, a comprehension over a range with an if, a module's dict of triples. -/
namespace Wz
open PySem PySem.Spec PyProof.Rows L2 Evl
@[reducible] def on3 (as : List Dat) (C : Dat → Dat → Dat → Prop) : Prop := match as with | [d, e, f] => C d e f | _ => False
theorem on3_ex {as : List Dat} {C : Dat → Dat → Dat → Prop} (h : on3 as C) : ∃ d e f, as = [d, e, f] ∧ C d e f := by
  match as, h with
  | [d, e, f], h => exact ⟨d, e, f, rfl, h⟩
def rtI (z : Int) : Int := ((PySem.Float64.isqrt z.toNat : Nat) : Int)
theorem rtI_ok {z : Int} (h : 0 ≤ z) : 0 ≤ rtI z ∧ rtI z * rtI z ≤ z ∧ z < (rtI z + 1) * (rtI z + 1) := by
  have q := PySem.Float64.isqrt_spec z.toNat
  have e : ((z.toNat : Nat) : Int) = z := Int.toNat_of_nonneg h
  refine ⟨Int.natCast_nonneg _, ?_, ?_⟩
  · have := Int.ofNat_le.mpr q.1
    rw [Int.natCast_mul, e] at this
    exact this
  · have := Int.ofNat_lt.mpr q.2
    rw [Int.natCast_mul, Int.natCast_add, e] at this
    exact this
section
variable {X : Cx} {o0 o : Os} {ds : List (Option Dat)} {k k1 k2 : Cs} {e c a b elt e1 e2 e3 : Expr} {es : List Expr} {d : Dat} {as : List Dat} {pos pos' pos2 p p1 p2 p3 : Pos} {rest body orelse : List Stmt} {D : Ends} {H0 : Hp} {R : Dat → Cs → Prop} {RT : Bool → Cs → Prop} {RN : List Dat → Cs → Prop} {x : Str} {scope : Scope} {j : Nat}
theorem args_gcd3 (a b c : Value) : argsOk "math.gcd" ⟨[a, b, c], []⟩ := by unfold argsOk; kernel_rfl
theorem run_gcd3 (a : Int) (t : Tok) (b : Int) (u : Tok) (c : Int) (v : Tok) :
    Gives (Builtin.«math.gcd» ⟨[.int a t, .int b u, .int c v], []⟩) (.int (((((Nat.gcd 0 a.natAbs).gcd b.natAbs).gcd c.natAbs : Nat) : Int))) :=
  .of_wp fun M A E s Q h => by obtain ⟨hp, g, d, tk, os⟩ := s; wp_walk; exact ⟨_, rfl, h⟩
theorem t_neDB (hu : X.A.units + 64 < cLine) (h : EvC X o a ds k fun x k1 => EvC X o b ds k1 fun y k2 => eqOk x y ∧ ((!PyData.eqv (pd x) (pd y)) = true → RT true k2) ∧ ((!PyData.eqv (pd x) (pd y)) = false → RT false k2)) : EvT X o (.Compare a [.NotEq] [b] pos) ds k RT :=
  t_neD hu (h.mono fun x k1 hx => hx.mono fun y k2 ⟨ok, h1, h2⟩ => ⟨ok, by
    cases e : (!PyData.eqv (pd x) (pd y)) with
    | true => exact h1 e
    | false => exact h2 e⟩)
theorem t_eqDB (hu : X.A.units + 64 < cLine) (h : EvC X o a ds k fun x k1 => EvC X o b ds k1 fun y k2 => eqOk x y ∧ (PyData.eqv (pd x) (pd y) = true → RT true k2) ∧ (PyData.eqv (pd x) (pd y) = false → RT false k2)) : EvT X o (.Compare a [.Eq] [b] pos) ds k RT :=
  t_eqD hu (h.mono fun x k1 hx => hx.mono fun y k2 ⟨ok, h1, h2⟩ => ⟨ok, by
    cases e : PyData.eqv (pd x) (pd y) with
    | true => exact h1 e
    | false => exact h2 e⟩)
def rGcd3 : List V → Hp → VK → Prop := fun vs H Q => ∃ a b c : Int, vs = [.int a, .int b, .int c] ∧ Q (.int (((a.natAbs.gcd b.natAbs).gcd c.natAbs : Nat) : Int)) H
theorem cr_gcd3 : CallR X (.builtin "math.gcd") rGcd3 := by
  intro pins s σ H vs us Q I r h
  obtain ⟨a, b, c, rfl, q⟩ := h
  cases r with
  | cons r1 r =>
    cases r with
    | cons r2 r =>
      cases r with
      | cons r3 r =>
        cases r
        obtain ⟨t1, rfl⟩ := r1
        obtain ⟨t2, rfl⟩ := r2
        obtain ⟨t3, rfl⟩ := r3
        have g := run_gcd3 a t1 b t2 c t3
        rw [Nat.gcd_zero_left] at g
        exact call_function_meets PySem.W.MGF.kind_gcd PySem.W.MGF.plain_gcd PySem.W.MGF.entry_gcd (args_gcd3 _ _ _) g.meets ⟨.int _, H, I.tok _, ⟨_, rfl⟩, q⟩
theorem c_gcd3 (hm : X.mg x = some (.builtin "math.gcd")) (h : EvA X o [e1, e2, e3] ds k fun as k1 => on3 as fun d1 d2 d3 => onI d1 fun a => onI d2 fun b => onI d3 fun c => R (.int (((a.natAbs.gcd b.natAbs).gcd c.natAbs : Nat) : Int)) k1) (hg : Gl X x := by rfl) (hdb : (x == ("__debug__" : Str)) = false := by decide)
    (he : starEach [e1, e2, e3] X.env = (false, eval e1 X.env) :: starEach [e2, e3] X.env := by rfl) (hpl : (backTo pos (starEach [e2, e3] X.env)).any (·.1) = false := by rfl) : EvC X o (.Call (.Name x p) [e1, e2, e3] [] pos) ds k R := fun st H Q St hk q =>
  we (pe_callBfun cr_gcd3 hg hm pa_w hdb he hpl) (h st H _ St hk fun as k1 vs H1 hr ex hk1 h1 => by
    obtain ⟨d1, d2, d3, rfl, hr⟩ := on3_ex hr
    obtain ⟨a, rfl, hr⟩ := onI_ex hr
    obtain ⟨b, rfl, hr⟩ := onI_ex hr
    obtain ⟨c, rfl, hr⟩ := onI_ex hr
    obtain ⟨v1, v2, v3, rfl, g1, g2, g3⟩ := dts3 h1
    have q1 := g1.unint
    have q2 := g2.unint
    have q3 := g3.unint
    subst q1 q2 q3
    exact ⟨a, b, c, rfl, q _ k1 _ H1 hr ex hk1 (.v (.int _))⟩)
def rIsq : List V → Hp → VK → Prop := fun vs H Q => ∃ a : Int, vs = [.int a] ∧ 0 ≤ a ∧ a.natAbs < 2 ^ 12000 ∧ Q (.int (rtI a)) H
theorem cr_isq : CallR X (.builtin "math.isqrt") rIsq := by
  intro pins s σ H vs us Q I r h
  obtain ⟨a, rfl, h0, hb, q⟩ := h
  cases r with
  | cons r1 r =>
    cases r
    obtain ⟨t1, rfl⟩ := r1
    have hl : a.toNat.log2 < 12000 := by
      by_cases z : a.toNat = 0
      · rw [z, Nat.log2_zero]; decide
      · rw [Nat.log2_lt z]
        have : a.toNat = a.natAbs := by omega
        rw [this]
        exact hb
    exact call_function_meets PySem.W.MGF.kind_isqrt PySem.W.MGF.plain_isqrt PySem.W.MGF.entry_isqrt (PySem.W.MGF.args_isqrt _) (PySem.W.mg_run_isqrt a t1 (by omega) (by omega) (by omega)).meets ⟨.int _, H, I.tok _, ⟨_, rfl⟩, q⟩
theorem c_isq (hm : X.mg x = some (.builtin "math.isqrt")) (h : EvA X o [e1] ds k fun as k1 => on1 as fun d => onI d fun a => (0 ≤ a ∧ Bd 12000 a) ∧ R (.int (rtI a)) k1) (hg : Gl X x := by rfl) (hdb : (x == ("__debug__" : Str)) = false := by decide)
    (he : starEach [e1] X.env = (false, eval e1 X.env) :: starEach [] X.env := by rfl) (hpl : (backTo pos (starEach [] X.env)).any (·.1) = false := by rfl) : EvC X o (.Call (.Name x p) [e1] [] pos) ds k R := fun st H Q St hk q =>
  we (pe_callBfun cr_isq hg hm pa_w hdb he hpl) (h st H _ St hk fun as k1 vs H1 hr ex hk1 h1 => by
    obtain ⟨d, rfl, hr⟩ := on1_ex hr
    obtain ⟨a, rfl, ⟨h0, hb⟩, hr⟩ := onI_ex hr
    obtain ⟨v1, rfl, g1⟩ := dts1 h1
    have q1 := g1.unint
    subst q1
    exact ⟨a, rfl, h0, hb, q _ k1 _ H1 hr ex hk1 (.v (.int _))⟩)
/-- list * int, the list new -/
theorem rep_flat {vs : List V} {ds : List Dat} {K : PySem.W.Frag} {H : Hp} (h : DVs K o H vs ds) : ∀ n : Nat, DVs K o H (List.replicate n vs).flatten (List.replicate n ds).flatten
  | 0 => DVs.nil
  | n + 1 => by
    rw [List.replicate_succ, List.replicate_succ, List.flatten_cons, List.flatten_cons]
    exact h.append (rep_flat h n)
theorem n_rep (h : EvN X o a ds k fun as k1 => EvC X o b ds k1 fun y k2 => onI y fun n => (as.all noL = true ∧ 0 ≤ n ∧ n ≤ 1000 ∧ as.length ≤ 10) ∧ RN (List.replicate n.toNat as).flatten k2) : EvN X o (.BinOp a .Mult b pos) ds k RN := fun st H Q S hk q =>
  we (pe_op op_rep pe_w pe_w) (h st H _ S hk fun as k1 p xs H1 hr np e1 hk1 hp hd => hr st H1 _ (S.kp e1 hk) hk1 fun y k2 w H2 hy e2 hk2 h2 => by
    obtain ⟨n, rfl, ⟨na, h0, hn, hl⟩, hr⟩ := onI_ex hy
    have q1 := h2.unint
    subst q1
    have nD : p ∉ o := hk.ne np
    have hp2 : H2 p = some (.lst xs) := e2 p _ nD hp
    have hm : xs.length * n.toNat ≤ 10 * 1000 := Nat.mul_le_mul (by rw [hd.1]; exact hl) (by omega)
    refine ⟨p, n, xs, rfl, rfl, hp2, by omega, by omega, Nat.le_trans hm (by decide), fun r hr' => ?_⟩
    have ee : Ex H2 (upd H2 r (.lst (List.replicate n.toNat xs).flatten)) := Ex.new hr'
    have e12 := e1.trans e2
    have hrn : H r = none := fresh_back e12 hk2 hr'
    exact q _ k2 r _ _ hr hrn (e12.trans (Kp.of_ex ee)) (hk2.ex ee) upd_same ((rep_flat (hd.kp e2 hk1) n.toNat).kp (Kp.of_ex ee) hk2))
/-- [elt for x in range(a) if c] -/
theorem n_lcRc (hcalm : X.calm = true) (hN : X.N.Nodup) (hm : X.mg "range" = none) (hok : BlkOk X.N X.env.scope scope [(x, j)]) (hgn : ∀ s H C cl fp, PG (BX X scope s H C cl fp) (.Name x p1) (gName j))
    (h : EvA X o [a] ds k fun as k1 => on1 as fun d => onI d fun n => (0 ≤ n ∧ n ≤ 10000) ∧ ∃ W, W 0 [] k1 ∧ LcC X o scope c elt ds n.toNat (fun i => some (.int (i : Int))) (fun d es => es.set j (some d)) W ∧ ∀ acc q, W n.toNat acc q → acc.all noL = true → RN acc q) (hg : Gl X "range" := by rfl) (hst : starEach [a] X.env = [(false, eval a X.env)] := by rfl)
    (hset : ∀ y, foldedSetIterable (.Call (.Name "range" p2) [a] [] p3) X.env y = pure y := by intro _; rfl) :
    EvN X o (.ListComp elt [⟨.Name x p1, .Call (.Name "range" p2) [a] [] p3, [c], 0⟩] scope pos) ds k RN := fun st H Q S hk q =>
  we (pe_lc (own := [(x, j)]) (g := gName j) (tt := bT X scope c) (te := bE X scope elt) hcalm hN (pi_range1 hg hm pa_w hst) hok hgn
    (fun s0 H0 C cl fp => pts_one ⟨fun pins s st H Q I h => h s0 H0 C cl fp pins s I⟩) (fun s0 H0 C cl fp => ⟨fun pins s st H Q I h => h s0 H0 C cl fp pins s I⟩) hset) (h st H _ S hk fun as k1 vs H1 hr e1 hk1 h1 => by
    obtain ⟨d, rfl, hr⟩ := on1_ex hr
    obtain ⟨n, rfl, hn, W, h0, L, hd⟩ := onI_ex hr
    obtain ⟨u, rfl, g1⟩ := dts1 h1
    have q1 := g1.unint
    subst q1
    refine ⟨n, rfl, by omega, by omega, fun Dr nD => ?_⟩
    refine lc_range (lo := 0) (n := n.toNat) (g := gName j) (tt := bT X scope c) (te := bE X scope elt) (vs := [j]) (σ := st) (Qd := fun H' => Q (.ref Dr) H') (CvI X.K o H1 Dr W) (cv_start nD hk1 h0) (fun i H' hi w => ?_) (fun H' w => ?_)
    · have e0 : (0 : Int) + (i : Int) = (i : Int) := Int.zero_add _
      show wipe ((wipe st [j]).set j (some (.int ((0 : Int) + (i : Int))))) [j] = wipe st [j] ∧ _
      rw [e0]
      exact lc_turn1 nD hk1 (S.kp e1 hk) L (by omega) hi rfl (.int _) w
    · obtain ⟨w1, q', acc, vs, hW, hk', hD, hv, na, hl⟩ := w
      exact q acc q' Dr vs H' (hd acc q' hW na) (fresh_back e1 hk1 nD) (e1.trans w1) hk' hD hv)
/-! a module's dict, its keys ints, its values tuples of three ints -/
def rIxI (K : PySem.W.Frag) (P : Program) (w : World) : R2 := fun x y H Q => ∃ (p : Addr) (i : Int) (es : Array DictEntry) (n : Nat) (u0 : Value) (r : V), x = .ref p ∧ y = .int i ∧ K.lookup p = some ⟨.type "dict", none, .dict es n, #[]⟩ ∧ KeysOf (intKind P w) es ∧ findBy (intKind P w).is es i = some u0 ∧ RelV r u0 ∧ Q r H
theorem ix_kdi : IxR X (rIxI X.K X.prog X.w) := by
  intro value slice pins s σ H x y v u Q I rx ry h hs
  obtain ⟨p, z, es, n, u0, r, rfl, rfl, hl, hk, e, ru, q⟩ := h
  obtain rfl : v = Value.ref p := rx
  obtain ⟨t, rfl⟩ := ry
  have hm : s.heap.MapOf (intKind X.prog X.w) p (fun y => findBy (intKind X.prog X.w).is es y) := ⟨_, es, n, I.kIn _ _ hl, ⟨rfl, rfl, rfl⟩, rfl, hk, fun _ => rfl⟩
  exact tail_any hm.typeIs slot_dict_getitem.lookup (wpAny_getItem_of (intKind_is X.prog X.w z t) hm e ⟨r, H, I.tok _, ru, q⟩) hs
abbrev T3 := Int × Int × Int
abbrev tD (t : T3) : Dat := .tup [.int t.1, .int t.2.1, .int t.2.2]
/-- a module's dict that tells a triple for each kind -/
structure KDI (P : Program) (w : World) (K : PySem.W.Frag) (mg : Str → Option Value) (x : Str) (f : Int → T3) : Prop where
  ex : ∃ (C : Addr) (es : Array DictEntry) (n : Nat), mg x = some (.ref C) ∧ K.lookup C = some ⟨.type "dict", none, .dict es n, #[]⟩ ∧ KeysOf (intKind P w) es ∧ ∀ i, (i = 2 ∨ i = 3 ∨ i = 5) → ∃ p, findBy (intKind P w).is es i = some (.ref p) ∧ ∀ H, SqT K H p [.int (f i).1, .int (f i).2.1, .int (f i).2.2]
theorem c_kdi {f : Int → T3} (t : KDI X.prog X.w X.K X.mg x f) (h : EvC X o b ds k fun y k1 => onI y fun i => (i = 2 ∨ i = 3 ∨ i = 5) ∧ R (tD (f i)) k1) (hg : Gl X x := by rfl) (hd : (x == ("__debug__" : Str)) = false := by decide) (hp : PlainIx b := by exact fun _ _ => rfl) : EvC X o (.Subscript (.Name x pos) b pos2) ds k R := fun st H Q S hk q => by
  obtain ⟨C, es, n, hm, hl, ks, hv⟩ := t.ex
  refine we (pe_ix ix_kdi (pe_glob hg hm (v := .ref C) rfl hd) pe_w hp) ?_
  refine h st H _ S hk fun y k1 v H2 hr e2 hk2 h2 => ?_
  obtain ⟨i, rfl, hi, hr⟩ := onI_ex hr
  have q1 := h2.unint
  subst q1
  obtain ⟨p, hf, hs⟩ := hv i hi
  exact ⟨C, i, es, n, _, .ref p, rfl, rfl, hl, ks, hf, rfl, q _ k1 _ H2 hr e2 hk2 (.v (.tup' (hs H2) (DVs.cons (.int _) (DVs.cons (.int _) (DVs.cons (.int _) DVs.nil)))))⟩
end
end Wz

set_option Elab.async false
set_option linter.all false
set_option maxRecDepth 100000
set_option maxHeartbeats 4000000
/-! Lz12: instances: reading a field, calling a method, making one; the body of __init__. -/
namespace Wz
open PySem PySem.Spec PyProof.Rows L2 Evl
/-- a class whose fields are read -/
structure ObC (K : PySem.W.Frag) (C : Addr) (fs : List Str) : Prop where
  cl : Cls K C
  na : ∀ f ∈ fs, NoAttr K C f
structure MeC (P : Program) (w : World) (K : PySem.W.Frag) (mg : Str → Option Value) (base : Heap) (k : Nat) (C : Addr) (m : Str) (ps : List Str) (sp : Sp) : Prop where
  ex : ∃ (g : Addr) (fd : FuncData), Cls K C ∧ Meth K C m g ∧ Binds K fd ps [] ∧ FnOk P w K mg base CX0 k g fd ps sp
structure MkC (P : Program) (w : World) (K : PySem.W.Frag) (mg : Str → Option Value) (base : Heap) (k : Nat) (x : Str) (C : Addr) (ps : List Str) (sp : Sp) : Prop where
  ex : ∃ (f : Addr) (fd : FuncData), mg x = some (.ref C) ∧ Mk K C f ∧ Binds K fd ps [] ∧ FnOk P w K mg base CX0 k f fd ps sp
theorem zip_at {K : PySem.W.Frag} {o : Os} {H : Hp} {f : Str} {d : Dat} : ∀ {ns : List Str} {xs : List V} {ds : List Dat}, xs.length = ds.length → (∀ (i : Nat) (v : V) (d : Dat), xs[i]? = some v → ds[i]? = some d → DV K o H v d) → (ns.zip ds).lookup f = some d → ∃ v, (ns.zip xs).lookup f = some v ∧ DV K o H v d
  | [], _, _, _, _, e => by simp at e
  | n :: ns, [], [], _, _, e => by simp at e
  | n :: ns, x :: xs, y :: ys, hl, h, e => by
    rw [List.zip_cons_cons, List.lookup_cons] at e ⊢
    by_cases q : f == n
    · rw [q] at e ⊢
      cases e
      exact ⟨x, rfl, h 0 x _ rfl rfl⟩
    · have q' : (f == n) = false := by simpa using q
      rw [q'] at e ⊢
      exact zip_at (by simpa using hl) (fun i v d a b => h (i + 1) v d (by simpa using a) (by simpa using b)) e
theorem zip_no {f : Str} : ∀ {ns : List Str} {xs : List V}, f ∉ ns → (ns.zip xs).lookup f = none
  | [], _, _ => by simp
  | n :: ns, [], _ => by simp
  | n :: ns, x :: xs, h => by
    rw [List.zip_cons_cons, List.lookup_cons]
    have q : (f == n) = false := by
      rw [beq_eq_false_iff_ne]
      exact fun e => h (by rw [e]; exact List.mem_cons_self)
    rw [q]
    exact zip_no (fun e => h (List.mem_cons_of_mem _ e))
theorem DT.unobj {K : PySem.W.Frag} {o : Os} {H : Hp} {v : V} {C : Addr} {ns : List Str} {ds : List Dat} (h : DT K o H v (.obj C ns ds)) : ∃ a dx xs, v = .ref a ∧ H a = some (.ins C dx (ns.zip xs)) ∧ a ∉ o ∧ ns.length = ds.length ∧ DVs K o H xs ds := by
  cases h with
  | v h =>
    cases h with
    | obj s n m l q => exact ⟨_, _, _, rfl, s, n, m, l, q⟩
section
variable {X : Cx} {o0 o : Os} {ds : List (Option Dat)} {k k1 k2 : Cs} {e c a b elt e1 e2 e3 : Expr} {es : List Expr} {d : Dat} {as : List Dat} {pos pos' pos2 apos p p1 p2 p3 : Pos} {rest body orelse : List Stmt} {D : Ends} {H0 : Hp} {R : Dat → Cs → Prop} {RT : Bool → Cs → Prop} {RN : List Dat → Cs → Prop} {x m f : Str} {scope : Scope} {j : Nat} {C : Addr} {fs ps : List Str} {k' : Nat}
theorem c_fld (oc : ObC X.K C fs) (hf : f ∈ fs) (h : EvC X o e ds k fun d k1 => ∃ ns vs r, d = .obj C ns vs ∧ (ns.zip vs).lookup f = some r ∧ R r k1) (hb : attributeBase e f X.env (eval e X.env) = eval e X.env := by rfl) : EvC X o (.Attribute e f pos) ds k R := fun st H Q S hk q =>
  we (pe_fld pe_w hb) (h st H _ S hk fun d k1 v H1 hr e1 hk1 h1 => by
    obtain ⟨ns, vs, r, rfl, hl, hr⟩ := hr
    obtain ⟨a, dx, xs, rfl, ha, na, hn, hd⟩ := h1.unobj
    obtain ⟨v, hv, hd2⟩ := zip_at hd.1 hd.2 hl
    exact ⟨a, C, dx, _, v, rfl, ha, oc.cl, oc.na f hf, hv, q r k1 v H1 hr e1 hk1 (.v hd2)⟩)
theorem c_meth {F : FP} {pl : Sem Bool} (c : MeC X.prog X.w X.K X.mg X.base k' C m ps (spP X.K F)) (hr : Room k' X.A) (h : EvC X o e ds k fun d k1 => (∃ ns vs, d = .obj C ns vs ∧ m ∉ ns) ∧ EvA X o (e1 :: es) ds k1 fun as k2 => F (d :: as.map (rd k2)) fun r => noL r = true ∧ R r k2)
    (hst : starEach (e1 :: es) X.env = (false, eval e1 X.env) :: starEach es X.env := by rfl) (hpl : (backTo pos (starEach es X.env)).any (·.1) = false := by rfl)
    (ht : eval (.Call (.Attribute e m apos) (e1 :: es) [] pos) X.env = (do
      let ov ← eval e X.env
      standAt apos.atName
      let (f, first) ← holding [ov] (getMethod ov m pl)
      callWith pos f first (backTo pos (starEach (e1 :: es) X.env)) (backToKw pos (keywordEach [] X.env))) := by rfl) : EvC X o (.Call (.Attribute e m apos) (e1 :: es) [] pos) ds k R := fun st H Q St hk q => by
  obtain ⟨g, fd, cl, me, hb, F1⟩ := c.ex
  refine we (pe_meth pe_w cl me F1 hr hb .nil pass0 pa_w hst hpl ht) (h st H _ St hk fun d k1 v H1 hx e1 hk1 h1 => ?_)
  obtain ⟨⟨ns, vs, rfl, hn⟩, hx⟩ := hx
  obtain ⟨a, dx, xs, rfl, ha, na, hnl, hd⟩ := h1.unobj
  refine ⟨a, dx, _, rfl, ha, zip_no hn, hx st H1 _ (St.kp e1 hk) hk1 fun as k2 ws H2 hx2 e2 hk2 h2 => ?_⟩
  have h1' : DT X.K [] H2 (.ref a) (.obj C ns vs) := by
    have := rd_dt hk2 (h1.kp e2 hk1)
    exact this
  refine ⟨.obj C ns vs :: as.map (rd k2), _, by rw [List.append_nil]; exact DTs.cons h1' (rd_dts hk2 h2), hx2, fun d hd v H' e' h' => ?_⟩
  have e3 : Ex H2 H' := e'.ex
  exact q d k2 v H' hd.2 ((e1.trans e2).trans (Kp.of_ex e3)) (hk2.ex e3) (.v (h'.back hd.1 o))
/-- what __init__ does: the instance's address, the other arguments, without a list -/
abbrev FI := List Dat → (List Str → List Dat → Prop) → Prop
def spI (K : PySem.W.Frag) (C : Addr) (F : FI) : Sp := fun vs H Q _ => ∃ (x dx : Addr) (ws : List V) (ds : List Dat) (G : List Str → List Dat → Prop), vs = .ref x :: ws ∧ H x = some (.ins C dx []) ∧ DTs K [] H ws ds ∧ ds.all noL = true ∧ F ds G ∧ ∀ ns os, G ns os → ∀ H', (∀ b u, b ≠ x → H b = some u → H' b = some u) → DV K [] H' (.ref x) (.obj C ns os) → Q .non H'
theorem DVs.tm2 {K : PySem.W.Frag} {o : Os} {H H' : Hp} {vs : List V} {ds : List Dat} (m : ∀ b xs, SqT K H b xs → SqT K H' b xs) (h : DVs K o H vs ds) (n : ds.all noL = true) : DVs K o H' vs ds := h.tm m n
theorem tm_ne {K : PySem.W.Frag} {H H' : Hp} {x C dx : Addr} {fs : List (Str × V)} (hx : H x = some (.ins C dx fs)) (h : ∀ b u, b ≠ x → H b = some u → H' b = some u) : ∀ b zs, SqT K H b zs → SqT K H' b zs := fun b zs s => by
  rcases s with (s | ⟨ob, s⟩) | s
  · exact .inl (.inl (h b _ (fun z => by rw [z, hx] at s; cases s) s))
  · exact .inl (.inr ⟨ob, h b _ (fun z => by rw [z, hx] at s; cases s) s⟩)
  · exact .inr s
theorem tm_ex {K : PySem.W.Frag} {H H' : Hp} (h : Ex H H') : ∀ b zs, SqT K H b zs → SqT K H' b zs := fun b zs s => by
  rcases s with (s | ⟨ob, s⟩) | s
  · exact .inl (.inl (h b _ s))
  · exact .inl (.inr ⟨ob, h b _ s⟩)
  · exact .inr s
theorem c_make {F : FI} (c : MkC X.prog X.w X.K X.mg X.base k' x C ps (spI X.K C F)) (hr : Room (k' + 1) X.A) (h : EvA X o (e :: es) ds k fun as k1 => (as.all noL = true) ∧ F as fun ns os => os.all noL = true ∧ ns.length = os.length ∧ R (.obj C ns os) k1) (hg : Gl X x := by rfl) (hdb : (x == ("__debug__" : Str)) = false := by decide)
    (he : starEach (e :: es) X.env = (false, eval e X.env) :: starEach es X.env := by rfl) (hpl : (backTo pos (starEach es X.env)).any (·.1) = false := by rfl) : EvC X o (.Call (.Name x p) (e :: es) [] pos) ds k R := fun st H Q St hk q => by
  obtain ⟨f, fd, hm, M, hb, F1⟩ := c.ex
  refine we (pe_make M F1 hr hg hm hb .nil pass0 pa_w hdb he hpl) (h st H _ St hk fun as k1 vs H1 hx e1 hk1 h1 => ?_)
  obtain ⟨na, hx⟩ := hx
  intro x dx nx nd ne
  have ex1 : Ex H1 (upd (upd H1 dx (.own x)) x (.ins C dx [])) := fun b u hu => by
    rw [upd_ne (fun z => by rw [z, nx] at hu; cases hu), upd_ne (fun z => by rw [z, nd] at hu; cases hu)]
    exact hu
  have hv : DVs X.K [] (upd (upd H1 dx (.own x)) x (.ins C dx [])) vs as := ((h1.unc (List.all_eq_true.mpr fun z hz => noL_noC (List.all_eq_true.mp na z hz))).back na []).tm (tm_ex ex1) na
  refine ⟨x, dx, vs, as, _, by rw [List.append_nil], upd_same, hv.dts, na, hx, fun ns os hG H' e' h' => ⟨rfl, ?_⟩⟩
  obtain ⟨no, hl, hR⟩ := hG
  have ex2 : Ex H1 H' := fun b u hu => e' b u (fun z => by rw [z, nx] at hu; cases hu) (ex1 b u hu)
  have nxo : x ∉ o := hk1.ne nx
  cases h' with
  | obj s n m l r =>
    have hd : DVs X.K [] H' _ os := ⟨l, r⟩
    have hd2 := hd.back no o
    exact q _ k1 _ H' hR (e1.trans (Kp.of_ex ex2)) (hk1.ex ex2) (.v (.obj s nxo m l hd2.2))
end
/-! ### the body of __init__ -/
theorem putF_new {f : Str} {v : V} : ∀ {ns : List Str} {xs : List V}, ns.length = xs.length → f ∉ ns → putF f v (ns.zip xs) = (ns ++ [f]).zip (xs ++ [v])
  | [], [], _, _ => rfl
  | n :: ns, x :: xs, hl, h => by
    have q : ¬ n = f := fun e => h (by rw [e]; exact List.mem_cons_self)
    rw [List.zip_cons_cons, putF, if_neg q, putF_new (by simpa using hl) (fun e => h (List.mem_cons_of_mem _ e))]
    rfl
theorem putF_set {f : Str} {v : V} : ∀ {ns : List Str} {xs : List V} {i : Nat}, ns.length = xs.length → ns[i]? = some f → f ∉ ns.take i → putF f v (ns.zip xs) = ns.zip (xs.set i v)
  | [], _, _, _, h, _ => by simp at h
  | n :: ns, x :: xs, 0, hl, h, _ => by
    have q : n = f := by simpa using h
    rw [List.zip_cons_cons, putF, if_pos q]
    rfl
  | n :: ns, x :: xs, i + 1, hl, h, hn => by
    have q : ¬ n = f := fun e => hn (by rw [e, List.take_succ_cons]; exact List.mem_cons_self)
    rw [List.zip_cons_cons, putF, if_neg q, putF_set (i := i) (by simpa using hl) (by simpa using h) (fun e => hn (by rw [List.take_succ_cons]; exact List.mem_cons_of_mem _ e))]
    rfl
/-- the names of __init__ but for the first, which is the instance, hold no list -/
def NoLs (ds : List (Option Dat)) : Prop := ∀ (i : Nat) (d : Dat), ds[i]? = some (some d) → i ≠ 0 → noL d = true
theorem NoLs.set {ds : List (Option Dat)} {i : Nat} {d : Dat} (h : NoLs ds) (n : noL d = true) : NoLs (ds.set i (some d)) := fun j e he hj => by
  by_cases q : i = j
  · subst q
    rw [List.getElem?_set] at he
    rw [if_pos rfl] at he
    split at he
    · cases he; exact n
    · cases he
  · rw [List.getElem?_set_ne q] at he
    exact h j e he hj
theorem NoLs.set0 {ds : List (Option Dat)} {d : Dat} (h : NoLs ds) : NoLs (ds.set 0 (some d)) := fun j e he hj => by
  rw [List.getElem?_set_ne (fun z => hj z.symm)] at he
  exact h j e he hj
def AI (X : Cx) (x C : Addr) (body : List Stmt) (D : Ends) (ds : List (Option Dat)) (H0 : Hp) : Prop :=
  ∀ st H, Sat X.K [] st H ds → st[0]? = some (some (.ref x)) → NoLs ds → (∃ ns os, ds[0]? = some (some (.obj C ns os))) → (∀ b u, b ≠ x → H0 b = some u → H b = some u) → WB X body D st H
/-- the heap but for the instance -/
theorem sat_self {K : PySem.W.Frag} {st : L2.St} {H H' : Hp} {ds : List (Option Dat)} {x C dx : Addr} {fs : List (Str × V)} {ns : List Str} {xs : List V} {os : List Dat} (S : Sat K [] st H ds) (hs : st[0]? = some (some (.ref x))) (hn : NoLs ds) (hx : H x = some (.ins C dx fs))
    (h : ∀ b u, b ≠ x → H b = some u → H' b = some u) (hx' : H' x = some (.ins C dx (ns.zip xs))) (hl : ns.length = os.length) (hd : DVs K [] H' xs os) (h0 : 0 < ds.length) : Sat K [] st H' (ds.set 0 (some (.obj C ns os))) := by
  refine ⟨by rw [List.length_set]; exact S.1, fun i d e => ?_⟩
  cases i with
  | zero =>
    rw [List.getElem?_set_self h0] at e
    cases e
    exact ⟨_, hs, .v (.obj hx' (fun z => by cases z) hl hd.1 hd.2)⟩
  | succ i =>
    rw [List.getElem?_set_ne (by omega)] at e
    obtain ⟨v, h1, h2⟩ := S.2 (i + 1) d e
    have n := hn (i + 1) d e (by omega)
    exact ⟨v, h1, .v ((h2.unc (noL_noC n)).tm (tm_ne hx h) n)⟩
section
variable {X : Cx} {ds : List (Option Dat)} {e c a b e1 e2 : Expr} {d : Dat} {pos pos' p p1 p2 p3 : Pos} {rest body orelse : List Stmt} {D : Ends} {H0 : Hp} {x C : Addr} {y f f2 : Str} {fs : List Str}
theorem ai_asg {i : Nat} (hN : X.N.Nodup) (hi0 : i ≠ 0) (h : EvC X [] e ds [] fun d _ => noL d = true ∧ AI X x C rest D (ds.set i (some d)) H0) (hi : X.N[i]? = some y := by rfl) (hx : Loc X.env.scope y := by exact Or.inl rfl) (hs : swapsWith e (some (.Name y pos')) pos.line X.env = pure false := by rfl)
    (hf : X.fn y = true ∨ X.env.scope.names.lookup y = some .local := by exact .inl rfl) : AI X x C (.Assign [.Name y pos'] e pos :: rest) D ds H0 := fun st H S hsx hn ho e0 =>
  wb_cons (wss (ps_set hN hi hx pe_w hs hf) (h st H _ S dk_none fun d k1 v H1 hr e1 hk1 h1 => hr.2 _ H1 ((S.kp e1 dk_none).set h1) (by rw [List.getElem?_set_ne hi0]; exact hsx) (hn.set hr.1) (by rw [List.getElem?_set_ne hi0]; exact ho) (fun b u nb hb => e1 b u (fun z => by cases z) (e0 b u nb hb))))
theorem ai_drop (h : EvC X [] e ds [] fun _ _ => AI X x C rest D ds H0) (hs : swapsWith e none pos.line X.env = pure false := by rfl) : AI X x C (.Expr e pos :: rest) D ds H0 := fun st H S hsx hn ho e0 =>
  wb_cons (wss (ps_expr pe_w hs) (h st H _ S dk_none fun d k1 v H1 hr e1 hk1 h1 => hr _ H1 (S.kp e1 dk_none) hsx hn ho (fun b u nb hb => e1 b u (fun z => by cases z) (e0 b u nb hb))))
theorem ai_nil (h : ∀ st H, Sat X.K [] st H ds → st[0]? = some (some (.ref x)) → (∀ b u, b ≠ x → H0 b = some u → H b = some u) → D.nx st H) : AI X x C [] D ds H0 := fun st H S hsx hn ho e0 => wb pss_nil (h st H S hsx e0)
/-- a field written, in data -/
def SetD (f : Str) (d : Dat) (ns : List Str) (os : List Dat) (ns' : List Str) (os' : List Dat) : Prop := (f ∉ ns ∧ ns' = ns ++ [f] ∧ os' = os ++ [d]) ∨ ∃ i, ns[i]? = some f ∧ f ∉ ns.take i ∧ ns' = ns ∧ os' = os.set i d
theorem setD_put {K : PySem.W.Frag} {H : Hp} {f : Str} {d : Dat} {v : V} {ns ns' : List Str} {os os' : List Dat} {xs : List V} (h : SetD f d ns os ns' os') (hl : ns.length = os.length) (hd : DVs K [] H xs os) (hv : DV K [] H v d) : ∃ xs', putF f v (ns.zip xs) = ns'.zip xs' ∧ ns'.length = os'.length ∧ DVs K [] H xs' os' := by
  have hl2 : ns.length = xs.length := hl.trans hd.1.symm
  rcases h with ⟨h1, rfl, rfl⟩ | ⟨i, h1, h2, rfl, rfl⟩
  · exact ⟨xs ++ [v], putF_new hl2 h1, by rw [List.length_append, List.length_append, hl]; rfl, hd.append (DVs.cons hv DVs.nil)⟩
  · refine ⟨xs.set i v, putF_set hl2 h1 h2, by rw [List.length_set]; exact hl, by rw [List.length_set, List.length_set]; exact hd.1, fun j w z ga gb => ?_⟩
    by_cases q : i = j
    · subst q
      have hj : i < os.length := by
        have := (List.getElem?_eq_some_iff.mp gb).1
        rwa [List.length_set] at this
      rw [List.getElem?_set_self (by rw [hd.1]; exact hj)] at ga
      rw [List.getElem?_set_self hj] at gb
      cases ga
      cases gb
      exact hv
    · rw [List.getElem?_set_ne q] at ga gb
      exact hd.2 j w z ga gb
def gAttr (K : PySem.W.Frag) (to : TE) (f : Str) : TG := fun v σ H Q => to σ H fun x H1 => ∃ a C dx fs, x = .ref a ∧ H1 a = some (.ins C dx fs) ∧ Cls K C ∧ NoAttr K C f ∧ fs.length < 1000 ∧ Q σ (upd H1 a (.ins C dx (putF f v fs)))
theorem pg_attr {o : Expr} {to : TE} (ho : PE X o to) : PG X (.Attribute o f pos) (gAttr X.K to f) := by
  refine ⟨fun pins s σ H v u Q I r h => ?_⟩
  rw [arm_assign_Attribute]
  refine wpAny_bind (wpAny_holding (thn (ho.run pins s σ H _ I h) fun ov s1 ⟨x, H1, I1, r1, a, C, dx, fs, ex, ea, c, n, l, q⟩ => ?_))
  subst ex
  obtain rfl : ov = Value.ref a := r1
  exact wpAny_bind (wpAny_standAt (wpAny_bind (wpAny_holding (setattr_ok I1 ea c n l r fun s3 I3 => wpAny_release ⟨σ, _, I3, q⟩))))
theorem we_self {st : L2.St} {H : Hp} {Q : VK} (h : st[0]? = some (some (.ref x))) (q : Q (.ref x) H) (hN : X.N[0]? = some y := by rfl) (hv : Vis X.env.scope y := by first | exact Or.inl rfl | exact Or.inr (Or.inl rfl) | exact Or.inr (Or.inr rfl)) (hd : (y == ("__debug__" : Str)) = false := by decide) (hcd : (y == ("__classdict__" : Str)) = false := by decide) : WE X (.Name y p) st H Q :=
  we (pe_var hN hv hd hcd) ⟨_, h, q⟩
/-- what is known behind a write of a field -/
theorem ai_put {st : L2.St} {H : Hp} {v : V} {ns ns' : List Str} {os os' : List Dat} (oc : ObC X.K C fs) (hf : f ∈ fs) (S : Sat X.K [] st H ds) (hsx : st[0]? = some (some (.ref x))) (hn : NoLs ds) (e0 : ∀ b u, b ≠ x → H0 b = some u → H b = some u) (h0 : ds[0]? = some (some (.obj C ns os))) (hs : SetD f d ns os ns' os') (hl : ns.length < 1000) (hno : os'.all noL = true) (hv : DV X.K [] H v d) :
    ∃ dx fs0, H x = some (.ins C dx fs0) ∧ fs0.length < 1000 ∧ Sat X.K [] st (upd H x (.ins C dx (putF f v fs0))) (ds.set 0 (some (.obj C ns' os'))) ∧ (∀ b u, b ≠ x → H0 b = some u → upd H x (.ins C dx (putF f v fs0)) b = some u) ∧ (∀ b u, b ≠ x → H b = some u → upd H x (.ins C dx (putF f v fs0)) b = some u) := by
  obtain ⟨v0, g1, g2⟩ := S.2 0 _ h0
  rw [hsx] at g1
  cases g1
  obtain ⟨a, dx, xs, ea, hx, _, hnl, hd⟩ := g2.unobj
  cases ea
  obtain ⟨xs', ep, hl', hd'⟩ := setD_put hs hnl hd hv
  have kp : ∀ b u, b ≠ x → H b = some u → upd H x (.ins C dx (putF f v (ns.zip xs))) b = some u := fun b u nb hb => by
    rw [upd_ne nb]
    exact hb
  have hz : 0 < ds.length := by
    cases ds with
    | nil => simp at h0
    | cons _ _ => exact Nat.succ_pos _
  refine ⟨dx, ns.zip xs, hx, Nat.lt_of_le_of_lt (by rw [List.length_zip]; exact Nat.min_le_left _ _) hl, ?_, fun b u nb hb => kp b u nb (e0 b u nb hb), kp⟩
  have hx' : (upd H x (.ins C dx (putF f v (ns.zip xs)))) x = some (.ins C dx (ns'.zip xs')) := by rw [upd_same, ep]
  exact sat_self S hsx hn hx kp hx' hl' (hd'.tm (tm_ne hx kp) hno) hz
theorem ai_fld (oc : ObC X.K C fs) (hf : f ∈ fs) (h : EvC X [] e ds [] fun d _ => noL d = true ∧ ∃ ns os ns' os', ds[0]? = some (some (.obj C ns os)) ∧ SetD f d ns os ns' os' ∧ ns.length < 1000 ∧ os'.all noL = true ∧ AI X x C rest D (ds.set 0 (some (.obj C ns' os'))) H0)
    (hs : swapsWith e (some (.Attribute (.Name y p) f pos')) pos.line X.env = pure false := by rfl) (hN : X.N[0]? = some y := by rfl) (hv : Vis X.env.scope y := by first | exact Or.inl rfl | exact Or.inr (Or.inl rfl) | exact Or.inr (Or.inr rfl)) (hd : (y == ("__debug__" : Str)) = false := by decide) (hcd : (y == ("__classdict__" : Str)) = false := by decide) :
    AI X x C (.Assign [.Attribute (.Name y p) f pos'] e pos :: rest) D ds H0 := fun st H S hsx hn ho e0 =>
  wb_cons (wss (ps_fld pe_w pe_w hs) (h st H _ S dk_none fun d k1 v H1 hr e1 hk1 h1 => by
    obtain ⟨nd, ns, os, ns', os', h0, hsd, hl, hno, hr⟩ := hr
    have e1' : ∀ b u, b ≠ x → H0 b = some u → H1 b = some u := fun b u nb hb => e1 b u (fun z => by cases z) (e0 b u nb hb)
    obtain ⟨dx, fs0, hx, hl0, S', k0, k1'⟩ := ai_put oc hf (S.kp e1 dk_none) hsx hn e1' h0 hsd hl hno (h1.unc (noL_noC nd))
    have hz : 0 < ds.length := by
      cases ds with
      | nil => simp at h0
      | cons _ _ => exact Nat.succ_pos _
    exact we_self hsx ⟨x, C, dx, fs0, rfl, hx, oc.cl, oc.na f hf, hl0, hr _ _ S' hsx hn.set0 ⟨ns', os', List.getElem?_set_self hz⟩ k0⟩ hN hv hd hcd))
/-- self.f, y = t -/
theorem ai_pfn {z : Str} {i : Nat} {pz pt : Pos} {kt : Nat} (hNd : X.N.Nodup) (hc : X.calm = true) (hi0 : i ≠ 0) (oc : ObC X.K C fs) (hf : f ∈ fs) (h : EvC X [] e ds [] fun d _ => onT d fun as => ∃ d1 d2, as = [d1, d2] ∧ noL d1 = true ∧ noL d2 = true ∧ ∃ ns os ns' os', ds[0]? = some (some (.obj C ns os)) ∧ SetD f d1 ns os ns' os' ∧ ns.length < 1000 ∧ os'.all noL = true ∧ AI X x C rest D ((ds.set 0 (some (.obj C ns' os'))).set i (some d2)) H0)
    (hi : X.N[i]? = some z := by rfl) (hz : Loc X.env.scope z := by exact Or.inl rfl) (hfz : X.fn z = true ∨ X.env.scope.names.lookup z = some .local := by exact .inl rfl)
    (hs : swapsWithSole [.Tuple [.Attribute (.Name y p) f pos', .Name z pz] kt pt] e pos.line X.env = pure false := by rfl) (hw : swappedStores [.Tuple [.Attribute (.Name y p) f pos', .Name z pz] kt pt] e X.env = pure none := by rfl)
    (hN : X.N[0]? = some y := by rfl) (hv : Vis X.env.scope y := by first | exact Or.inl rfl | exact Or.inr (Or.inl rfl) | exact Or.inr (Or.inr rfl)) (hd : (y == ("__debug__" : Str)) = false := by decide) (hcd : (y == ("__classdict__" : Str)) = false := by decide) :
    AI X x C (.Assign [.Tuple [.Attribute (.Name y p) f pos', .Name z pz] kt pt] e pos :: rest) D ds H0 := fun st H S hsx hn ho e0 =>
  wb_cons (wss (ps_asg pe_w (pg_tup hc (pgs_cons (pg_attr pe_w) (pgs_cons (pg_name hNd hi hz hfz) pgs_nil))) hs hw) (h st H _ S dk_none fun d k1 v H1 hr e1 hk1 h1 => by
    obtain ⟨as, rfl, hr⟩ := onT_ex hr
    obtain ⟨d1, d2, rfl, n1, n2, ns, os, ns', os', h0, hsd, hl, hno, hr⟩ := hr
    obtain ⟨a, xs, rfl, hsq, hd⟩ := h1.untup
    have e1' : ∀ b u, b ≠ x → H0 b = some u → H1 b = some u := fun b u nb hb => e1 b u (fun z => by cases z) (e0 b u nb hb)
    match xs, hd with
    | [v1, v2], hd =>
      obtain ⟨dx, fs0, hx, hl0, S', k0, k1'⟩ := ai_put oc hf (S.kp e1 dk_none) hsx hn e1' h0 hsd hl hno (hd.2 0 _ _ rfl rfl)
      have hz : 0 < ds.length := by
        cases ds with
        | nil => simp at h0
        | cons _ _ => exact Nat.succ_pos _
      refine ⟨a, _, rfl, hsq, rfl, v1, _, rfl, we_self hsx ⟨x, C, dx, fs0, rfl, hx, oc.cl, oc.na f hf, hl0, v2, _, rfl, rfl, ?_⟩ hN hv (by assumption) hcd⟩
      have hd2 := (hd.2 1 _ _ rfl rfl).tm (tm_ne hx k1') n2
      exact hr _ _ (S'.set (.v hd2)) (by rw [List.getElem?_set_ne hi0]; exact hsx) (hn.set0.set n2) ⟨ns', os', by rw [List.getElem?_set_ne hi0]; exact List.getElem?_set_self hz⟩ k0))
/-- self.f, self.f2 = t -/
theorem ai_pff {pt p2 pos2 : Pos} {kt : Nat} (hc : X.calm = true) (oc : ObC X.K C fs) (hf : f ∈ fs) (hf2 : f2 ∈ fs) (h : EvC X [] e ds [] fun d _ => onT d fun as => ∃ d1 d2, as = [d1, d2] ∧ noL d1 = true ∧ noL d2 = true ∧ ∃ ns os ns' os' ns2 os2, ds[0]? = some (some (.obj C ns os)) ∧ (SetD f d1 ns os ns' os' ∧ ns.length < 1000 ∧ os'.all noL = true) ∧ (SetD f2 d2 ns' os' ns2 os2 ∧ ns'.length < 1000 ∧ os2.all noL = true) ∧ AI X x C rest D (ds.set 0 (some (.obj C ns2 os2))) H0)
    (hs : swapsWithSole [.Tuple [.Attribute (.Name y p) f pos', .Attribute (.Name y p2) f2 pos2] kt pt] e pos.line X.env = pure false := by rfl) (hw : swappedStores [.Tuple [.Attribute (.Name y p) f pos', .Attribute (.Name y p2) f2 pos2] kt pt] e X.env = pure none := by rfl)
    (hN : X.N[0]? = some y := by rfl) (hv : Vis X.env.scope y := by first | exact Or.inl rfl | exact Or.inr (Or.inl rfl) | exact Or.inr (Or.inr rfl)) (hd : (y == ("__debug__" : Str)) = false := by decide) (hcd : (y == ("__classdict__" : Str)) = false := by decide) :
    AI X x C (.Assign [.Tuple [.Attribute (.Name y p) f pos', .Attribute (.Name y p2) f2 pos2] kt pt] e pos :: rest) D ds H0 := fun st H S hsx hn ho e0 =>
  wb_cons (wss (ps_asg pe_w (pg_tup hc (pgs_cons (pg_attr pe_w) (pgs_cons (pg_attr pe_w) pgs_nil))) hs hw) (h st H _ S dk_none fun d k1 v H1 hr e1 hk1 h1 => by
    obtain ⟨as, rfl, hr⟩ := onT_ex hr
    obtain ⟨d1, d2, rfl, n1, n2, ns, os, ns', os', ns2, os2, h0, ⟨hsd, hl, hno⟩, ⟨hsd2, hl2, hno2⟩, hr⟩ := hr
    obtain ⟨a, xs, rfl, hsq, hd⟩ := h1.untup
    have e1' : ∀ b u, b ≠ x → H0 b = some u → H1 b = some u := fun b u nb hb => e1 b u (fun z => by cases z) (e0 b u nb hb)
    match xs, hd with
    | [v1, v2], hd =>
      obtain ⟨dx, fs0, hx, hl0, S', k0, k1'⟩ := ai_put oc hf (S.kp e1 dk_none) hsx hn e1' h0 hsd hl hno (hd.2 0 _ _ rfl rfl)
      have hz : 0 < ds.length := by
        cases ds with
        | nil => simp at h0
        | cons _ _ => exact Nat.succ_pos _
      have hd2 := (hd.2 1 _ _ rfl rfl).tm (tm_ne hx k1') n2
      obtain ⟨dx2, fs2, hx2, hl02, S2, k02, k12⟩ := ai_put oc hf2 S' hsx hn.set0 k0 (List.getElem?_set_self hz) hsd2 hl2 hno2 hd2
      rw [List.set_set] at S2
      exact ⟨a, _, rfl, hsq, rfl, v1, _, rfl, we_self hsx ⟨x, C, dx, fs0, rfl, hx, oc.cl, oc.na f hf, hl0, v2, _, rfl, we_self hsx ⟨x, C, dx2, fs2, rfl, hx2, oc.cl, oc.na f2 hf2, hl02, rfl, hr _ _ S2 hsx hn.set0 ⟨ns2, os2, List.getElem?_set_self hz⟩ k02⟩ hN hv (by assumption) hcd⟩ hN hv (by assumption) hcd⟩))
def NXI (X : Cx) (x C : Addr) (H0 : Hp) (J : List (Option Dat) → Prop) : L2.St → Hp → Prop := fun st' H' => ∃ es, J es ∧ Sat X.K [] st' H' es ∧ st'[0]? = some (some (.ref x)) ∧ NoLs es ∧ (∃ ns os, es[0]? = some (some (.obj C ns os))) ∧ (∀ b u, b ≠ x → H0 b = some u → H' b = some u)
theorem ai_end {J : List (Option Dat) → Prop} (hD : D.nx = NXI X x C H0 J) (j : J ds) : AI X x C [] D ds H0 := fun st H S hsx hn ho e0 => wb pss_nil (show D.nx st H by rw [hD]; exact ⟨ds, j, S, hsx, hn, ho, e0⟩)
theorem ai_while {W : Nat → List (Option Dat) → Prop} (hp : PassesOwn (model X.prog X.w) X.A X.env X.xe) (m : Nat) (h0 : W m ds)
    (hs : ∀ m es, W m es → EvT X [] c es [] fun b _ => bc b (AI X x C body { D with nx := NXI X x C H0 (fun es => ∃ m', m' < m ∧ W m' es), ct := NXI X x C H0 (fun es => ∃ m', m' < m ∧ W m' es), bk := fun _ _ => False } es H0) (AI X x C rest D es H0)) :
    AI X x C (.While c body [] pos :: rest) D ds H0 := fun st H S hsx hn ho e0 =>
  wb_cons (wss (ps_while hp pt_w pss_w) (by
    refine ⟨fun m st H => ∃ es, W m es ∧ Sat X.K [] st H es ∧ st[0]? = some (some (.ref x)) ∧ NoLs es ∧ (∃ ns os, es[0]? = some (some (.obj C ns os))) ∧ (∀ b u, b ≠ x → H0 b = some u → H b = some u), ⟨m, ds, h0, S, hsx, hn, ho, e0⟩, ?_⟩
    rintro m st H ⟨es, w, S, hsx, hn, ho, e0⟩
    refine hs m es w st H _ S dk_none fun b q1 H1 hb e1 hk1 => ?_
    have e1' : ∀ b u, b ≠ x → H0 b = some u → H1 b = some u := fun b u nb hb => e1 b u (fun z => by cases z) (e0 b u nb hb)
    cases b with
    | true =>
      rw [if_pos rfl]
      refine ⟨NXI X x C H0 (fun es => ∃ m', m' < m ∧ W m' es), ?_, ?_⟩
      · rintro st' H' ⟨es', ⟨m', l, w'⟩, r⟩
        exact ⟨m', l, es', w', r⟩
      · refine fun pins s I => thn (hb st H1 (S.kp e1 dk_none) hsx hn ho e1' pins s I) fun f s' hf => ?_
        cases f with
        | next => exact hf
        | cont => exact hf
        | ret u => exact hf
        | brk =>
          obtain ⟨_, _, _, hz⟩ := hf
          exact hz.elim
    | false =>
      rw [if_neg Bool.false_ne_true]
      exact hb st H1 (S.kp e1 dk_none) hsx hn ho e1'))
end
section
variable {P : Program} {w : World} {K : PySem.W.Frag} {mg : Str → Option Value} {base : Heap} {f : Addr} {fd : FuncData} {N ps : List Str} {k : Nat}
theorem fn_I {x qual : Str} {st : Stmt} {F : FI} {C : Addr} (Fn : Fun K x qual st f fd) (Sc : FnScope N ps (defScope st)) (len : ∀ ds G, F ds G → ds.length + 1 = ps.length)
    (hb : ∀ (cdv : Value) (A : Around) (outer : List Env) (s : Shared) (H : Hp) (Q : VK) (E : XK) (sx : Addr) (ds : List Dat) (G : List Str → List Dat → Prop), Room k (A.deeper (envOfC qual (defScope st) s.heap.objs.size f cdv)) → F ds G → (∀ ns os, G ns os → ∀ H', (∀ b u, b ≠ sx → H b = some u → H' b = some u) → DV K [] H' (.ref sx) (.obj C ns os) → Q .non H') →
      AI (cxOf CX0 P w K mg base N qual (defScope st) f cdv A outer s H E).nox sx C (defBody st) { nx := fun _ H' => Q .non H', rt := Q } ((Dat.obj C [] [] :: ds).map some ++ List.replicate (N.length - (ds.length + 1)) none) H) : FnOk P w K mg base CX0 (k + 1) f fd ps (spI K C F) := by
  refine Fn.ok Sc (fun vs H Q E h => ?_) (fun cdv A outer s H vs Q E hr h => ⟨_, pss_w, ?_⟩)
  · obtain ⟨x, dx, ws, ds, G, rfl, h0, h1, h2, h3, _⟩ := h
    show ws.length + 1 = ps.length
    rw [h1.1]
    exact len ds G h3
  · obtain ⟨x, dx, ws, ds, G, rfl, h0, h1, h2, h3, q⟩ := h
    have hN : ps.length ≤ N.length := by
      have e := congrArg List.length Sc.pre
      rw [List.length_take] at e
      omega
    have hl := len ds G h3
    have hself : DT K [] H (.ref x) (.obj C [] []) := .v (.obj (dx := dx) (xs := []) (by exact h0) (fun z => by cases z) rfl rfl (fun i v d a _ => by simp at a))
    refine hb cdv A outer s H Q E x ds G hr h3 q _ H (sat_start (DTs.cons hself h1) ?_) rfl (fun i d e hi => ?_) ⟨[], [], rfl⟩ (fun b u _ hb => hb)
    · show N.length = (ds.length + 1) + _
      omega
    · rw [List.map_cons, List.cons_append] at e
      cases i with
      | zero => exact (hi rfl).elim
      | succ i =>
        rw [List.getElem?_cons_succ] at e
        by_cases hi2 : i < ds.length
        · rw [List.getElem?_append_left (by rw [List.length_map]; exact hi2), List.getElem?_map] at e
          cases hd : ds[i]? with
          | none => rw [hd] at e; cases e
          | some d0 =>
            rw [hd] at e
            cases e
            exact noLs_all h2 hd
        · rw [List.getElem?_append_right (by rw [List.length_map]; omega), List.getElem?_replicate] at e
          split at e <;> cases e
end
end Wz

set_option Elab.async false
set_option linter.all false
set_option maxRecDepth 100000
set_option maxHeartbeats 4000000
/-! Lz13: cell[j] += e, for a, b in xs, list(xs), xs.index(i), is not None, max of a list, a comprehension over a tuple with an if, isinstance of three, a module's dict of any data. -/
namespace Wz
open PySem PySem.Spec PyProof.Rows L2 Evl
section
variable {X : Cx} {o0 o : Os} {ds : List (Option Dat)} {k k1 k2 : Cs} {e c a b elt e1 e2 e3 : Expr} {es : List Expr} {d : Dat} {as : List Dat} {pos pos' pos2 apos cpos p p1 p2 p3 : Pos} {rest body orelse : List Stmt} {D : Ends} {H0 : Hp} {R : Dat → Cs → Prop} {RT : Bool → Cs → Prop} {RN : List Dat → Cs → Prop} {x : Str} {scope : Scope} {j : Nat}
def rGetL : V → V → Hp → VK → Prop := fun x y H Q => ∃ p xs z, ∃ j : Nat, x = .ref p ∧ y = .int (j : Int) ∧ H p = some (.lst xs) ∧ xs[j]? = some z ∧ Q z H
theorem get_list : PGet X rGetL := by
  intro pins s σ H x y ov iv Q I rx ry h
  obtain ⟨p, xs, z, j, rfl, rfl, hp, hz, q⟩ := h
  cases rx
  obtain ⟨t, rfl⟩ := ry
  obtain ⟨its, n, rv, ho, hl⟩ := I.lst hp
  obtain ⟨u, hu, ru⟩ := rv.get hz
  have hj : j < xs.length := (List.getElem?_eq_some_iff.mp hz).1
  have hn := line63
  refine wpAny_getItem_list (items := its.toArray) ⟨_, ho, rfl, n, rfl⟩ (by omega) (by omega) (by rw [Int.toNat_natCast]; simpa using hu) ⟨z, H, I, ru, q⟩
/-- cell[j] += e -/
theorem as_aug {eo ei : Expr} {tpos : Pos} (h : EvC X o eo ds k fun dc k1 => EvC X o ei ds k1 fun di k2 => ∃ (i j : Nat) (s : List Dat) (u : Int), dc = .cel i ∧ di = .int (j : Int) ∧ k2[i]? = some s ∧ s[j]? = some (.int u) ∧ EvC X o e ds k2 fun d k3 => k3[i]? = some s ∧ onI d fun v => AS X o0 o rest D ds (k3.set i (s.set j (.int (u + v)))) H0)
    (hag : ∀ ov iv new, augStore ei ov iv new = (do holding [new, ov, iv] (setItem ov iv new); release [new, ov, iv] []; pure .next) := by intros; rfl) :
    AS X o0 o (.AugAssign (.Subscript eo ei tpos) .Add e pos :: rest) D ds k H0 := fun st H S hk e0 fr =>
  wb_cons (wss (ps_augS pe_w pe_w get_list pe_w ip_add set_list hag) (h st H _ S hk fun dc k1 u H1 hr e1 hk1 h1 => hr st H1 _ (S.kp e1 hk) hk1 fun di k2 w H2 hr e2 hk2 h2 => by
    obtain ⟨i, j, s, n, rfl, rfl, hs, hsj, hr⟩ := hr
    obtain ⟨a, rfl, ha⟩ := (h1.kp e2 hk1).uncel
    have hw := h2.unint
    subst hw
    obtain ⟨xs, hx, hd⟩ := hk2.at_ i a s ha hs
    obtain ⟨z, hz, hdz⟩ := hd.at hsj
    have S2 := (S.kp e1 hk).kp e2 hk1
    refine ⟨a, xs, z, j, rfl, rfl, hx, hz, hr st H2 _ S2 hk2 fun d k3 v H3 hr e3 hk3 h3 => ?_⟩
    obtain ⟨hs3, hr⟩ := hr
    obtain ⟨m, rfl, hr⟩ := onI_ex hr
    have hv := h3.unint
    subst hv
    cases hdz
    refine ⟨n, m, rfl, rfl, ?_⟩
    obtain ⟨xs3, hx3, hd3⟩ := hk3.at_ i a s ha hs3
    have hlx : j < xs3.length := by rw [hd3.1]; exact (List.getElem?_eq_some_iff.mp hsj).1
    have hls : j < s.length := (List.getElem?_eq_some_iff.mp hsj).1
    have hdv : DVs X.K o H3 (xs3.set j (.int (n + m))) (s.set j (.int (n + m))) := by
      refine ⟨by rw [List.length_set, List.length_set]; exact hd3.1, fun l y z ga gb => ?_⟩
      by_cases q : j = l
      · subst q
        rw [List.getElem?_set_self hlx] at ga
        rw [List.getElem?_set_self hls] at gb
        cases ga
        cases gb
        exact .int _
      · rw [List.getElem?_set_ne q] at ga gb
        exact hd3.2 l y z ga gb
    have nl : (s.set j (.int (n + m))).all noL = true := List.all_eq_true.mpr fun z hz => by
      rcases List.mem_or_eq_of_mem_set hz with hz | rfl
      · exact List.all_eq_true.mp (hk3.nl s (List.mem_of_getElem? hs3)) z hz
      · rfl
    obtain ⟨hk4, e4⟩ := dk_set hk3 ha hdv nl
    exact ⟨a, xs3, (j : Int), j, rfl, rfl, hx3, ixN_nat hlx, hr st _ ((S2.kp e3 hk2).kp e4 hk3) hk4 (fr.kp (fr.kp (fr.kp (fr.kp e0 e1) e2) e3) e4) fr⟩))
/-- for a, b in xs, xs a list that is no cell -/
theorem as_forL2 {i i2 : Nat} {y : Str} {px py pt : Pos} {kt : Nat} (hN : X.N.Nodup) (hcalm : X.calm = true) (hp : PassesOwn (model X.prog X.w) X.A X.env X.xe)
    (h : EvC X o e ds k fun d k1 => onL0 d fun as => ∃ (W : Nat → List (Option Dat) → Cs → Prop) (B : List (Option Dat) → Cs → Prop) (f g : Dat → Dat), W 0 ds k1 ∧ (∀ z ∈ as, z = .tup [f z, g z]) ∧ ForW X o0 o H0 body rest D as.length (fun j => as[j]?) (fun d es => (es.set i (some (f d))).set i2 (some (g d))) W B)
    (hi : X.N[i]? = some x := by rfl) (hj : X.N[i2]? = some y := by rfl) (hx : Loc X.env.scope x := by exact Or.inl rfl) (hy : Loc X.env.scope y := by exact Or.inl rfl) (hfx : X.fn x = true ∨ X.env.scope.names.lookup x = some .local := by exact .inl rfl) (hfy : X.fn y = true ∨ X.env.scope.names.lookup y = some .local := by exact .inl rfl) (hset : ∀ y, foldedSetIterable e X.env y = pure y := by intro _; rfl) :
    AS X o0 o (.For (.Tuple [.Name x px, .Name y py] kt pt) e body [] pos :: rest) D ds k H0 := fun st H S hk e0 fr =>
  wb_cons (wss (ps_for hp hcalm (pi_list pe_w) (pg_tup hcalm (pgs_cons (pg_name hN hi hx hfx) (pgs_cons (pg_name hN hj hy hfy) pgs_nil))) pss_w hset) (h st H _ S hk fun d k1 v H1 hr e1 hk1 h1 => by
    obtain ⟨as, rfl, W, B, f, g, h0, hfg, F⟩ := onL0_ex hr
    obtain ⟨t, xs, rfl, hs, hd⟩ := h1.unlst
    have e01 := fr.kp e0 e1
    refine ⟨t, rfl, ⟨xs, hs.sq⟩, for_list (xs := xs) (fun j => NX X o o H1 (W j)) ⟨ds, k1, h0, S.kp e1 hk, hk1, Kp.refl _ _, frs_self⟩ (fun _ _ H' _ ⟨_, _, _, _, _, e', _⟩ => (hs.kp e' fun _ z => z).sq) ?_ ?_⟩
    · rintro j y st' H' hy ⟨es, q, w, S', hk', e', fr'⟩
      have hj : j < as.length := by
        rw [← hd.1]
        exact (List.getElem?_eq_some_iff.mp hy).1
      have hda : as[j]? = some as[j] := List.getElem?_eq_getElem hj
      have hyd := (hd.2 j y _ hy hda).kp e' hk1
      have hz := hfg _ (List.getElem_mem hj)
      rw [hz] at hyd
      obtain ⟨tp, ys, rfl, hsq, hdy⟩ := hyd.untup
      match ys, hdy with
      | [y1, y2], hdy =>
        refine ⟨tp, _, rfl, hsq, rfl, y1, _, rfl, y2, _, rfl, rfl, ?_⟩
        exact for_bk e01 fr F.brk (F.turn H1 e01 fr j _ es q hj hda w _ H' ((S'.set (.v (hdy.2 0 _ _ rfl rfl))).set (.v (hdy.2 1 _ _ rfl rfl))) hk' e' fr')
    · rintro st' H' ⟨es, q, w, S', hk', e', fr'⟩
      exact F.done es q (by rw [hd.1] at w; exact w) st' H' S' hk' (fr.kp e01 e') fr))
/-- list(xs) -/
theorem n_list (hm : X.mg "list" = none) (h : EvA X o [e] ds k fun as k1 => on1 as fun d => onL k1 d fun xs => xs.length ≤ 10000 ∧ RN xs k1) (hg : Gl X "list" := by rfl) (he : starEach [e] X.env = (false, eval e X.env) :: starEach [] X.env := by rfl) (hpl : (backTo pos (starEach [] X.env)).any (·.1) = false := by rfl) : EvN X o (.Call (.Name "list" p) [e] [] pos) ds k RN := fun st H Q St hk q =>
  we (pe_callTy call_list_of hg hm (by decide +kernel) pa_w (by decide) (by decide) he hpl) (h st H _ St hk fun as k1 vs H1 hr e1 hk1 h1 => by
    obtain ⟨d, rfl, hr⟩ := on1_ex hr
    obtain ⟨v, rfl, g1⟩ := dts1 h1
    obtain ⟨pp, ys, xs, rfl, hs, hd, hl, hr⟩ := onL_ex hk1 hr g1
    refine ⟨pp, ys, rfl, .inl hs, fun l nl => ?_⟩
    have e2 := Kp.of_ex (o := o) (Ex.new (o := .lst ys) nl)
    exact q xs k1 l ys _ hr (fresh_back e1 hk1 nl) (e1.trans e2) (hk1.ex (Ex.new nl)) upd_same (hd.kp e2 hk1))
theorem ints_inj : ∀ {is js : List Int}, is.map Dat.int = js.map Dat.int → is = js
  | [], [], _ => rfl
  | [], _ :: _, h => by simp at h
  | _ :: _, [], h => by simp at h
  | i :: is, j :: js, h => by
    rw [List.map_cons, List.map_cons] at h
    injection h with h1 h2
    injection h1 with h1
    rw [h1, ints_inj h2]
/-- xs.index(i), ints -/
theorem flat_ints (is : List Int) : (is.map V.int).all flatV = true := by
  rw [List.all_map]
  exact List.all_eq_true.mpr fun _ _ => rfl
theorem c_index {eo : Expr} (h : EvC X o eo ds k fun dc k1 => (∃ is : List Int, dc = .lst (is.map Dat.int)) ∧ EvA X o [e1] ds k1 fun as k2 => on1 as fun d => onI d fun i => ∃ (is : List Int) (j : Nat), dc = .lst (is.map Dat.int) ∧ is[j]? = some i ∧ i ∉ is.take j ∧ R (.int (j : Int)) k2)
    (hbase : attributeBase eo "index" X.env (eval eo X.env) = eval eo X.env := by rfl)
    (hfew : ((backTo cpos (starEach [e1] X.env)).all (fun x => !x.1) && (backToKw cpos (keywordEach [] X.env)).all (fun x => x.1.isSome) && decide ([e1].length + ([] : List Keyword).length + (if ([] : List Keyword).isEmpty then 0 else 1) < 30)) = true := by rfl)
    (hline : (apos.endLine == cpos.line) = true := by rfl) (hs : starEach [e1] X.env = (false, eval e1 X.env) :: starEach [] X.env := by rfl) (hplain : (backTo cpos (starEach [] X.env)).any (·.1) = false := by rfl) : EvC X o (.Call (.Attribute eo "index" apos) [e1] [] cpos) ds k R := fun st H Q S hk q =>
  we (pe_bm PySem.F.plainAttrs_list PySem.F.slot_list_index PySem.F.type_list_index mt_index pe_w pa_w hbase hfew hline hs hplain) (h st H _ S hk fun dc k1 v H1 hx e1 hk1 h1 => by
    obtain ⟨⟨is0, rfl⟩, hx⟩ := hx
    obtain ⟨a, xs, rfl, hsq, hd⟩ := h1.unlst
    refine ⟨?_, hx st H1 _ (S.kp e1 hk) hk1 fun as k2 vs H2 hr e2 hk2 h2 => ?_⟩
    · exact .inl ⟨rfl, xs, hsq.sq⟩
    obtain ⟨d, rfl, hr⟩ := on1_ex hr
    obtain ⟨i, rfl, is, j, he, hj, hnj, hr⟩ := onI_ex hr
    obtain ⟨w, rfl, g⟩ := dts1 h2
    have hw := g.unint
    subst hw
    have e1' := vints hd
    subst e1'
    have hei : is0 = is := by
      have : is0.map Dat.int = is.map Dat.int := by injection he
      exact ints_inj this
    subst hei
    have hfl : flatV (V.int i) = true := rfl
    refine ⟨a, _, .int i, j, .int i, rfl, rfl, (hsq.kp e2 (fun _ z => z)).sq, hfl, flat_ints _, by rw [List.getElem?_map, hj]; rfl, by simp [eqV], fun m z' hm hz' => ?_, q _ k2 _ H2 hr (e1.trans e2) hk2 (.v (.int _))⟩
    rw [List.getElem?_map] at hz'
    cases hq : is0[m]? with
    | none => rw [hq] at hz'; cases hz'
    | some n =>
      rw [hq] at hz'
      cases hz'
      have : n ≠ i := fun z => hnj (by
        rw [List.mem_iff_getElem?]
        exact ⟨m, by rw [List.getElem?_take, if_pos hm, hq, z]⟩)
      simp [eqV]
      exact this)
/-- is not None -/
theorem c_notN {j pos'} (h : EvC X o a ds k fun x k1 => match isN x with | some b => R (.bl (!b)) k1 | none => False) : EvC X o (.Compare a [.IsNot] [.Constant .none j pos'] pos) ds k R := fun st H Q S hk q =>
  we (pe_cmpR op_notN pe_w pe_non (nobehind _ (by decide) (by decide))) (h st H _ S hk fun x k1 v H1 hx e1 hk1 h1 => by
    cases hb : isN x with
    | none => simp only [hb] at hx
    | some b =>
      simp only [hb] at hx
      refine ⟨rfl, ?_⟩
      rw [isN_is hb h1]
      exact q _ k1 _ H1 hx e1 hk1 (.v (.bl _)))
theorem t_notN {j pos'} (h : EvC X o a ds k fun x k1 => match isN x with | some b => RT (!b) k1 | none => False) : EvT X o (.Compare a [.IsNot] [.Constant .none j pos'] pos) ds k RT := fun st H Q S hk q =>
  wt (pt_cmpR op_notN pe_w pe_non (nobehind _ (by decide) (by decide))) (h st H _ S hk fun x k1 v H1 hx e1 hk1 h1 => by
    cases hb : isN x with
    | none => simp only [hb] at hx
    | some b =>
      simp only [hb] at hx
      refine ⟨rfl, ?_⟩
      rw [isN_is hb h1]
      exact ⟨_, rfl, q _ k1 H1 hx e1 hk1⟩)
/-- max(xs), ints -/
theorem c_maxL (hc : X.calm = true) (hm : X.mg "max" = none) (h : EvA X o [e] ds k fun as k1 => on1 as fun d => onL k1 d fun xs => ∃ ns : List Int, xs = ns.map Dat.int ∧ 0 < ns.length ∧ ∀ m, m ∈ ns → (∀ y, y ∈ ns → y ≤ m) → R (.int m) k1) (hg : Gl X "max" := by rfl) (he : starEach [e] X.env = (false, eval e X.env) :: starEach [] X.env := by rfl) : EvC X o (.Call (.Name "max" p) [e] [] pos) ds k R :=
  c_bif (cr_max hc) hm (by decide +kernel) (h.mono fun as k1 ha vs H Q h1 hk q => by
    obtain ⟨d, rfl, ha⟩ := on1_ex ha
    obtain ⟨v, rfl, g1⟩ := dts1 h1
    obtain ⟨p, ys, xs, rfl, hs, hl, ns, rfl, hne, ha⟩ := onL_ex hk ha g1
    have e := vints hl
    subst e
    exact ⟨p, ns, rfl, hs, hne, fun m h1 h2 => q _ _ H (ha m h1 h2) (Ex.refl _) (.v (.int _))⟩) hg (by decide) (by decide) he
/-- [elt for x in t if c], t a tuple -/
theorem n_lcTc (hcalm : X.calm = true) (hN : X.N.Nodup) (hok : BlkOk X.N X.env.scope scope [(x, j)]) (hgn : ∀ s H C cl fp, PG (BX X scope s H C cl fp) (.Name x p1) (gName j))
    (h : EvC X o a ds k fun d k1 => onT d fun as => as.length ≤ 10000 ∧ ∃ W, W 0 [] k1 ∧ LcC X o scope c elt ds as.length (fun i => as[i]?) (fun d es => es.set j (some d)) W ∧ ∀ acc q, W as.length acc q → acc.all noL = true → RN acc q)
    (hset : ∀ y, foldedSetIterable a X.env y = pure y := by intro _; rfl) :
    EvN X o (.ListComp elt [⟨.Name x p1, a, [c], 0⟩] scope pos) ds k RN := fun st H Q S hk q =>
  we (pe_lc (own := [(x, j)]) (g := gName j) (tt := bT X scope c) (te := bE X scope elt) hcalm hN (pi_tup pe_w) hok hgn
    (fun s0 H0 C cl fp => pts_one ⟨fun pins s st H Q I h => h s0 H0 C cl fp pins s I⟩) (fun s0 H0 C cl fp => ⟨fun pins s st H Q I h => h s0 H0 C cl fp pins s I⟩) hset) (h st H _ S hk fun d k1 v H1 hr e1 hk1 h1 => by
    obtain ⟨as, rfl, hn, W, h0, L, hd⟩ := onT_ex hr
    obtain ⟨t, xs, rfl, hs, hdv⟩ := h1.untup
    refine ⟨t, rfl, ⟨xs, hs⟩, fun Dr nD => ?_⟩
    refine lc_tup (xs := xs) (g := gName j) (tt := bT X scope c) (te := bE X scope elt) (vs := [j]) (σ := st) (Qd := fun H' => Q (.ref Dr) H') (CvI X.K o H1 Dr W) (cv_start nD hk1 h0) (fun i H' _ w => kp_t w.1 hk1 hs) (fun i y H' hy w => ?_) (fun H' w => ?_)
    · have hi : i < as.length := by
        rw [← hdv.1]
        exact (List.getElem?_eq_some_iff.mp hy).1
      have hda : as[i]? = some as[i] := List.getElem?_eq_getElem hi
      exact lc_turn1 nD hk1 (S.kp e1 hk) L hn hi hda (hdv.2 i y _ hy hda) w
    · obtain ⟨w1, q', acc, vs, hW, hk', hD, hv, na, hl⟩ := w
      rw [hdv.1] at hW
      exact q acc q' Dr vs H' (hd acc q' hW na) (fresh_back e1 hk1 nD) (e1.trans w1) hk' hD hv)
/-- isinstance(e, (T1, T2, T3)) -/
theorem c_isi3 {U1 U2 U3 : String} {n1 n2 n3 : Str} {p1 p2 p3 p4 : Pos} {cx : Nat} (hm : X.mg "isinstance" = none) (hm1 : X.mg n1 = none) (hv1 : bootBuiltins n1 = some (.type U1)) (hm2 : X.mg n2 = none) (hv2 : bootBuiltins n2 = some (.type U2)) (hm3 : X.mg n3 = none) (hv3 : bootBuiltins n3 = some (.type U3))
    (h : EvC X o e1 ds k fun d k1 => ∃ T b1 b2 b3, tyN k1 d = some T ∧ kitB T U1 = some b1 ∧ kitB T U2 = some b2 ∧ kitB T U3 = some b3 ∧ R (.bl (b1 || (b2 || b3))) k1) (hg : Gl X "isinstance" := by rfl) (hg1 : Gl X n1 := by rfl) (hg2 : Gl X n2 := by rfl) (hg3 : Gl X n3 := by rfl) (hn1 : n1 ≠ "__name__" := by decide) (hn2 : n2 ≠ "__name__" := by decide) (hn3 : n3 ≠ "__name__" := by decide) (hd1 : (n1 == ("__debug__" : Str)) = false := by decide) (hd2 : (n2 == ("__debug__" : Str)) = false := by decide) (hd3 : (n3 == ("__debug__" : Str)) = false := by decide)
    (he : starEach [e1, .Tuple [.Name n1 p1, .Name n2 p2, .Name n3 p4] cx p3] X.env = (false, eval e1 X.env) :: starEach [.Tuple [.Name n1 p1, .Name n2 p2, .Name n3 p4] cx p3] X.env := by rfl)
    (hpl : (backTo pos (starEach [.Tuple [.Name n1 p1, .Name n2 p2, .Name n3 p4] cx p3] X.env)).any (·.1) = false := by rfl) : EvC X o (.Call (.Name "isinstance" p) [e1, .Tuple [.Name n1 p1, .Name n2 p2, .Name n3 p4] cx p3] [] pos) ds k R := fun st H Q St hk q =>
  we (pe_callB call_isiT hg hm (by decide +kernel) (pa_cons pe_w (pa_cons (pe_tup (pa_cons (pe_bltn hg1 hm1 hv1 (v := .ty U1) rfl hn1 hd1) (pa_cons (pe_bltn hg2 hm2 hv2 (v := .ty U2) rfl hn2 hd2) (pa_cons (pe_bltn hg3 hm3 hv3 (v := .ty U3) rfl hn3 hd3) pa_nil)))) pa_nil) he) (by decide) (by decide) he hpl) (h st H _ St hk fun d k1 v H1 hr ex hk1 h1 => by
    refine ⟨by show 3 ≤ sizeLine; decide, fun tp np => ?_⟩
    obtain ⟨T, b1, b2, b3, hT, hb1, hb2, hb3, hr⟩ := hr
    have e2 := Kp.of_ex (o := o) (Ex.new (o := .tup [.ty U1, .ty U2, .ty U3]) np)
    have hk2 := hk1.ex (Ex.new (o := .tup [.ty U1, .ty U2, .ty U3]) np)
    exact ⟨v, tp, [.ty U1, .ty U2, .ty U3], _, [.type U1, .type U2, .type U3], _, rfl, upd_same, .cons (.ty U1) (.cons (.ty U2) (.cons (.ty U3) .nil)), ty_x hk2 hT (h1.kp e2 hk1), kit3 hb1 hb2 hb3, q _ k1 _ _ hr (ex.trans e2) hk2 (.v (.bl _))⟩)
/-- a module's dict that tells some data for each kind -/
structure KDD (P : Program) (w : World) (K : PySem.W.Frag) (mg : Str → Option Value) (x : Str) (f : Int → Dat) : Prop where
  ex : ∃ (C : Addr) (es : Array DictEntry) (n : Nat), mg x = some (.ref C) ∧ K.lookup C = some ⟨.type "dict", none, .dict es n, #[]⟩ ∧ KeysOf (intKind P w) es ∧ ∀ i, (i = 2 ∨ i = 3 ∨ i = 5) → ∃ u v, findBy (intKind P w).is es i = some u ∧ RelV v u ∧ ∀ o H, DV K o H v (f i)
theorem c_kdd {f : Int → Dat} (t : KDD X.prog X.w X.K X.mg x f) (h : EvC X o b ds k fun y k1 => onI y fun i => (i = 2 ∨ i = 3 ∨ i = 5) ∧ R (f i) k1) (hg : Gl X x := by rfl) (hd : (x == ("__debug__" : Str)) = false := by decide) (hp : PlainIx b := by exact fun _ _ => rfl) : EvC X o (.Subscript (.Name x pos) b pos2) ds k R := fun st H Q S hk q => by
  obtain ⟨C, es, n, hm, hl, ks, hv⟩ := t.ex
  refine we (pe_ix ix_kdi (pe_glob hg hm (v := .ref C) rfl hd) pe_w hp) ?_
  refine h st H _ S hk fun y k1 v H2 hr e2 hk2 h2 => ?_
  obtain ⟨i, rfl, hi, hr⟩ := onI_ex hr
  have q1 := h2.unint
  subst q1
  obtain ⟨u, v, hf, hr2, hs⟩ := hv i hi
  exact ⟨C, i, es, n, u, v, rfl, rfl, hl, ks, hf, hr2, q _ k1 _ H2 hr e2 hk2 (.v (hs o H2))⟩
end
end Wz

set_option Elab.async false
set_option linter.all false
set_option maxRecDepth 100000
set_option maxHeartbeats 4000000
/-! Lz14: cell.extend([..]), cell.reverse(), cell.pop(), a << b, divmod. -/
namespace Wz
open PySem PySem.Spec PyProof.Rows L2 Evl
section
variable {X : Cx} {o0 o : Os} {ds : List (Option Dat)} {k k1 k2 : Cs} {e c a b elt e1 e2 e3 : Expr} {es : List Expr} {d : Dat} {as : List Dat} {pos pos' pos2 apos cpos p p1 p2 p3 : Pos} {rest body orelse : List Stmt} {D : Ends} {H0 : Hp} {R : Dat → Cs → Prop} {RT : Bool → Cs → Prop} {RN : List Dat → Cs → Prop} {x : Str} {scope : Scope} {j : Nat}
/-- a << b -/
theorem c_shl (h : EvC X o a ds k fun x k1 => EvC X o b ds k1 fun y k2 => onI x fun i => onI y fun j => CShl i j ∧ R (.int (i * 2 ^ j.toNat)) k2) : EvC X o (.BinOp a .LShift b pos) ds k R := c_opI op_shlW (fun _ _ _ => .v (.int _)) h
theorem all_rev {as : List Dat} (h : as.all noL = true) : as.reverse.all noL = true := List.all_eq_true.mpr fun x hx => List.all_eq_true.mp h x (List.mem_reverse.mp hx)
theorem all_dl {as : List Dat} (h : as.all noL = true) : as.dropLast.all noL = true := List.all_eq_true.mpr fun x hx => List.all_eq_true.mp h x (List.dropLast_subset _ hx)
theorem DVs.rev {K : PySem.W.Frag} {H : Hp} {vs : List V} {ds : List Dat} (h : DVs K o H vs ds) : DVs K o H vs.reverse ds.reverse := by
  refine ⟨by rw [List.length_reverse, List.length_reverse, h.1], fun i v d a b => ?_⟩
  have hi : i < vs.length := by
    have := (List.getElem?_eq_some_iff.mp a).1
    rw [List.length_reverse] at this
    exact this
  rw [List.getElem?_reverse hi] at a
  rw [List.getElem?_reverse (by rw [← h.1]; exact hi), ← h.1] at b
  exact h.2 _ v d a b
theorem DVs.dl {K : PySem.W.Frag} {H : Hp} {vs : List V} {ds : List Dat} (h : DVs K o H vs ds) : DVs K o H vs.dropLast ds.dropLast := by
  rw [List.dropLast_eq_take, List.dropLast_eq_take, ← h.1]
  exact h.take _
/-- cell.reverse() -/
theorem c_reverse {eo : Expr} (h : EvC X o eo ds k fun dc k1 => onC dc fun i => ∃ s, k1[i]? = some s ∧ R .non (k1.set i s.reverse))
    (hbase : attributeBase eo "reverse" X.env (eval eo X.env) = eval eo X.env := by rfl) (hline : (apos.endLine == cpos.line) = true := by rfl) : EvC X o (.Call (.Attribute eo "reverse" apos) [] [] cpos) ds k R := fun st H Q S hk q =>
  we (pe_bm0 PySem.F.plainAttrs_list PySem.F.slot_list_reverse PySem.F.type_list_reverse mt_reverse pe_w hbase hline) (h st H _ S hk fun dc k1 v H1 hx e1 hk1 h1 => by
    obtain ⟨i, rfl, s, hs', hr⟩ := onC_ex hx
    obtain ⟨a, rfl, ha⟩ := h1.uncel
    refine ⟨cell_ty hk1 ha, ?_⟩
    obtain ⟨xs, hx', hd⟩ := hk1.at_ i a s ha hs'
    obtain ⟨hk3, e3⟩ := dk_set hk1 ha hd.rev (all_rev (hk1.nl s (List.mem_of_getElem? hs')))
    exact ⟨a, xs, rfl, rfl, hx', q _ _ _ _ hr (e1.trans e3) hk3 (.v .non)⟩)
/-- cell.pop() -/
theorem c_pop {eo : Expr} (h : EvC X o eo ds k fun dc k1 => onC dc fun i => ∃ s d, k1[i]? = some s ∧ s[s.length - 1]? = some d ∧ R d (k1.set i s.dropLast))
    (hbase : attributeBase eo "pop" X.env (eval eo X.env) = eval eo X.env := by rfl) (hline : (apos.endLine == cpos.line) = true := by rfl) : EvC X o (.Call (.Attribute eo "pop" apos) [] [] cpos) ds k R := fun st H Q S hk q =>
  we (pe_bm0 PySem.F.plainAttrs_list PySem.F.slot_list_pop PySem.F.type_list_pop mt_pop pe_w hbase hline) (h st H _ S hk fun dc k1 v H1 hx e1 hk1 h1 => by
    obtain ⟨i, rfl, s, d, hs', hd', hr⟩ := onC_ex hx
    obtain ⟨a, rfl, ha⟩ := h1.uncel
    refine ⟨cell_ty hk1 ha, ?_⟩
    obtain ⟨xs, hx', hd⟩ := hk1.at_ i a s ha hs'
    obtain ⟨y, hy, hyd⟩ := hd.at hd'
    rw [← hd.1] at hy
    have nl := hk1.nl s (List.mem_of_getElem? hs')
    obtain ⟨hk3, e3⟩ := dk_set hk1 ha hd.dl (all_dl nl)
    exact ⟨a, xs, y, rfl, rfl, hx', hy, q _ _ _ _ hr (e1.trans e3) hk3 (.v (hyd.kp e3 hk1))⟩)
/-- cell.extend([..]) -/
theorem c_extend {eo : Expr} (h : EvC X o eo ds k fun dc k1 => onC dc fun i => EvN X o e1 ds k1 fun as k2 => as.all noL = true ∧ ∃ s, k2[i]? = some s ∧ s.length + as.length ≤ 10000 ∧ R .non (k2.set i (s ++ as)))
    (hbase : attributeBase eo "extend" X.env (eval eo X.env) = eval eo X.env := by rfl)
    (hfew : ((backTo cpos (starEach [e1] X.env)).all (fun x => !x.1) && (backToKw cpos (keywordEach [] X.env)).all (fun x => x.1.isSome) && decide ([e1].length + ([] : List Keyword).length + (if ([] : List Keyword).isEmpty then 0 else 1) < 30)) = true := by rfl)
    (hline : (apos.endLine == cpos.line) = true := by rfl) (hs : starEach [e1] X.env = (false, eval e1 X.env) :: starEach [] X.env := by rfl) (hplain : (backTo cpos (starEach [] X.env)).any (·.1) = false := by rfl) : EvC X o (.Call (.Attribute eo "extend" apos) [e1] [] cpos) ds k R := fun st H Q S hk q =>
  we (pe_bm PySem.F.plainAttrs_list PySem.F.slot_list_extend PySem.F.type_list_extend mt_extend pe_w (pa_cons pe_w pa_nil hs) hbase hfew hline hs hplain) (h st H _ S hk fun dc k1 v H1 hx e1 hk1 h1 => by
    obtain ⟨i, rfl, hx⟩ := onC_ex hx
    obtain ⟨a, rfl, ha⟩ := h1.uncel
    refine ⟨cell_ty hk1 ha, hx st H1 _ (S.kp e1 hk) hk1 fun as k2 b zs H2 hr np e2 hk2 hb hz => ?_⟩
    obtain ⟨nl, s, hs', hl, hr⟩ := hr
    obtain ⟨xs, hx', hd⟩ := hk2.at_ i a s ha hs'
    obtain ⟨hk3, e3⟩ := dk_set hk2 ha (hd.append hz) (all_app (hk2.nl s (List.mem_of_getElem? hs')) nl)
    exact ⟨a, b, xs, zs, rfl, rfl, hx', hb, by rw [hd.1, hz.1]; exact Nat.le_trans hl (by decide), q _ _ _ _ hr ((e1.trans e2).trans e3) hk3 (.v .non)⟩)
end
end Wz

set_option Elab.async false
set_option linter.all false
set_option maxRecDepth 100000
set_option maxHeartbeats 4000000
/-! Lz15: sorted(xs), xs a list of pairs (int, (int, int)) of any length. -/
namespace Wz
open PySem PySem.Spec PyProof.Rows L2 Evl
abbrev I3 := Int × Int × Int
def lex3 (p q : I3) : Bool := if p.1 = q.1 then SrtO.lexB p.2 q.2 else decide (p.1 < q.1)
def lt3 (p q : I3) : Prop := p.1 < q.1 ∨ (p.1 = q.1 ∧ (p.2.1 < q.2.1 ∨ (p.2.1 = q.2.1 ∧ p.2.2 < q.2.2)))
theorem lex3_iff {p q : I3} : lex3 p q = true ↔ lt3 p q := by
  unfold lex3 lt3
  by_cases e : p.1 = q.1
  · rw [if_pos e, SrtO.lexB_iff]
    exact ⟨fun h => .inr ⟨e, h⟩, fun h => h.elim (fun z => by omega) (fun z => z.2)⟩
  · rw [if_neg e, decide_eq_true_eq]
    exact ⟨.inl, fun h => h.elim id (fun z => absurd z.1 e)⟩
theorem lex3_no {p q : I3} : lex3 p q = false ↔ ¬ lt3 p q := by
  rw [← lex3_iff]
  cases lex3 p q <;> simp
theorem swo3 {α : Type} (k : α → I3) : SrtO.Swo fun v u => lex3 (k v) (k u) := by
  refine ⟨fun x y h => ?_, fun x y z h1 h2 => ?_⟩
  · have a := lex3_iff.mp h
    refine lex3_no.mpr ?_
    unfold lt3 at *
    omega
  · have a := lex3_no.mp h1
    have b := lex3_no.mp h2
    refine lex3_no.mpr ?_
    unfold lt3 at *
    omega
/-- (i, (j, l)) -/
def IsNest (h : Heap) (v : Value) (i j l : Int) : Prop := ∃ a o t b n, v = .ref a ∧ h.get? a = some o ∧ o.cls = .type "tuple" ∧ o.data = .seq #[.int i t, .ref b] n ∧ Srt.IsPair h (.ref b) j l
theorem IsNest.keeps {h h' : Heap} {v : Value} {i j l : Int} (p : IsNest h v i j l) (k : ∀ b o, h.get? b = some o → o.cls = .type "tuple" → h'.get? b = some o) : IsNest h' v i j l := by
  obtain ⟨a, o, t, b, n, e, ho, hc, hd, hp⟩ := p
  exact ⟨a, o, t, b, n, e, k _ _ ho hc, hc, hd, hp.keeps k⟩
section
variable {prog : Program} {w : World} {A : Around} {E : Value → Shared → Prop} {s : Shared}
theorem eq_pair {b b' : Addr} {y z y' z' : Int} (hu : A.units < cLine) (h1 : Srt.IsPair s.heap (.ref b) y z) (h2 : Srt.IsPair s.heap (.ref b') y' z') : SeqAt.EqAt A s (.ref b) (.ref b') (decide (y = y' ∧ z = z')) := by
  obtain ⟨a, o, t, u, n, e, ho, hc, hd⟩ := h1
  obtain ⟨a', o', t', u', n', e', ho', hc', hd'⟩ := h2
  cases e
  cases e'
  by_cases q : b = b'
  · subst q
    rw [ho] at ho'
    cases ho'
    rw [hd] at hd'
    cases hd'
    rw [decide_eq_true ⟨rfl, rfl⟩]
    exact SeqAt.EqAt.same _
  · have r := SeqAt.EqAt.of_refs q (SeqAt.RcAt.tuples (A := A) (s := s) (items := #[.int y t, .int z u]) (items2 := #[.int y' t', .int z' u']) (e := fun j => if j = 0 then y == y' else z == z') ⟨_, ho, hc, _, hd⟩ ⟨_, ho', hc', _, hd'⟩ hu (fun j h1 h2 => by
      match j, h1, h2 with
      | 0, _, _ => exact SeqAt.EqAt.int_int y t y' t'
      | 1, _, _ => exact SeqAt.EqAt.int_int z u z' u'))
    have e : ((List.range (min (#[Value.int y t, Value.int z u] : Array Value).size (#[Value.int y' t', Value.int z' u'] : Array Value).size)).all (fun j => if j = 0 then y == y' else z == z') && (#[Value.int y t, Value.int z u] : Array Value).size == (#[Value.int y' t', Value.int z' u'] : Array Value).size) = decide (y = y' ∧ z = z') := by
      show ((y == y') && ((z == z') && true) && true) = _
      rw [Bool.and_true, Bool.and_true, Bool.decide_and]
      rfl
    rw [e] at r
    exact r
theorem lt_pair {b b' : Addr} {y z y' z' : Int} {Q : Bool → Shared → Prop} (hu : A.units < cLine) (h1 : Srt.IsPair s.heap (.ref b) y z) (h2 : Srt.IsPair s.heap (.ref b') y' z') (h : Q (SrtO.lexB (y, z) (y', z')) s) : wpAny (model prog w) A (compareOp .Lt (.ref b) (.ref b')) (PySem.W.BoolBack Q) E s := by
  obtain ⟨a, o, t, u, n, e, ho, hc, hd⟩ := h1
  obtain ⟨a', o', t', u', n', e', ho', hc', hd'⟩ := h2
  cases e
  cases e'
  refine HT.lt_tupInts (ns := [y, z]) (ms := [y', z']) (items := #[.int y t, .int z u]) (items2 := #[.int y' t', .int z' u']) ⟨_, ho, hc, _, hd⟩ ⟨_, ho', hc', _, hd'⟩ (.cons y t (.cons z u .nil)) (.cons y' t' (.cons z' u' .nil)) hu ?_
  have e : HT.lexLt [y, z] [y', z'] = SrtO.lexB (y, z) (y', z') := by
    rw [HT.lexLt_cons, HT.lexLt_cons]
    unfold SrtO.lexB
    by_cases e1 : y = y'
    · rw [if_pos e1, if_pos e1]
      by_cases e2 : z = z'
      · rw [if_pos e2]
        exact (decide_eq_false (by dsimp only; omega)).symm
      · rw [if_neg e2]
    · rw [if_neg e1, if_neg e1]
  rw [e]
  exact h
theorem nest_cmp {vs : List Value} {k : Value → I3} (hu : A.units < cLine) (hp : ∀ v ∈ vs, IsNest s.heap v (k v).1 (k v).2.1 (k v).2.2) : SrtO.Cmp prog w A s (tuples' true) (fun p => p.1 ∈ vs) (SrtO.lt2 fun v u => lex3 (k v) (k u)) := by
  intro p q hm hm'
  have h1 := hp _ hm
  have h2 := hp _ hm'
  show wpAny (model prog w) A (keyLt' (tuples' true) p.1 q.1) (fun r s' => s' = s ∧ r = lex3 (k p.1) (k q.1)) (fun _ _ => False) s
  unfold lex3
  obtain ⟨a, o, t, b, n, e, ho, hc, hd, hb⟩ := h1
  obtain ⟨a', o', t', b', n', e', ho', hc', hd', hb'⟩ := h2
  generalize (k p.1) = x at *
  generalize (k q.1) = x' at *
  rw [e, e']
  refine PySem.W.kat_lt ho hd ho' hd' ?_
  show PySem.W.KatLex prog w A true (decide (2 < 2)) _ [(.int x.1 t, .int x'.1 t'), (.ref b, .ref b')] 0 s
  refine PySem.W.kat_cons (SeqAt.EqAt.int_int x.1 t x'.1 t' prog w _ _ ?_)
  refine PySem.W.kat_go (fun e1 => ?_) (fun e1 => ?_)
  · have ex : x.1 = x'.1 := by simpa using e1
    refine PySem.W.kat_yes (PySem.W.kat_cons (eq_pair hu hb hb' prog w _ _ ?_))
    refine PySem.W.kat_go (fun e2 => ?_) (fun e2 => ?_)
    · have ey := of_decide_eq_true e2
      have e3 : (if x.1 = x'.1 then SrtO.lexB x.2 x'.2 else decide (x.1 < x'.1)) = false := by
        rw [if_pos ex]
        refine SrtO.lexB_no.mpr ?_
        omega
      exact PySem.W.kat_yes (PySem.W.kat_nil ⟨rfl, e3.symm⟩)
    · have e3 : (if x.1 = x'.1 then SrtO.lexB x.2 x'.2 else decide (x.1 < x'.1)) = SrtO.lexB x.2 x'.2 := if_pos ex
      refine PySem.W.kat_no (PySem.W.kat_one _ _ (lt_pair hu hb hb' ?_))
      exact ⟨rfl, e3.symm⟩
  · have ex : ¬ x.1 = x'.1 := by simpa using e1
    have e3 : (if x.1 = x'.1 then SrtO.lexB x.2 x'.2 else decide (x.1 < x'.1)) = decide (x.1 < x'.1) := if_neg ex
    exact PySem.W.kat_no (oneLt_int ⟨rfl, e3.symm⟩)
theorem firstsN {h : Heap} : ∀ {vs : List Value}, (∀ v ∈ vs, ∃ i j l, IsNest h v i j l) → ∃ fs : List Value, PySem.W.KatTups h vs fs ∧ fs.length = vs.length ∧ ∀ f ∈ fs, ∃ x t, f = Value.int x t
  | [], _ => ⟨[], PySem.W.KatTups.nil, rfl, fun _ hm => by simp at hm⟩
  | v :: vs, hp => by
    obtain ⟨fs, h1, h2, h3⟩ := firstsN (vs := vs) fun v' hm => hp v' (List.mem_cons_of_mem _ hm)
    obtain ⟨i, j, l, a, o, t, b, n, e, ho, hc, hd, _⟩ := hp v (List.mem_cons_self ..)
    subst e
    refine ⟨.int i t :: fs, PySem.W.KatTups.cons ho hc hd rfl h1, by rw [List.length_cons, List.length_cons, h2], fun f hm => ?_⟩
    rcases List.mem_cons.mp hm with rfl | hm
    · exact ⟨i, t, rfl⟩
    · exact h3 f hm
theorem nests_sortable {a : Addr} {vs : List Value} {k : Value → I3} (hu : A.units < cLine) (h0 : 0 < vs.length) (hp : ∀ v ∈ vs, IsNest s.heap v (k v).1 (k v).2.1 (k v).2.2) (ha : ∀ o, s.heap.get? a = some o → o.cls ≠ .type "tuple") : SrtO.SortableO prog w A s a vs fun v u => lex3 (k v) (k u) := by
  intro h' keep
  have hp' : ∀ v ∈ vs, IsNest h' v (k v).1 (k v).2.1 (k v).2.2 := fun v hm => (hp v hm).keeps fun b o e c => keep b o (fun z => by subst z; exact ha o e c) e
  obtain ⟨fs, h1, h2, h3⟩ := firstsN fun v hm => ⟨_, _, _, hp' v hm⟩
  refine ⟨tuples' true, fun Q E hq => ?_, nest_cmp hu hp'⟩
  refine PySem.W.kat_kind (T := .type "int") h1 (by omega) (fun f hm => ?_) (by rfl) ?_
  · obtain ⟨x, t, rfl⟩ := h3 f hm
    exact PySem.W.Looks.now
  · have e : (Value.type "int" != Value.type "tuple") = true := by first | decide +kernel | rfl | decide
    rw [e]
    exact hq
theorem sorted_nests {l : Addr} {vs : List Value} {k : Value → I3} {Q : Value → Shared → Prop} (hu : A.in1.in1.units < cLine) (hl : s.heap.IsList l vs.toArray) (hz : vs.length ≤ sizeLine) (hp : ∀ v ∈ vs, IsNest s.heap v (k v).1 (k v).2.1 (k v).2.2)
    (h : ∀ (h' : Heap) (d : Addr) (out : List Value), SrtO.Srtd (fun v u => lex3 (k v) (k u)) out → SrtO.Stb (fun v u => lex3 (k v) (k u)) out vs → (∀ b o, s.heap.get? b = some o → h'.get? b = some o) → s.heap.objs.size ≤ d → (∃ n, h'.get? d = some (seqObj "list" out.toArray n)) → Q (.ref d) { s with heap := h' }) :
    wpAny (model prog w) A (call (.builtin "sorted") [.ref l]) Q E s := by
  refine SrtO.sorted_ord (swo3 k) hl hz (fun h2 h₁ a ha kk => ?_) fun out hs hb => ?_
  · refine nests_sortable (s := { s with heap := h₁ }) hu (by omega) (fun v hm => (hp v hm).keeps fun b o e _ => (kk b o e).2) fun o e => ?_
    have e' : some o = some (seqObj "list" vs.toArray 0) := e.symm.trans ha
    cases e'
    intro c
    exact absurd (Value.type.inj c) (by decide)
  · exact h _ _ out hs hb (fun b o e => sortedAll_old e) (Nat.le_succ _) (sortedAll_at s.heap vs out.toArray)
end
abbrev lt3V (k : V → I3) (x y : V) : Bool := lex3 (k x) (k y)
def rSortedN (K : PySem.W.Frag) : List V → Hp → VK → Prop := fun vs H Q => ∃ (a : Addr) (xs : List V) (k : V → I3), vs = [V.ref a] ∧ SqL K H a xs ∧ (∀ x ∈ xs, ∃ t b, x = V.ref t ∧ SqT K H t [.int (k x).1, .ref b] ∧ SqT K H b [.int (k x).2.1, .int (k x).2.2]) ∧
  ∀ ys p, SrtO.Srtd (lt3V k) ys → SrtO.Stb (lt3V k) ys xs → H p = none → Q (.ref p) (upd H p (.lst ys))
section
variable {X : Cx}
theorem cr_sortedN (hu : X.A.units + 64 < cLine) : CallR X (.builtin "sorted") (rSortedN X.K) := by
  intro pins s σ H vs us Q I r h
  obtain ⟨a, xs, k, rfl, hs, hx, q⟩ := h
  obtain ⟨its, rv, hl, hz⟩ := I.list hs
  obtain ⟨u, rfl, ru⟩ := vals1 r
  obtain rfl : u = Value.ref a := ru
  obtain ⟨e1, e2⟩ := refs_back rv fun x m => by
    obtain ⟨t, b, e, _⟩ := hx x m
    exact ⟨t, e⟩
  refine sorted_nests (k := fun u => k (backV u)) ?_ hl.isList (by rw [← rv.length]; exact hz) (fun v hv => ?_) fun h' d out h1 h2 kp hd hn => ?_
  · show X.A.units + 1 + 1 < cLine
    omega
  · obtain ⟨t, rfl⟩ := e2 v hv
    have hm : V.ref t ∈ xs := by rw [e1]; exact List.mem_map.mpr ⟨_, hv, rfl⟩
    obtain ⟨t', b, e, ht, hb⟩ := hx _ hm
    cases e
    obtain ⟨i1, r1, ⟨o1, ho1, hc1, n1, hd1⟩, _⟩ := I.tuple ht
    obtain ⟨i2, r2, ⟨o2, ho2, hc2, n2, hd2⟩, _⟩ := I.tuple hb
    obtain ⟨u1, u2, rfl, ri, rj⟩ := vals2 r1
    obtain ⟨t1, rfl⟩ := ri
    obtain rfl : u2 = Value.ref b := rj
    obtain ⟨u3, u4, rfl, rk, rl⟩ := vals2 r2
    obtain ⟨t3, rfl⟩ := rk
    obtain ⟨t4, rfl⟩ := rl
    exact ⟨t, o1, t1, b, n1, rfl, ho1, hc1, hd1, b, o2, t3, t4, n2, rfl, ho2, hc2, hd2⟩
  · have h3 : ∀ u ∈ out, ∃ a, u = Value.ref a := fun u hu => e2 u (h2.perm.mem_iff.mp hu)
    obtain ⟨n, hn⟩ := hn
    have hb : SrtO.Stb (lt3V k) (out.map backV) xs := by
      rw [e1]
      exact SrtO.Stb.map (swo3 k) backV h2
    refine ⟨.ref d, upd H d (.lst (out.map backV)), I.laid (t' := s.toks) kp hd ⟨?_, out, n, vals_back h3, hn⟩, rfl, q _ d (SrtO.srtd_map h1) hb (I.hok.fresh hd)⟩
    rw [hb.len]
    exact hz
def N3 (K : PySem.W.Frag) (H : Hp) (x : V) (t : I3) : Prop := ∃ r b, x = .ref r ∧ SqT K H r [.int t.1, .ref b] ∧ SqT K H b [.int t.2.1, .int t.2.2]
theorem N3.one {pins : List (Addr × Obj)} {σ : L2.St} {H : Hp} {s : Shared} (I : Inv X pins σ H s) {x : V} {t t' : I3} (h : N3 X.K H x t) (g : N3 X.K H x t') : t = t' := by
  obtain ⟨r, b, rfl, h1, h2⟩ := h
  obtain ⟨r', b', e, g1, g2⟩ := g
  cases e
  have e1 := I.tuple_inj h1 g1
  injection e1 with a1 a2
  injection a2 with a2 _
  injection a1 with a1
  injection a2 with a2
  subst a2
  have e2 := I.tuple_inj h2 g2
  injection e2 with b1 b2
  injection b2 with b2 _
  injection b1 with b1
  injection b2 with b2
  exact Prod.ext a1 (Prod.ext b1 b2)
/-- the same, the keys told in a row -/
def rSortedD (K : PySem.W.Frag) : List V → Hp → VK → Prop := fun vs H Q => ∃ (a : Addr) (xs : List V) (ts : List I3), vs = [V.ref a] ∧ SqL K H a xs ∧ xs.length = ts.length ∧ (∀ (i : Nat) (x : V) (t : I3), xs[i]? = some x → ts[i]? = some t → N3 K H x t) ∧
  ∀ (k : V → I3) ys p, (∀ (i : Nat) (x : V) (t : I3), xs[i]? = some x → ts[i]? = some t → k x = t) → ys.Perm xs → ys.Pairwise (fun x y => ¬ lt3 (k y) (k x)) → H p = none → Q (.ref p) (upd H p (.lst ys))
theorem cr_sortedD (hu : X.A.units + 64 < cLine) : CallR X (.builtin "sorted") (rSortedD X.K) := by
  intro pins s σ H vs us Q I r h
  obtain ⟨a, xs, ts, rfl, hs, hl, hx, q⟩ := h
  have hk : ∃ k : V → I3, ∀ x t, N3 X.K H x t → k x = t := by
    classical
    refine ⟨fun x => if h : ∃ t, N3 X.K H x t then h.choose else (0, 0, 0), fun x t h => ?_⟩
    have he : ∃ t, N3 X.K H x t := ⟨t, h⟩
    show (if h : ∃ t, N3 X.K H x t then h.choose else (0, 0, 0)) = t
    rw [dif_pos he]
    exact he.choose_spec.one I h
  obtain ⟨k, hk⟩ := hk
  refine cr_sortedN hu pins s σ H [V.ref a] us Q I r ⟨a, xs, k, rfl, hs, fun x m => ?_, fun ys p h1 h2 np => q k ys p (fun i x t a b => hk x t (hx i x t a b)) h2.perm (h1.imp fun z => lex3_no.mp z) np⟩
  obtain ⟨i, hi⟩ := List.mem_iff_getElem?.mp m
  have hil : i < ts.length := by
    rw [← hl]
    exact (List.getElem?_eq_some_iff.mp hi).1
  have ht := List.getElem?_eq_getElem hil
  have h3 := hx i x _ hi ht
  rw [hk x _ h3]
  exact h3
end
/-- (i, (j, l)) as data -/
abbrev n3D (t : I3) : Dat := .tup [.int t.1, .tup [.int t.2.1, .int t.2.2]]
theorem n3_of {K : PySem.W.Frag} {o : Os} {H : Hp} {x : V} {t : I3} (h : DV K o H x (n3D t)) : N3 K H x t := by
  obtain ⟨r, xs, rfl, h1, h2⟩ := h.untup
  match xs, h2 with
  | [u, v], h2 =>
    have e1 := (DT.v (h2.2 0 u _ rfl rfl)).unint
    subst e1
    obtain ⟨b, ys, rfl, g1, g2⟩ := (h2.2 1 v _ rfl rfl).untup
    match ys, g2 with
    | [y, z], g2 =>
      have e2 := (DT.v (g2.2 0 y _ rfl rfl)).unint
      have e3 := (DT.v (g2.2 1 z _ rfl rfl)).unint
      subst e2 e3
      exact ⟨r, b, rfl, h1, g1⟩
section
variable {X : Cx} {o : Os} {ds : List (Option Dat)} {k : Cs} {e : Expr} {pos p : Pos} {RN : List Dat → Cs → Prop}
/-- sorted(xs), pairs (int, (int, int)) -/
theorem n_sorted3 (hu : X.A.units + 64 < cLine) (hm : X.mg "sorted" = none) (h : EvA X o [e] ds k fun as k1 => on1 as fun d => onL k1 d fun xs => ∃ ts : List I3, xs = ts.map (fun t => n3D t) ∧ ∀ ts' : List I3, ts'.Perm ts → ts'.Pairwise (fun x y => ¬ lt3 y x) → RN (ts'.map (fun t => n3D t)) k1) (hg : Gl X "sorted" := by rfl) (he : starEach [e] X.env = (false, eval e X.env) :: starEach [] X.env := by rfl) (hpl : (backTo pos (starEach [] X.env)).any (·.1) = false := by rfl) : EvN X o (.Call (.Name "sorted" p) [e] [] pos) ds k RN := fun st H Q St hk q =>
  we (pe_callB (cr_sortedD hu) hg hm (by decide +kernel) pa_w (by decide) (by decide) he hpl) (h st H _ St hk fun as k1 vs H1 hr e1 hk1 h1 => by
    obtain ⟨d, rfl, hr⟩ := on1_ex hr
    obtain ⟨v, rfl, g1⟩ := dts1 h1
    obtain ⟨pp, ys, xs, rfl, hs, hd, ts, rfl, hr⟩ := onL_ex hk1 hr g1
    have hlen : ys.length = ts.length := by rw [hd.1, List.length_map]
    have hat : ∀ (i : Nat) (x : V) (t : I3), ys[i]? = some x → ts[i]? = some t → DV X.K o H1 x (n3D t) := fun i x t a b => hd.2 i x _ a (by rw [List.getElem?_map, b]; rfl)
    refine ⟨pp, ys, ts, rfl, hs, hlen, fun i x t a b => n3_of (hat i x t a b), fun kf zs l hkf hp hsd nl => ?_⟩
    have e2 := Kp.of_ex (o := o) (Ex.new (o := .lst zs) nl)
    have hmap : ys.map kf = ts := by
      refine List.ext_getElem? fun i => ?_
      rw [List.getElem?_map]
      cases a : ys[i]? with
      | none =>
        have : ts[i]? = none := by
          rw [List.getElem?_eq_none_iff] at a ⊢
          omega
        rw [this]
        rfl
      | some x =>
        have hi : i < ts.length := by
          rw [← hlen]
          exact (List.getElem?_eq_some_iff.mp a).1
        have b := List.getElem?_eq_getElem hi
        rw [b]
        exact congrArg some (hkf i x _ a b)
    have hdz : DVs X.K o H1 zs ((zs.map kf).map (fun t => n3D t)) := by
      refine ⟨by rw [List.length_map, List.length_map], fun i x d a b => ?_⟩
      rw [List.getElem?_map, List.getElem?_map, a] at b
      cases b
      obtain ⟨j, hj⟩ := List.mem_iff_getElem?.mp (hp.mem_iff.mp (List.mem_of_getElem? a))
      have hjl : j < ts.length := by
        rw [← hlen]
        exact (List.getElem?_eq_some_iff.mp hj).1
      have ht := List.getElem?_eq_getElem hjl
      rw [hkf j x _ hj ht]
      exact hat j x _ hj ht
    exact q _ k1 l zs _ (hr (zs.map kf) (by rw [← hmap]; exact hp.map kf) (List.pairwise_map.mpr hsd)) (fresh_back e1 hk1 nl) (e1.trans e2) (hk1.ex (Ex.new nl)) upd_same (hdz.kp e2 hk1))
end
end Wz

set_option Elab.async false
set_option linter.all false
set_option maxRecDepth 100000
set_option maxHeartbeats 4000000
/-! Lz16: [elt for a, b in xs], xs a list of pairs. -/
namespace Wz
open PySem PySem.Spec PyProof.Rows L2 Evl
section
variable {X : Cx} {o0 o : Os} {ds : List (Option Dat)} {k k1 k2 : Cs} {e c a b elt e1 e2 : Expr} {pos p1 p2 p3 : Pos} {RN : List Dat → Cs → Prop} {x : Str} {scope : Scope}
theorem lc_turnP {i j l n : Nat} {it : Nat → Option Dat} {f g : Dat → Dat} {W : Nat → List Dat → Cs → Prop} {H1 H' : Hp} {Dr : Addr} {st : L2.St} {y : V} {d : Dat} (hij : i ≠ j) (n1 : H1 Dr = none) (hk1 : DK X.K o k1 H1) (S1 : Sat X.K o st H1 ds) (L : LcW X o scope elt ds n it (fun d es => (es.set i (some (f d))).set j (some (g d))) W) (hn : n ≤ 10000) (hl0 : l < n) (hd : it l = some d) (hdf : d = .tup [f d, g d]) (hy : DV X.K o H1 y d) (w : CvI X.K o H1 Dr W l H') :
    gTup X.K 2 (gCons (gName i) (gCons (gName j) gNil)) y (wipe st [i, j]) H' fun σ2 H2 => wipe σ2 [i, j] = wipe st [i, j] ∧ tYes σ2 H2 fun b H3 => if b = true then bE X scope elt σ2 H3 fun y H4 => ∃ acc, H4 Dr = some (.lst acc) ∧ acc.length < sizeLine ∧ CvI X.K o H1 Dr W (l + 1) (upd H4 Dr (.lst (acc ++ [y]))) else CvI X.K o H1 Dr W (l + 1) H3 := by
  obtain ⟨w1, q, acc, vs, hW, hk', hD, hv, na, hl⟩ := w
  have hy' := hy
  rw [hdf] at hy'
  obtain ⟨tp, ys, rfl, hsq, hdy⟩ := hy'.untup
  match ys, hdy with
  | [y1, y2], hdy =>
    have g1 := hdy.2 0 y1 _ rfl rfl
    have g2 := hdy.2 1 y2 _ rfl rfl
    have S2 : Sat X.K o ((st.set i (some y1)).set j (some y2)) H' ((ds.set i (some (f d))).set j (some (g d))) := ((S1.kp w1 hk1).set (.v (g1.kp w1 hk1))).set (.v (g2.kp w1 hk1))
    refine ⟨tp, [y1, y2], rfl, kp_t w1 hk1 hsq, rfl, y1, [y2], rfl, y2, [], rfl, rfl, ?_⟩
    rw [wipe2 hij]
    refine ⟨wipe2_back hij, ?_⟩
    simp only [tYes, if_true]
    exact fun s0 H0 C cl fp => L.turn s0 H0 C cl fp l d acc q hl0 hd hW _ _ _ S2 hk' fun z q' u H4 hr e4 hk4 hu => cv_step n1 hk1 (by omega) w1 hk' hD hv na hl e4 hk4 hu hr.1 hr.2
theorem n_lcL2 {y : Str} {i j : Nat} {kk : Nat} (hij : i ≠ j) (hcalm : X.calm = true) (hN : X.N.Nodup) (hok : BlkOk X.N X.env.scope scope [(x, i), (y, j)])
    (hgn : ∀ s H C cl fp, PG (BX X scope s H C cl fp) (.Tuple [.Name x p1, .Name y p2] kk p3) (gTup X.K 2 (gCons (gName i) (gCons (gName j) gNil))))
    (h : EvC X o a ds k fun d k1 => onL0 d fun as => as.length ≤ 10000 ∧ ∃ (W : Nat → List Dat → Cs → Prop) (f g : Dat → Dat), W 0 [] k1 ∧ (∀ z ∈ as, z = .tup [f z, g z]) ∧ LcW X o scope elt ds as.length (fun i => as[i]?) (fun d es => (es.set i (some (f d))).set j (some (g d))) W ∧ ∀ acc q, W as.length acc q → acc.all noL = true → RN acc q)
    (hset : ∀ y, foldedSetIterable a X.env y = pure y := by intro _; rfl) :
    EvN X o (.ListComp elt [⟨.Tuple [.Name x p1, .Name y p2] kk p3, a, [], 0⟩] scope pos) ds k RN := fun st H Q S hk q =>
  we (pe_lc (own := [(x, i), (y, j)]) (g := gTup X.K 2 (gCons (gName i) (gCons (gName j) gNil))) (tt := tYes) (te := bE X scope elt) hcalm hN (pi_list pe_w) hok hgn
    (fun s0 H0 C cl fp => pts_nil) (fun s0 H0 C cl fp => ⟨fun pins s st H Q I h => h s0 H0 C cl fp pins s I⟩) hset) (h st H _ S hk fun d k1 v H1 hr e1 hk1 h1 => by
    obtain ⟨as, rfl, hn, W, f, g, h0, hfg, L, hd⟩ := onL0_ex hr
    obtain ⟨t, xs, rfl, hs, hdv⟩ := h1.unlst
    refine ⟨t, rfl, ⟨xs, hs.sq⟩, fun Dr nD => ?_⟩
    refine lc_list (xs := xs) (g := gTup X.K 2 (gCons (gName i) (gCons (gName j) gNil))) (tt := tYes) (te := bE X scope elt) (vs := [i, j]) (σ := st) (Qd := fun H' => Q (.ref Dr) H') (CvI X.K o H1 Dr W) (cv_start nD hk1 h0) (fun i H' _ w => (hs.kp w.1 fun _ z => z).sq) (fun l y H' hy w => ?_) (fun H' w => ?_)
    · have hi : l < as.length := by
        rw [← hdv.1]
        exact (List.getElem?_eq_some_iff.mp hy).1
      have hda : as[l]? = some as[l] := List.getElem?_eq_getElem hi
      exact lc_turnP hij nD hk1 (S.kp e1 hk) L hn hi hda (hfg _ (List.getElem_mem hi)) (hdv.2 l y _ hy hda) w
    · obtain ⟨w1, q', acc, vs, hW, hk', hD, hv, na, hl⟩ := w
      rw [hdv.1] at hW
      exact q acc q' Dr vs H' (hd acc q' hW na) (fresh_back e1 hk1 nD) (e1.trans w1) hk' hD hv)
/-- a module's constant int -/
structure KI (mg : Str → Option Value) (x : Str) (n : Int) : Prop where
  ex : ∃ t, mg x = some (.int n t)
theorem c_ki {n : Int} {R : Dat → Cs → Prop} {pos : Pos} (t : KI X.mg x n) (hR : R (.int n) k) (hg : Gl X x := by rfl) (hd : (x == ("__debug__" : Str)) = false := by decide) : EvC X o (.Name x pos) ds k R := fun st H Q St hk q => by
  obtain ⟨t, hm⟩ := t.ex
  exact we (pe_glob hg hm (v := .int n) ⟨t, rfl⟩ hd) (q _ _ _ H hR (Kp.refl _ _) hk (.v (.int n)))
end
end Wz

set_option Elab.async false
set_option linter.all false
set_option maxRecDepth 100000
set_option maxHeartbeats 4000000
/-! Lz17: [elt for x in range(a, b)], list(range(a, b)), xs[::-1], a new list by a test, a cell that is written no more. -/
namespace Wz
open PySem PySem.Spec PyProof.Rows L2 Evl
section
variable {X : Cx} {o0 o : Os} {ds : List (Option Dat)} {k k1 k2 : Cs} {e c a b elt e1 e2 : Expr} {pos p p1 p2 p3 : Pos} {rest : List Stmt} {D : Ends} {H0 : Hp} {RN : List Dat → Cs → Prop} {x : Str} {scope : Scope} {j : Nat}
theorem dvs_map {K : PySem.W.Frag} {H : Hp} {α : Type} {f : α → V} {g : α → Dat} {L : List α} (h : ∀ x, DV K o H (f x) (g x)) : DVs K o H (L.map f) (L.map g) := by
  refine ⟨by rw [List.length_map, List.length_map], fun i v d hv hd => ?_⟩
  rw [List.getElem?_map] at hv hd
  cases hl : L[i]? with
  | none => rw [hl] at hv; cases hv
  | some y =>
    rw [hl] at hv hd
    cases hv
    cases hd
    exact h y
/-- [elt for x in range(a, b)] -/
theorem n_lcR2 (hcalm : X.calm = true) (hN : X.N.Nodup) (hm : X.mg "range" = none) (hok : BlkOk X.N X.env.scope scope [(x, j)]) (hgn : ∀ s H C cl fp, PG (BX X scope s H C cl fp) (.Name x p1) (gName j))
    (h : EvA X o [a, b] ds k fun as k1 => on2 as fun d d2 => onI d fun n => onI d2 fun m => (-(2 ^ 62) ≤ n ∧ n < 2 ^ 62 ∧ -(2 ^ 62) ≤ m ∧ m < 2 ^ 62 ∧ m - n ≤ 10000) ∧ ∃ W, W 0 [] k1 ∧ LcW X o scope elt ds (m - n).toNat (fun i => some (.int (n + (i : Int)))) (fun d es => es.set j (some d)) W ∧ ∀ acc q, W (m - n).toNat acc q → acc.all noL = true → RN acc q) (hg : Gl X "range" := by rfl) (hst : starEach [a, b] X.env = [(false, eval a X.env), (false, eval b X.env)] := by rfl) (hst2 : starEach [b] X.env = [(false, eval b X.env)] := by rfl)
    (hset : ∀ y, foldedSetIterable (.Call (.Name "range" p2) [a, b] [] p3) X.env y = pure y := by intro _; rfl) :
    EvN X o (.ListComp elt [⟨.Name x p1, .Call (.Name "range" p2) [a, b] [] p3, [], 0⟩] scope pos) ds k RN := fun st H Q S hk q =>
  we (pe_lc (own := [(x, j)]) (g := gName j) (tt := tYes) (te := bE X scope elt) hcalm hN (pi_range2 hg hm pa_w hst hst2) hok hgn
    (fun s0 H0 C cl fp => pts_nil) (fun s0 H0 C cl fp => ⟨fun pins s st H Q I h => h s0 H0 C cl fp pins s I⟩) hset) (h st H _ S hk fun as k1 vs H1 hr e1 hk1 h1 => by
    obtain ⟨d, d2, rfl, hr⟩ := on2_ex hr
    obtain ⟨n, rfl, hr⟩ := onI_ex hr
    obtain ⟨m, rfl, hn, W, h0, L, hd⟩ := onI_ex hr
    obtain ⟨u, w, rfl, g1, g2⟩ := dts2 h1
    have q1 := g1.unint
    subst q1
    have q2 := g2.unint
    subst q2
    refine ⟨n, m, rfl, ⟨hn.1, hn.2.1, hn.2.2.1, hn.2.2.2.1⟩, fun Dr nD => ?_⟩
    refine lc_range (lo := n) (n := (m - n).toNat) (g := gName j) (tt := tYes) (te := bE X scope elt) (vs := [j]) (σ := st) (Qd := fun H' => Q (.ref Dr) H') (CvI X.K o H1 Dr W) (cv_start nD hk1 h0) (fun i H' hi w => ?_) (fun H' w => ?_)
    · exact lc_turn0 nD hk1 (S.kp e1 hk) L (by omega) hi rfl (.int _) w
    · obtain ⟨w1, q', acc, vs, hW, hk', hD, hv, na, hl⟩ := w
      exact q acc q' Dr vs H' (hd acc q' hW na) (fresh_back e1 hk1 nD) (e1.trans w1) hk' hD hv)
/-- list(range(a, b)) -/
theorem n_listR2 (hcalm : X.calm = true) (hm : X.mg "list" = none) (hm2 : X.mg "range" = none) (h : EvC X o a ds k fun d k1 => EvC X o b ds k1 fun d2 k2 => onI d fun n => onI d2 fun m => (-(2 ^ 62) ≤ n ∧ n < 2 ^ 62 ∧ -(2 ^ 62) ≤ m ∧ m < 2 ^ 62 ∧ m - n ≤ 10000) ∧ RN ((List.range (m - n).toNat).map fun i : Nat => Dat.int (n + (i : Int))) k2) (hg : Gl X "list" := by rfl) (hg2 : Gl X "range" := by rfl)
    (hst : starEach [a, b] X.env = (false, eval a X.env) :: starEach [b] X.env := by rfl) (hst2 : starEach [b] X.env = (false, eval b X.env) :: starEach [] X.env := by rfl) (hpl : (backTo p3 (starEach [b] X.env)).any (·.1) = false := by rfl) (hl : starEach [.Call (.Name "range" p2) [a, b] [] p3] X.env = (false, eval (.Call (.Name "range" p2) [a, b] [] p3) X.env) :: starEach [] X.env := by rfl) : EvN X o (.Call (.Name "list" p) [.Call (.Name "range" p2) [a, b] [] p3] [] pos) ds k RN := fun st H Q S hk q =>
  we (pe_listRg hcalm hg hm (prg_2 hg2 hm2 pe_w pe_w hst hst2 hpl) hl) (h st H _ S hk fun d k1 v H1 hr e1 hk1 h1 => hr st H1 _ (S.kp e1 hk) hk1 fun d2 k2 w H2 hr e2 hk2 h2 => by
    obtain ⟨n, m, rfl, rfl, hb, hr⟩ := onII_ex hr
    have q1 := h1.unint
    subst q1
    have q2 := h2.unint
    subst q2
    refine ⟨n, m, rfl, rfl, ⟨hb.1, hb.2.1, hb.2.2.1, hb.2.2.2.1, by have := hb.2.2.2.2; omega⟩, fun p np => ?_⟩
    have e12 := e1.trans e2
    exact q _ k2 p _ _ hr (fresh_back e12 hk2 np) (e12.trans (Kp.of_ex (Ex.new np))) (hk2.ex (Ex.new np)) upd_same (dvs_map fun i => .int _))
/-- xs[::-1] -/
theorem n_rev {kk : Nat} (h : EvC X o e ds k fun d k1 => onL k1 d fun as => RN as.reverse k1) : EvN X o (.Subscript e (.Slice none none (some (.UnaryOp .USub (.Constant (.int 1) kk p1) p2)) p3) pos) ds k RN := fun st H Q S hk q =>
  we (pe_revL pe_w) (h st H _ S hk fun d k1 v H1 hr e1 hk1 h1 => by
    obtain ⟨a, xs, as, rfl, hs, hd, hr⟩ := onL_ex hk1 hr h1
    refine ⟨a, xs, rfl, hs, fun p np => ?_⟩
    exact q _ k1 p _ _ hr (fresh_back e1 hk1 np) (e1.trans (Kp.of_ex (Ex.new np))) (hk1.ex (Ex.new np)) upd_same (hd.rev.kp (Kp.of_ex (Ex.new np)) hk1))
/-- a new list if c, else another -/
theorem n_if (h : EvT X o c ds k fun x k1 => bc x (EvN X o a ds k1 RN) (EvN X o b ds k1 RN)) : EvN X o (.IfExp c a b pos) ds k RN := fun st H Q S hk q =>
  we (pe_ifExp pt_w pe_w pe_w) (h st H _ S hk fun x k1 H1 hx e1 hk1 => by
    cases x with
    | true => exact hx st H1 Q (S.kp e1 hk) hk1 fun as k2 p xs H2 hy np e2 hk2 hp hd => q as k2 p xs H2 hy (fresh_back e1 hk1 np) (e1.trans e2) hk2 hp hd
    | false => exact hx st H1 Q (S.kp e1 hk) hk1 fun as k2 p xs H2 hy np e2 hk2 hp hd => q as k2 p xs H2 hy (fresh_back e1 hk1 np) (e1.trans e2) hk2 hp hd)
/-- a slot whose cells from n on are lists -/
@[reducible] def shutC (n : Nat) (k : Cs) : Option Dat → Option Dat
  | some (.cel j) => if j < n then some (.cel j) else (k[j]?).map Dat.lst
  | x => x
theorem Sat.shut {K : PySem.W.Frag} {H : Hp} {st : L2.St} {es : List (Option Dat)} {l : Os} (h : Sat K (o ++ l) st H es) (hk : DK K (o ++ l) k H) : Sat K o st H (es.map (shutC o.length k)) := by
  refine ⟨by rw [List.length_map]; exact h.1, fun i d hd => ?_⟩
  rw [List.getElem?_map] at hd
  cases he : es[i]? with
  | none => rw [he] at hd; cases hd
  | some x =>
    rw [he] at hd
    have hd' : shutC o.length k x = some d := by simpa using hd
    cases x with
    | none => cases hd'
    | some d0 =>
      obtain ⟨v, h1, h2⟩ := h.2 i d0 he
      cases h2 with
      | v h2 =>
        have e : shutC o.length k (some d0) = some d0 := by cases h2 <;> rfl
        rw [e] at hd'
        cases hd'
        exact ⟨v, h1, .v (h2.less fun b hb => List.mem_append_left _ hb)⟩
      | cel h2 =>
        rename_i a j
        have hd2 : (if j < o.length then some (Dat.cel j) else (k[j]?).map Dat.lst) = some d := hd'
        by_cases hj : j < o.length
        · rw [if_pos hj] at hd2
          cases hd2
          rw [List.getElem?_append_left hj] at h2
          exact ⟨_, h1, .cel h2⟩
        · rw [if_neg hj] at hd2
          cases hs : k[j]? with
          | none => rw [hs] at hd2; cases hd2
          | some s =>
            rw [hs] at hd2
            cases hd2
            obtain ⟨xs, hx, hv⟩ := hk.at_ j a s h2 hs
            have na : a ∉ o := fun m => by
              rw [List.getElem?_append_right (Nat.le_of_not_lt hj)] at h2
              exact (List.nodup_append.mp hk.nd).2.2 a m a (List.mem_of_getElem? h2) rfl
            have hv2 := hv.less (o' := o) fun b hb => List.mem_append_left _ hb
            exact ⟨_, h1, .v (.lst (.inl ⟨.inl hx, na⟩) hv2.1 hv2.2)⟩
theorem as_shut {l : Os} (hf : ∃ l', o = o0 ++ l') (h : AS X o0 o rest D (ds.map (shutC o.length k)) (k.take o.length) H0) : AS X o0 (o ++ l) rest D ds k H0 := fun st H S hk e0 fr =>
  h st H (S.shut hk) (dk_take hk) e0 ⟨hf, fun b hb nb => fr.new b (List.mem_append_left _ hb) nb⟩
end
end Wz

set_option Elab.async false
set_option linter.all false
set_option maxRecDepth 100000
set_option maxHeartbeats 4000000
/-! Lz18: x, y = [..], e, where x is a new cell. -/
namespace Wz
open PySem PySem.Spec PyProof.Rows L2 Evl
section
variable {X : Cx} {o0 o : Os} {ds : List (Option Dat)} {k k1 k2 : Cs} {e : Expr} {pos : Pos} {rest : List Stmt} {D : Ends} {H0 : Hp}
theorem as_parN {i j : Nat} {x y : Str} {e1 e2 : Expr} {px py pt pt2 : Pos} {kt kt2 : Nat} (hN : X.N.Nodup) (hc : X.calm = true) (h : EvN X o e1 ds k fun as k1 => as.all noL = true ∧ ∀ p, EvC X (o ++ [p]) e2 ds (k1 ++ [as]) fun d k2 => AS X o0 (o ++ [p]) rest D ((ds.set i (some (.cel k1.length))).set j (some d)) k2 H0)
    (hi : X.N[i]? = some x := by rfl) (hj : X.N[j]? = some y := by rfl) (hij : i ≠ j := by decide) (hx : X.env.scope.names.lookup x = some .local := by rfl) (hy : X.env.scope.names.lookup y = some .local := by rfl)
    (hw : swappedStores [.Tuple [.Name x px, .Name y py] kt pt] (.Tuple [e1, e2] kt2 pt2) X.env = pure (some [x, y]) := by rfl) (hs : swapsWithSole [.Tuple [.Name x px, .Name y py] kt pt] (.Tuple [e1, e2] kt2 pt2) pos.line X.env = pure false := by rfl)
    (hst : starEach [e1, e2] X.env = (false, eval e1 X.env) :: starEach [e2] X.env := by rfl) (hst2 : starEach [e2] X.env = (false, eval e2 X.env) :: starEach [] X.env := by rfl) :
    AS X o0 o (.Assign [.Tuple [.Name x px, .Name y py] kt pt] (.Tuple [e1, e2] kt2 pt2) pos :: rest) D ds k H0 := fun st H S hk e0 fr =>
  wb_cons (wss (ps_par hc hN hi hj hij hx hy (pa_cons pe_w (pa_cons pe_w pa_nil hst2) hst) hw hs) (h st H _ S hk fun as k1 p xs H1 hr np e1 hk1 hp h1 => by
    have n1 := hk.ne np
    have hk2 := dk_plus hk1 n1 hp h1 hr.1
    have fit : ∀ (v : V) (d : Dat), DT X.K o H v d → DT X.K (o ++ [p]) H1 v d := fun v d q => by
      cases q with
      | v q => exact .v ((q.plus np).kp' e1 hk fun b hb => List.mem_append_left _ hb)
      | cel q => exact .cel (by rw [List.getElem?_append_left (List.getElem?_eq_some_iff.mp q).1]; exact q)
    have S1 : Sat X.K (o ++ [p]) st H1 ds := ⟨S.1, fun j d hd => let ⟨v, a, b⟩ := S.2 j d hd; ⟨v, a, fit v d b⟩⟩
    have fr2 : Frs o0 (o ++ [p]) H0 := by
      refine ⟨?_, fun b hb nb => ?_⟩
      · obtain ⟨l, rfl⟩ := fr.pre
        exact ⟨l ++ [p], by rw [List.append_assoc]⟩
      · rcases List.mem_append.mp hb with hb | hb
        · exact fr.new b hb nb
        · rw [List.mem_singleton] at hb
          subst hb
          cases h0 : H0 b with
          | none => rfl
          | some u =>
            have := e0 b u nb h0
            rw [np] at this
            cases this
    have hcel : (o ++ [p])[k1.length]? = some p := by
      rw [← hk1.len, List.getElem?_append_right (Nat.le_refl _), Nat.sub_self]
      rfl
    refine hr.2 p st H1 _ S1 hk2 fun d k2 v H2 hz e2 hk3 h2 => ?_
    exact ⟨.ref p, v, rfl, hz _ H2 (((S1.kp e2 hk2).set (.cel hcel)).set h2) hk3 (fr2.kp (fr.kp e0 e1) e2) fr2⟩))
end
end Wz

set_option Elab.async false
set_option linter.all false
set_option maxRecDepth 100000
set_option maxHeartbeats 4000000
/-! Lz19: ways joined, an index into a list of given numbers. -/
namespace Wz
open PySem PySem.Spec PyProof.Rows L2 Evl
section
variable {X : Cx} {o : Os} {ds : List (Option Dat)} {k : Cs} {e : Expr} {R : Dat → Cs → Prop}
/-- whichever way, J holds of it, and J is enough -/
theorem c_join {J : Dat → Cs → Prop} (h : EvC X o e ds k J) (hJ : ∀ d k', J d k' → R d k') : EvC X o e ds k R := h.mono hJ
theorem n_join {e : Expr} {RN J : List Dat → Cs → Prop} (h : EvN X o e ds k J) (hJ : ∀ d k', J d k' → RN d k') : EvN X o e ds k RN := fun st H Q S hk q => h st H Q S hk fun as k' p xs H' r => q as k' p xs H' (hJ as k' r)
end
theorem onL_mono {k : Cs} {x : Dat} {C C' : List Dat → Prop} (h : onL k x C) (w : ∀ as, C as → C' as) : onL k x C' := by
  cases x with
  | lst as => exact w as h
  | cel i =>
    cases hi : k[i]? with
    | none => simp only [onL, hi] at h
    | some as =>
      simp only [onL, hi] at h ⊢
      exact w as h
  | _ => exact h.elim
theorem at_list {α : Type} {f : α → Dat} {ns : List α} {P : α → Prop} {v : Int} {C : Dat → Prop} (h0 : 0 ≤ v) (h1 : v < (ns.length : Int)) (hP : ∀ i ∈ ns, P i) (h : ∀ i, P i → C (f i)) : onAt (ns.map f) v C := by
  have hl : v.toNat < ns.length := by omega
  exact ⟨v.toNat, f ns[v.toNat], by omega, by rw [List.getElem?_map, List.getElem?_eq_getElem hl]; rfl, h _ (hP _ (List.getElem_mem hl))⟩
end Wz

set_option Elab.async false
set_option linter.all false
set_option maxRecDepth 100000
set_option maxHeartbeats 4000000
/-! Lz20: xs[-1]. -/
namespace Wz
open PySem PySem.Spec PyProof.Rows L2 Evl
section
variable {X : Cx} {o : Os} {ds : List (Option Dat)} {k : Cs} {a : Expr} {pos : Pos} {R : Dat → Cs → Prop}
theorem c_ixLast {jj : Nat} {q1 q2 : Pos} (h : EvC X o a ds k fun x k1 => onL k1 x fun as => ∃ d, as[as.length - 1]? = some d ∧ R d k1) (hp : PlainIx (.UnaryOp .USub (.Constant (.int 1) jj q1) q2) := by exact fun _ _ => rfl) : EvC X o (.Subscript a (.UnaryOp .USub (.Constant (.int 1) jj q1) q2) pos) ds k R := fun st H Q S hk q =>
  we (pe_ix ix_list pe_w pe_w hp) (h st H _ S hk fun x k1 v H1 hx e1 hk1 h1 => (c_neg (c_int (R := fun y k2 => onI y fun i => Dat.int (-i) = .int (-1) ∧ k2 = k1) ⟨rfl, rfl⟩) : EvC X o (.UnaryOp .USub (.Constant (.int 1) jj q1) q2) ds k1 fun y k2 => y = .int (-1) ∧ k2 = k1) st H1 _ (S.kp e1 hk) hk1 fun y k2 w H2 hy e2 hk2 h2 => by
    obtain ⟨rfl, rfl⟩ := hy
    obtain ⟨p, xs, as, rfl, hs, hd, hy⟩ := onL_ex hk2 hx (h1.kp e2 hk1)
    obtain ⟨d, hj, hr⟩ := hy
    obtain ⟨u, g1, g2⟩ := hd.at hj
    have hx2 : xs.getLast? = some u := by
      rw [List.getLast?_eq_getElem?, hd.1]
      exact g1
    obtain ⟨ys, e⟩ := List.getLast?_eq_some_iff.mp hx2
    exact ⟨_, _, _, u, rfl, h2.unint, hs, by rw [e]; exact atI_last ys u, q _ k2 u H2 hr (e1.trans e2) hk2 (.v g2)⟩)
end
end Wz

set_option Elab.async false
set_option linter.all false
namespace Y29
open PySem Wz
/-! the mathematics of k29: signs, norms, units -/
theorem mod_sq (p : Int) (hp : p = 2 ∨ p = 3 ∨ p = 5) (x : Int) (h : (x * x) % p = 0) : x % p = 0 := by
  rcases hp with rfl | rfl | rfl
  · have : x % 2 = 0 ∨ x % 2 = 1 := by omega
    rcases this with q | q
    · exact q
    · rw [Int.mul_emod, q] at h; simp at h
  · have : x % 3 = 0 ∨ x % 3 = 1 ∨ x % 3 = 2 := by omega
    rcases this with q | q | q
    · exact q
    · rw [Int.mul_emod, q] at h; simp at h
    · rw [Int.mul_emod, q] at h; simp at h
  · have : x % 5 = 0 ∨ x % 5 = 1 ∨ x % 5 = 2 ∨ x % 5 = 3 ∨ x % 5 = 4 := by omega
    rcases this with q | q | q | q | q
    · exact q
    · rw [Int.mul_emod, q] at h; simp at h
    · rw [Int.mul_emod, q] at h; simp at h
    · rw [Int.mul_emod, q] at h; simp at h
    · rw [Int.mul_emod, q] at h; simp at h
theorem sq_irr (p : Int) (hp : p = 2 ∨ p = 3 ∨ p = 5) : ∀ (k : Nat) (x y : Int), y.natAbs < k → x * x = p * (y * y) → x = 0 ∧ y = 0 := by
  intro k
  induction k with
  | zero => intro x y h; omega
  | succ k ih =>
    intro x y hy h
    have hx : x % p = 0 := mod_sq p hp x (by rw [h, Int.mul_emod_right])
    obtain ⟨u, rfl⟩ := Int.dvd_of_emod_eq_zero hx
    have h2 : p * (u * u) = y * y := by
      have e : p * u * (p * u) = p * (p * (u * u)) := by grind
      rw [e] at h
      have p0 : p ≠ 0 := by omega
      exact Int.eq_of_mul_eq_mul_left p0 h
    have hy2 : y % p = 0 := mod_sq p hp y (by rw [← h2, Int.mul_emod_right])
    obtain ⟨v, rfl⟩ := Int.dvd_of_emod_eq_zero hy2
    by_cases hv : v = 0
    · subst hv
      have : u * u = 0 := by
        have e : p * (u * u) = 0 := by rw [h2]; simp
        rcases Int.mul_eq_zero.mp e with z | z
        · omega
        · exact z
      have hu : u = 0 := by rcases Int.mul_eq_zero.mp this with z | z <;> exact z
      subst hu
      simp
    · have lt : v.natAbs < k := by
        rw [Int.natAbs_mul] at hy
        have : 2 ≤ p.natAbs := by rcases hp with rfl | rfl | rfl <;> decide
        have q : 2 * v.natAbs ≤ p.natAbs * v.natAbs := Nat.mul_le_mul_right _ this
        omega
      have e : u * u = p * (v * v) := by
        have e1 : p * (u * u) = p * (p * (v * v)) := by rw [h2]; grind
        have p0 : p ≠ 0 := by omega
        exact Int.eq_of_mul_eq_mul_left p0 e1
      obtain ⟨h3, h4⟩ := ih u v lt e
      exact absurd h4 hv
def K3 (d : Int) : Prop := d = 2 ∨ d = 3 ∨ d = 5
theorem irr {d x y : Int} (hd : K3 d) (h : x * x = d * y * y) : x = 0 ∧ y = 0 := sq_irr d hd (y.natAbs + 1) x y (Nat.lt_succ_self _) (by rw [h, Int.mul_assoc])
/-- x + y times the root of d is above 0 -/
def Pq (d x y : Int) : Prop := (d * y * y < x * x ∧ 0 < x) ∨ (x * x < d * y * y ∧ 0 < y)
instance {d x y : Int} : Decidable (Pq d x y) := by unfold Pq; exact inferInstance
theorem sqn (x : Int) : 0 ≤ x * x := by
  rcases Int.le_total 0 x with h | h
  · exact Int.mul_nonneg h h
  · exact Int.mul_nonneg_of_nonpos_of_nonpos h h
theorem sqp {x : Int} (h : x ≠ 0) : 0 < x * x := by
  have := sqn x
  have : x * x ≠ 0 := fun z => h (by rcases Int.mul_eq_zero.mp z with q | q <;> exact q)
  omega
theorem dy {d y : Int} (hd : K3 d) : 0 ≤ d * y * y := by
  rw [Int.mul_assoc]
  exact Int.mul_nonneg (by rcases hd with rfl | rfl | rfl <;> decide) (sqn y)
/-- of squares -/
theorem lt_sq {a b : Int} (hb : 0 ≤ b) (h : a * a < b * b) : a < b := by
  refine Int.lt_of_not_ge fun z => ?_
  have := Int.mul_le_mul z z hb (by omega)
  omega
theorem pq_mul {d x y u v : Int} (hd : K3 d) (h : Pq d x y) (g : Pq d u v) : Pq d (x * u + d * y * v) (x * v + y * u) := by
  have d0 : 0 < d := by rcases hd with rfl | rfl | rfl <;> decide
  have en : (x * u + d * y * v) * (x * u + d * y * v) - d * (x * v + y * u) * (x * v + y * u) = (x * x - d * y * y) * (u * u - d * v * v) := by grind
  rcases h with ⟨h1, h2⟩ | ⟨h1, h2⟩
  · rcases g with ⟨g1, g2⟩ | ⟨g1, g2⟩
    · have p : 0 < (x * x - d * y * y) * (u * u - d * v * v) := Int.mul_pos (by omega) (by omega)
      refine .inl ⟨by omega, ?_⟩
      have hxu : 0 < x * u := Int.mul_pos h2 g2
      have q : (d * y * v) * (d * y * v) < (x * u) * (x * u) := by
        have e1 : (d * y * v) * (d * y * v) = (d * y * y) * (d * v * v) := by grind
        have e2 : (x * u) * (x * u) = (x * x) * (u * u) := by grind
        rw [e1, e2]
        have a1 := dy (d := d) (y := y) hd
        have a2 := dy (d := d) (y := v) hd
        have s1 : (d * y * y) * (d * v * v) ≤ (d * y * y) * (u * u) := Int.mul_le_mul_of_nonneg_left (by omega) a1
        have s2 : (d * y * y) * (u * u) < (x * x) * (u * u) := Int.mul_lt_mul_of_pos_right h1 (sqp (by omega))
        omega
      have q2 : (-(d * y * v)) * (-(d * y * v)) < (x * u) * (x * u) := by rw [Int.neg_mul_neg]; exact q
      have := lt_sq (by omega) q2
      omega
    · have p : (x * x - d * y * y) * (u * u - d * v * v) < 0 := Int.mul_neg_of_pos_of_neg (by omega) (by omega)
      refine .inr ⟨by omega, ?_⟩
      have hxv : 0 < x * v := Int.mul_pos h2 g2
      have q : (y * u) * (y * u) < (x * v) * (x * v) := by
        have e1 : d * ((y * u) * (y * u)) = (d * y * y) * (u * u) := by grind
        have e2 : d * ((x * v) * (x * v)) = (x * x) * (d * v * v) := by grind
        have s1 : (d * y * y) * (u * u) ≤ (x * x) * (u * u) := Int.mul_le_mul_of_nonneg_right (by omega) (sqn u)
        have s2 : (x * x) * (u * u) < (x * x) * (d * v * v) := Int.mul_lt_mul_of_pos_left g1 (sqp (by omega))
        refine Int.lt_of_mul_lt_mul_left (a := d) ?_ (by omega)
        rw [e1, e2]
        omega
      have q2 : (-(y * u)) * (-(y * u)) < (x * v) * (x * v) := by rw [Int.neg_mul_neg]; exact q
      have := lt_sq (by omega) q2
      omega
  · rcases g with ⟨g1, g2⟩ | ⟨g1, g2⟩
    · have p : (x * x - d * y * y) * (u * u - d * v * v) < 0 := Int.mul_neg_of_neg_of_pos (by omega) (by omega)
      refine .inr ⟨by omega, ?_⟩
      have hxv : 0 < y * u := Int.mul_pos h2 g2
      have q : (x * v) * (x * v) < (y * u) * (y * u) := by
        have e1 : d * ((y * u) * (y * u)) = (d * y * y) * (u * u) := by grind
        have e2 : d * ((x * v) * (x * v)) = (x * x) * (d * v * v) := by grind
        have s1 : (x * x) * (d * v * v) ≤ (x * x) * (u * u) := Int.mul_le_mul_of_nonneg_left (by omega) (sqn x)
        have s2 : (x * x) * (u * u) < (d * y * y) * (u * u) := Int.mul_lt_mul_of_pos_right h1 (sqp (by omega))
        refine Int.lt_of_mul_lt_mul_left (a := d) ?_ (by omega)
        rw [e1, e2]
        omega
      have q2 : (-(x * v)) * (-(x * v)) < (y * u) * (y * u) := by rw [Int.neg_mul_neg]; exact q
      have := lt_sq (by omega) q2
      omega
    · have p : 0 < (x * x - d * y * y) * (u * u - d * v * v) := Int.mul_pos_of_neg_of_neg (by omega) (by omega)
      refine .inl ⟨by omega, ?_⟩
      have hxu : 0 < d * y * v := Int.mul_pos (Int.mul_pos d0 h2) g2
      have q : (x * u) * (x * u) < (d * y * v) * (d * y * v) := by
        have e1 : (d * y * v) * (d * y * v) = (d * y * y) * (d * v * v) := by grind
        have e2 : (x * u) * (x * u) = (x * x) * (u * u) := by grind
        rw [e1, e2]
        have s1 : (x * x) * (u * u) ≤ (x * x) * (d * v * v) := Int.mul_le_mul_of_nonneg_left (by omega) (sqn x)
        have a2 : 0 < d * v * v := Int.mul_pos (Int.mul_pos d0 g2) g2
        have s2 : (x * x) * (d * v * v) < (d * y * y) * (d * v * v) := Int.mul_lt_mul_of_pos_right h1 a2
        omega
      have q2 : (-(x * u)) * (-(x * u)) < (d * y * v) * (d * y * v) := by rw [Int.neg_mul_neg]; exact q
      have := lt_sq (by omega) q2
      omega
theorem pq_two {d x y : Int} : Pq d (2 * x) (2 * y) ↔ Pq d x y := by
  unfold Pq
  have e1 : 2 * x * (2 * x) = 4 * (x * x) := by grind
  have e2 : d * (2 * y) * (2 * y) = 4 * (d * y * y) := by grind
  rw [e1, e2]
  omega
/-- the cases of the program -/
theorem pq_cases {d x y : Int} (hd : K3 d) : Pq d x y ↔ (0 ≤ x ∧ 0 ≤ y ∧ ¬ (x = 0 ∧ y = 0)) ∨ (¬ (0 ≤ x ∧ 0 ≤ y) ∧ ¬ (x ≤ 0 ∧ y ≤ 0) ∧ ((d * y * y < x * x ∧ 0 < x) ∨ (¬ d * y * y < x * x ∧ 0 < y))) := by
  have hi : x * x = d * y * y → x = 0 ∧ y = 0 := irr hd
  have hn := dy (d := d) (y := y) hd
  have hx := sqn x
  have d0 : 0 < d := by rcases hd with rfl | rfl | rfl <;> decide
  have y0 : y = 0 → d * y * y = 0 := fun e => by rw [e]; simp
  have x0 : x = 0 → x * x = 0 := fun e => by rw [e]; simp
  have hy : y ≠ 0 → 0 < d * y * y := fun e => by rw [Int.mul_assoc]; exact Int.mul_pos d0 (sqp e)
  have hx' : x ≠ 0 → 0 < x * x := sqp
  unfold Pq
  generalize d * y * y = A at *
  generalize x * x = B at *
  constructor
  · omega
  · omega
end Y29

set_option Elab.async false
set_option linter.all false
set_option maxRecDepth 100000
set_option maxHeartbeats 4000000
namespace Y02
open PySem PySem.Spec PyProof.Rows L2 Evl Wz
abbrev nD (a b n : Int) : Dat := .tup [.int a, .int b, .int n]
def g3 (a b n : Int) : Int := (((a.natAbs.gcd b.natAbs).gcd n.natAbs : Nat) : Int)
def sg (a b n : Int) : Int := if decide (n < 0) = true then -(g3 a b n) else g3 a b n
def loA (a b n : Int) : Int := a.fdiv (sg a b n)
def loB (a b n : Int) : Int := b.fdiv (sg a b n)
def loN (a b n : Int) : Int := n.fdiv (sg a b n)
abbrev loD (a b n : Int) : Dat := nD (loA a b n) (loB a b n) (loN a b n)
theorem g3_ne {a b n : Int} (h : n ≠ 0) : g3 a b n ≠ 0 := by
  have : 0 < (a.natAbs.gcd b.natAbs).gcd n.natAbs := Nat.gcd_pos_of_pos_right _ (Int.natAbs_pos.mpr h)
  unfold g3
  omega
theorem g3_bd {a b n : Int} {m : Nat} (h : n ≠ 0) (hb : Bd m n) : Bd m (g3 a b n) := by
  have h1 : (a.natAbs.gcd b.natAbs).gcd n.natAbs ≤ n.natAbs := Nat.gcd_le_right _ (Int.natAbs_pos.mpr h)
  have h2 : n.natAbs < 2 ^ m := hb
  show (g3 a b n).natAbs < 2 ^ m
  unfold g3
  rw [Int.natAbs_natCast]
  omega
theorem sg_ne {a b n : Int} (h : n ≠ 0) : sg a b n ≠ 0 := by
  have := g3_ne (a := a) (b := b) h
  unfold sg
  split <;> omega
theorem sg_bd {a b n : Int} {m : Nat} (h : n ≠ 0) (hb : Bd m n) : Bd m (sg a b n) := by
  have := g3_bd (a := a) (b := b) h hb
  unfold sg
  split
  · exact this.neg
  · exact this
def Kd (k : Int) : Prop := k = 2 ∨ k = 3 ∨ k = 5
theorem Kd.bd {k : Int} (h : Kd k) : Bd 3 k := by rcases h with rfl | rfl | rfl <;> (show Int.natAbs _ < 2 ^ 3; decide)
def ptA (k a b c d : Int) : Int := if k = 5 then a * c + b * d else a * c + k * (b * d)
def ptB (k a b c d : Int) : Int := if k = 5 then a * d + b * c + b * d else a * d + b * c
def isN (a b n : Int) : Bool := decide (1 ≤ n) && decide (g3 a b n = 1)
def Nm (a b n : Int) : Prop := isN a b n = true
theorem Nm.pos {a b n : Int} (h : Nm a b n) : 1 ≤ n := by
  have h' : (decide (1 ≤ n) && decide (g3 a b n = 1)) = true := h
  rw [Bool.and_eq_true] at h'
  exact of_decide_eq_true h'.1
theorem Nm.ne {a b n : Int} (h : Nm a b n) : n ≠ 0 := by have := h.pos; omega
theorem g3_mul (a b n t : Int) : g3 (a * t) (b * t) (n * t) = g3 a b n * (t.natAbs : Int) := by
  unfold g3
  rw [Int.natAbs_mul, Int.natAbs_mul, Int.natAbs_mul, Nat.gcd_mul_right, Nat.gcd_mul_right, Int.natCast_mul]
theorem g3_dvd (a b n : Int) : g3 a b n ∣ a ∧ g3 a b n ∣ b ∧ g3 a b n ∣ n := by
  unfold g3
  have h1 := Nat.gcd_dvd_left (a.natAbs.gcd b.natAbs) n.natAbs
  have h2 := Nat.gcd_dvd_right (a.natAbs.gcd b.natAbs) n.natAbs
  have h3 := Nat.gcd_dvd_left a.natAbs b.natAbs
  have h4 := Nat.gcd_dvd_right a.natAbs b.natAbs
  refine ⟨Int.natAbs_dvd_natAbs.mp ?_, Int.natAbs_dvd_natAbs.mp ?_, Int.natAbs_dvd_natAbs.mp ?_⟩
  · rw [Int.natAbs_natCast]; exact Nat.dvd_trans h1 h3
  · rw [Int.natAbs_natCast]; exact Nat.dvd_trans h1 h4
  · rw [Int.natAbs_natCast]; exact h2
theorem sg_dvd (a b n : Int) : sg a b n ∣ a ∧ sg a b n ∣ b ∧ sg a b n ∣ n := by
  obtain ⟨h1, h2, h3⟩ := g3_dvd a b n
  unfold sg
  split
  · exact ⟨Int.neg_dvd.mpr h1, Int.neg_dvd.mpr h2, Int.neg_dvd.mpr h3⟩
  · exact ⟨h1, h2, h3⟩
theorem fdiv_mul {a g : Int} (h : g ≠ 0) (d : g ∣ a) : a.fdiv g * g = a := by
  obtain ⟨c, rfl⟩ := d
  rw [Int.mul_fdiv_cancel_left _ h, Int.mul_comm]
theorem lo_mul {a b n : Int} (h : n ≠ 0) : loA a b n * sg a b n = a ∧ loB a b n * sg a b n = b ∧ loN a b n * sg a b n = n := by
  obtain ⟨h1, h2, h3⟩ := sg_dvd a b n
  have g := sg_ne (a := a) (b := b) h
  exact ⟨fdiv_mul g h1, fdiv_mul g h2, fdiv_mul g h3⟩
theorem g3_pos {a b n : Int} (h : n ≠ 0) : 0 < g3 a b n := by
  have h1 := g3_ne (a := a) (b := b) h
  have h2 : 0 ≤ g3 a b n := Int.natCast_nonneg _
  omega
theorem sg_abs (a b n : Int) : ((sg a b n).natAbs : Int) = g3 a b n := by
  have h2 : 0 ≤ g3 a b n := Int.natCast_nonneg _
  unfold sg
  split <;> omega
/-- what lowest gives is a number -/
theorem lo_nm {a b n : Int} (h : n ≠ 0) : Nm (loA a b n) (loB a b n) (loN a b n) := by
  obtain ⟨e1, e2, e3⟩ := lo_mul (a := a) (b := b) h
  have gp := g3_pos (a := a) (b := b) h
  have hm := g3_mul (loA a b n) (loB a b n) (loN a b n) (sg a b n)
  rw [e1, e2, e3, sg_abs] at hm
  have h1 : g3 (loA a b n) (loB a b n) (loN a b n) = 1 := by
    have : 1 * g3 a b n = g3 (loA a b n) (loB a b n) (loN a b n) * g3 a b n := by rw [Int.one_mul]; exact hm
    exact (Int.eq_of_mul_eq_mul_right (by omega) this).symm
  have h2 : 1 ≤ loN a b n := by
    have hs : sg a b n = if decide (n < 0) = true then -(g3 a b n) else g3 a b n := rfl
    by_cases hn : n < 0
    · rw [decide_eq_true hn, if_pos rfl] at hs
      rw [hs] at e3
      by_cases hl : 1 ≤ loN a b n
      · exact hl
      · have : 0 ≤ loN a b n * -(g3 a b n) := Int.mul_nonneg_of_nonpos_of_nonpos (by omega) (by omega)
        omega
    · rw [decide_eq_false hn, if_neg Bool.false_ne_true] at hs
      rw [hs] at e3
      by_cases hl : 1 ≤ loN a b n
      · exact hl
      · have : loN a b n * (g3 a b n) ≤ 0 := Int.mul_nonpos_of_nonpos_of_nonneg (by omega) (by omega)
        omega
  show isN _ _ _ = true
  unfold isN
  rw [decide_eq_true h1, decide_eq_true h2]
  rfl
theorem Nm.g {a b n : Int} (h : Nm a b n) : g3 a b n = 1 := by
  have h' : (decide (1 ≤ n) && decide (g3 a b n = 1)) = true := h
  rw [Bool.and_eq_true] at h'
  exact of_decide_eq_true h'.2
/-- two numbers in their form are the same if they are the same crosswise -/
theorem nm_one {a b n c e m : Int} (h : Nm a b n) (g : Nm c e m) (h1 : a * m = c * n) (h2 : b * m = e * n) : a = c ∧ b = e ∧ n = m := by
  have p1 := h.pos
  have p2 := g.pos
  have q1 := g3_mul a b n m
  have q2 := g3_mul c e m n
  rw [h.g, Int.one_mul] at q1
  rw [g.g, Int.one_mul] at q2
  rw [h1, h2, Int.mul_comm n m] at q1
  rw [q1] at q2
  have en : n = m := by omega
  subst en
  exact ⟨Int.eq_of_mul_eq_mul_right (by omega) h1, Int.eq_of_mul_eq_mul_right (by omega) h2, rfl⟩
/-- lowest crosswise -/
theorem lo_cross {a b n : Int} (h : n ≠ 0) : loA a b n * n = a * loN a b n ∧ loB a b n * n = b * loN a b n := by
  obtain ⟨e1, e2, e3⟩ := lo_mul (a := a) (b := b) h
  have gn := sg_ne (a := a) (b := b) h
  refine ⟨?_, ?_⟩
  · refine Int.eq_of_mul_eq_mul_right gn ?_
    calc loA a b n * n * sg a b n = (loA a b n * sg a b n) * n := by rw [Int.mul_assoc, Int.mul_comm n, ← Int.mul_assoc]
      _ = a * n := by rw [e1]
      _ = a * (loN a b n * sg a b n) := by rw [e3]
      _ = a * loN a b n * sg a b n := by rw [Int.mul_assoc]
  · refine Int.eq_of_mul_eq_mul_right gn ?_
    calc loB a b n * n * sg a b n = (loB a b n * sg a b n) * n := by rw [Int.mul_assoc, Int.mul_comm n, ← Int.mul_assoc]
      _ = b * n := by rw [e2]
      _ = b * (loN a b n * sg a b n) := by rw [e3]
      _ = b * loN a b n * sg a b n := by rw [Int.mul_assoc]
/-- lowest is the one number that is so crosswise -/
theorem lo_is {a b n c e m : Int} (h : n ≠ 0) (g : Nm c e m) (h1 : a * m = c * n) (h2 : b * m = e * n) : loA a b n = c ∧ loB a b n = e ∧ loN a b n = m := by
  obtain ⟨x1, x2⟩ := lo_cross (a := a) (b := b) h
  have ln := (lo_nm (a := a) (b := b) h).ne
  refine nm_one (lo_nm h) g ?_ ?_
  · refine Int.eq_of_mul_eq_mul_right h ?_
    calc loA a b n * m * n = (loA a b n * n) * m := by rw [Int.mul_assoc, Int.mul_comm m, ← Int.mul_assoc]
      _ = a * loN a b n * m := by rw [x1]
      _ = a * m * loN a b n := by rw [Int.mul_assoc, Int.mul_comm (loN a b n), ← Int.mul_assoc]
      _ = c * n * loN a b n := by rw [h1]
      _ = c * loN a b n * n := by rw [Int.mul_assoc, Int.mul_comm n, ← Int.mul_assoc]
  · refine Int.eq_of_mul_eq_mul_right h ?_
    calc loB a b n * m * n = (loB a b n * n) * m := by rw [Int.mul_assoc, Int.mul_comm m, ← Int.mul_assoc]
      _ = b * loN a b n * m := by rw [x2]
      _ = b * m * loN a b n := by rw [Int.mul_assoc, Int.mul_comm (loN a b n), ← Int.mul_assoc]
      _ = e * n * loN a b n := by rw [h2]
      _ = e * loN a b n * n := by rw [Int.mul_assoc, Int.mul_comm n, ← Int.mul_assoc]
theorem lo_self {a b n : Int} (h : Nm a b n) : loA a b n = a ∧ loB a b n = b ∧ loN a b n = n := lo_is h.ne h rfl rfl
theorem lo_bd1 {x g : Int} {m : Nat} (hg : g ≠ 0) (d : g ∣ x) (h : Bd m x) : Bd m (x.fdiv g) := by
  have e := fdiv_mul hg d
  show (x.fdiv g).natAbs < 2 ^ m
  have h1 : x.natAbs < 2 ^ m := h
  rw [← e, Int.natAbs_mul] at h1
  have h2 : 1 ≤ g.natAbs := Int.natAbs_pos.mpr hg
  have h3 : (x.fdiv g).natAbs * 1 ≤ (x.fdiv g).natAbs * g.natAbs := Nat.mul_le_mul_left _ h2
  omega
theorem lo_bd {a b n : Int} {m : Nat} (h : n ≠ 0) (h1 : Bd m a) (h2 : Bd m b) (h3 : Bd m n) : Bd m (loA a b n) ∧ Bd m (loB a b n) ∧ Bd m (loN a b n) := by
  obtain ⟨d1, d2, d3⟩ := sg_dvd a b n
  have g := sg_ne (a := a) (b := b) h
  exact ⟨lo_bd1 g d1 h1, lo_bd1 g d2 h2, lo_bd1 g d3 h3⟩
def b01 (b : Bool) : Int := if b = true then 1 else 0
/-- the sign, by squares -/
def sgL (K x y : Int) : Int :=
  if 0 ≤ x * y then b01 (decide (0 < x + y)) - b01 (decide (x + y < 0))
  else if 0 < x then b01 (decide (0 < x * x - K * y * y)) - b01 (decide (x * x - K * y * y < 0))
  else b01 (decide (x * x - K * y * y < 0)) - b01 (decide (0 < x * x - K * y * y))
/-- the sign, by cases of both signs -/
def sgP (K x y : Int) : Int :=
  if 0 ≤ x ∧ 0 ≤ y then (if x ≠ 0 ∨ y ≠ 0 then 1 else 0)
  else if x ≤ 0 ∧ y ≤ 0 then -1
  else if K * y * y < x * x then (if 0 < x then 1 else -1)
  else (if 0 < y then 1 else -1)
def K3 (K : Int) : Prop := K = 2 ∨ K = 3 ∨ K = 5
theorem b01_t {b : Bool} (h : b = true) : b01 b = 1 := if_pos h
theorem b01_f {b : Bool} (h : b = false) : b01 b = 0 := by rw [h]; rfl
theorem bp {p : Prop} [Decidable p] (h : p) : b01 (decide p) = 1 := b01_t (decide_eq_true h)
theorem bn {p : Prop} [Decidable p] (h : ¬ p) : b01 (decide p) = 0 := b01_f (decide_eq_false h)
theorem mul_neg_of {x y : Int} (h : (0 < x ∧ y < 0) ∨ (x < 0 ∧ 0 < y)) : ¬ 0 ≤ x * y := by
  rcases h with ⟨h1, h2⟩ | ⟨h1, h2⟩
  · have := Int.mul_neg_of_pos_of_neg h1 h2; omega
  · have := Int.mul_neg_of_neg_of_pos h1 h2; omega
theorem mul_nn_of {x y : Int} (h : (0 ≤ x ∧ 0 ≤ y) ∨ (x ≤ 0 ∧ y ≤ 0)) : 0 ≤ x * y := by
  rcases h with ⟨h1, h2⟩ | ⟨h1, h2⟩
  · exact Int.mul_nonneg h1 h2
  · exact Int.mul_nonneg_of_nonpos_of_nonpos h1 h2
theorem irr {K x y : Int} (hK : K3 K) (h : x * x - K * y * y = 0) : x = 0 ∧ y = 0 := by
  have h2 : x * x = K * (y * y) := by rw [← Int.mul_assoc]; omega
  exact Y29.sq_irr K hK (y.natAbs + 1) x y (Nat.lt_succ_self _) h2
theorem sg_eq {K x y : Int} (hK : K3 K) : sgP K x y = sgL K x y := by
  unfold sgP sgL
  by_cases h1 : 0 ≤ x ∧ 0 ≤ y
  · rw [if_pos h1, if_pos (mul_nn_of (.inl h1))]
    by_cases h2 : x ≠ 0 ∨ y ≠ 0
    · rw [if_pos h2, bp (show 0 < x + y by omega), bn (show ¬ x + y < 0 by omega)]; rfl
    · rw [if_neg h2, bn (show ¬ 0 < x + y by omega), bn (show ¬ x + y < 0 by omega)]; rfl
  · rw [if_neg h1]
    by_cases h2 : x ≤ 0 ∧ y ≤ 0
    · rw [if_pos h2, if_pos (mul_nn_of (.inr h2)), bn (show ¬ 0 < x + y by omega), bp (show x + y < 0 by omega)]; rfl
    · rw [if_neg h2, if_neg (mul_neg_of (by omega))]
      have ne : x * x - K * y * y ≠ 0 := fun z => by
        obtain ⟨a, b⟩ := irr hK z
        omega
      generalize x * x = X at *
      generalize K * y * y = Y at *
      by_cases h3 : Y < X
      · rw [if_pos h3]
        by_cases h4 : 0 < x
        · rw [if_pos h4, if_pos h4, bp (by omega), bn (by omega)]; rfl
        · rw [if_neg h4, if_neg h4, bp (show 0 < X - Y by omega), bn (show ¬ X - Y < 0 by omega)]; rfl
      · rw [if_neg h3]
        by_cases h4 : 0 < x
        · rw [if_neg (show ¬ 0 < y by omega), if_pos h4, bn (show ¬ 0 < X - Y by omega), bp (show X - Y < 0 by omega)]; rfl
        · rw [if_pos (show 0 < y by omega), if_neg h4, bn (show ¬ 0 < X - Y by omega), bp (show X - Y < 0 by omega)]; rfl
theorem pos_mul {x t : Int} (ht : 0 < t) : (0 < x * t ↔ 0 < x) ∧ (x * t < 0 ↔ x < 0) ∧ (0 ≤ x * t ↔ 0 ≤ x) := by
  have h1 : 0 < x → 0 < x * t := fun h => Int.mul_pos h ht
  have h2 : x < 0 → x * t < 0 := fun h => Int.mul_neg_of_neg_of_pos h ht
  have h3 : x = 0 → x * t = 0 := fun h => by rw [h, Int.zero_mul]
  refine ⟨⟨fun h => ?_, h1⟩, ⟨fun h => ?_, h2⟩, ⟨fun h => ?_, fun h => ?_⟩⟩ <;> rcases Int.lt_trichotomy x 0 with c | c | c <;> (try have := h2 c) <;> (try have := h3 c) <;> (try have := h1 c) <;> omega
theorem dec_congr {p q : Prop} [Decidable p] [Decidable q] (h : p ↔ q) : decide p = decide q := by
  by_cases hp : p
  · rw [decide_eq_true hp, decide_eq_true (h.mp hp)]
  · rw [decide_eq_false hp, decide_eq_false (fun z => hp (h.mpr z))]
theorem ite_congr2 {p q : Prop} [Decidable p] [Decidable q] {a b c d : Int} (h : p ↔ q) (h1 : a = c) (h2 : b = d) : (if p then a else b) = (if q then c else d) := by
  subst h1 h2
  by_cases hp : p
  · rw [if_pos hp, if_pos (h.mp hp)]
  · rw [if_neg hp, if_neg (fun z => hp (h.mpr z))]
/-- times a number above 0 the sign stays -/
theorem sg_mul {K x y t : Int} (ht : 0 < t) : sgL K (x * t) (y * t) = sgL K x y := by
  have tt : 0 < t * t := Int.mul_pos ht ht
  have e1 : x * t * (y * t) = x * y * (t * t) := by grind
  have e2 : x * t + y * t = (x + y) * t := by grind
  have e3 : x * t * (x * t) - K * (y * t) * (y * t) = (x * x - K * y * y) * (t * t) := by grind
  unfold sgL
  rw [e1, e2, e3]
  have p1 := pos_mul (x := x * y) tt
  have p2 := pos_mul (x := x + y) ht
  have p3 := pos_mul (x := x * x - K * y * y) tt
  have p4 := pos_mul (x := x) ht
  rw [dec_congr p2.1, dec_congr p2.2.1, dec_congr p3.1, dec_congr p3.2.1]
  exact ite_congr2 p1.2.2 rfl (ite_congr2 p4.1 rfl rfl)
/-- s is the root of K y y, rounded down; r the floor of y√K -/
def rtF (s y : Int) : Int := if y < 0 then -s - 1 else s
theorem sq_le {a b : Int} (h0 : 0 ≤ a) (h : a ≤ b) : a * a ≤ b * b := Int.mul_le_mul h h h0 (by omega)
theorem neg_sq (a : Int) : -a * -a = a * a := Int.neg_mul_neg a a
theorem sg_up {K X y s : Int} (hs : 0 ≤ s) (h1 : s * s ≤ K * y * y) (h2 : K * y * y < (s + 1) * (s + 1)) (h : 0 ≤ X + rtF s y) : 0 ≤ sgL K X y := by
  unfold rtF at h
  unfold sgL
  by_cases hy : y < 0
  · rw [if_pos hy] at h
    have q := sq_le (a := s + 1) (b := X) (by omega) (by omega)
    rw [if_neg (mul_neg_of (by omega)), if_pos (show 0 < X by omega), bp (show 0 < X * X - K * y * y by omega), bn (show ¬ X * X - K * y * y < 0 by omega)]
    decide
  · rw [if_neg hy] at h
    by_cases hX : 0 ≤ X
    · rw [if_pos (mul_nn_of (by omega)), bn (show ¬ X + y < 0 by omega)]
      unfold b01
      split <;> decide
    · have q := sq_le (a := -X) (b := s) (by omega) (by omega)
      rw [neg_sq] at q
      by_cases h0 : y = 0
      · subst h0
        rw [Int.mul_zero] at h1
        have : s * s = 0 := by have := Int.mul_nonneg hs hs; omega
        have s0 : s = 0 := by rcases Int.mul_eq_zero.mp this with z | z <;> exact z
        omega
      · rw [if_neg (mul_neg_of (by omega)), if_neg (show ¬ 0 < X by omega), bn (show ¬ 0 < X * X - K * y * y by omega)]
        unfold b01
        split <;> decide
theorem sg_dn {K X y s : Int} (hK : K3 K) (hs : 0 ≤ s) (h1 : s * s ≤ K * y * y) (h2 : K * y * y < (s + 1) * (s + 1)) (h : X + rtF s y < 0) : sgL K X y < 0 := by
  unfold rtF at h
  unfold sgL
  by_cases hy : y < 0
  · rw [if_pos hy] at h
    by_cases hX : X ≤ 0
    · rw [if_pos (mul_nn_of (by omega)), bn (show ¬ 0 < X + y by omega), bp (show X + y < 0 by omega)]
      decide
    · have q := sq_le (a := X) (b := s) (by omega) (by omega)
      have ne : X * X - K * y * y ≠ 0 := fun z => by
        obtain ⟨a, b⟩ := irr hK z
        omega
      rw [if_neg (mul_neg_of (by omega)), if_pos (show 0 < X by omega), bn (show ¬ 0 < X * X - K * y * y by omega), bp (show X * X - K * y * y < 0 by omega)]
      decide
  · rw [if_neg hy] at h
    have q := sq_le (a := s + 1) (b := -X) (by omega) (by omega)
    rw [neg_sq] at q
    by_cases h0 : y = 0
    · subst h0
      rw [if_pos (by rw [Int.mul_zero]; omega), bn (show ¬ 0 < X + 0 by omega), bp (show X + 0 < 0 by omega)]
      decide
    · rw [if_neg (mul_neg_of (by omega)), if_neg (show ¬ 0 < X by omega), bp (show 0 < X * X - K * y * y by omega), bn (show ¬ X * X - K * y * y < 0 by omega)]
      decide
def lsD (k a b : Int) : Int := if k = 5 then sgL k (2 * a + b) b else sgL k a b
def psD (k a b : Int) : Int := if k = 5 then sgP k (2 * a + b) b else sgP k a b
theorem ps_ls {k a b : Int} (hk : Kd k) : psD k a b = lsD k a b := by
  unfold psD lsD
  rw [sg_eq hk, sg_eq hk]
theorem ls_mul {k a b t : Int} (ht : 0 < t) : lsD k (a * t) (b * t) = lsD k a b := by
  unfold lsD
  rw [show 2 * (a * t) + b * t = (2 * a + b) * t by grind, sg_mul ht, sg_mul ht]
theorem sg_pos {a b n : Int} (h : 0 < n) : 0 < sg a b n := by
  unfold sg
  rw [if_neg (by rw [decide_eq_false (by omega)]; decide)]
  exact g3_pos (by omega)
/-- in lowest terms the sign stays -/
theorem ls_lo {k a b n : Int} (h : 0 < n) : lsD k (loA a b n) (loB a b n) = lsD k a b := by
  have q := lo_mul (a := a) (b := b) (n := n) (by omega)
  have e := ls_mul (k := k) (a := loA a b n) (b := loB a b n) (sg_pos (a := a) (b := b) h)
  rw [q.1, q.2.1] at e
  exact e.symm
def flA (k a b : Int) : Int := if k = 5 then 2 * a + b else a
def flN (k n : Int) : Int := if k = 5 then 2 * n else n
/-- the floor, s the root of k b b, rounded down -/
def flQ (k a b n s : Int) : Int := (flA k a b + rtF s b) / flN k n
theorem fl_ok {k a b n s : Int} (hk : Kd k) (hn : 0 < n) (hs : 0 ≤ s) (h1 : s * s ≤ k * b * b) (h2 : k * b * b < (s + 1) * (s + 1)) :
    0 ≤ lsD k (a - flQ k a b n s * n) b ∧ lsD k (a - (flQ k a b n s + 1) * n) b < 0 := by
  have hN : 0 < flN k n := by unfold flN; split <;> omega
  have m1 := Int.emod_nonneg (flA k a b + rtF s b) (show flN k n ≠ 0 by omega)
  have m2 := Int.emod_lt_of_pos (flA k a b + rtF s b) hN
  have m3 := Int.mul_ediv_add_emod (flA k a b + rtF s b) (flN k n)
  rw [Int.mul_comm] at m3
  change flQ k a b n s * flN k n + _ = _ at m3
  generalize flQ k a b n s = q at *
  have d : (q + 1) * flN k n = q * flN k n + flN k n := by rw [Int.add_mul, Int.one_mul]
  have d2 : (q + 1) * n = q * n + n := by rw [Int.add_mul, Int.one_mul]
  rw [d2]
  unfold lsD
  by_cases h5 : k = 5
  · have eA : flA k a b = 2 * a + b := if_pos h5
    have eN : flN k n = 2 * n := if_pos h5
    rw [if_pos h5, if_pos h5]
    rw [eA, eN] at m1 m2 m3
    rw [eN] at d
    have e4 : q * (2 * n) = 2 * (q * n) := by grind
    rw [e4] at m3
    exact ⟨sg_up hs h1 h2 (by omega), sg_dn hk hs h1 h2 (by omega)⟩
  · have eA : flA k a b = a := if_neg h5
    have eN : flN k n = n := if_neg h5
    rw [if_neg h5, if_neg h5]
    rw [eA, eN] at m1 m2 m3
    exact ⟨sg_up hs h1 h2 (by omega), sg_dn hk hs h1 h2 (by omega)⟩
/-- as the law looks at it: of the number less q, in lowest terms -/
theorem fl_law {k a b n s : Int} (hk : Kd k) (hn : 0 < n) (hs : 0 ≤ s) (h1 : s * s ≤ k * b * b) (h2 : k * b * b < (s + 1) * (s + 1)) :
    let q := flQ k a b n s
    0 ≤ lsD k (loA (a * 1 - q * n) (b * 1 - 0 * n) (n * 1)) (loB (a * 1 - q * n) (b * 1 - 0 * n) (n * 1)) ∧
    lsD k (loA (a * 1 - (q + 1) * n) (b * 1 - 0 * n) (n * 1)) (loB (a * 1 - (q + 1) * n) (b * 1 - 0 * n) (n * 1)) < 0 := by
  intro q
  have h := fl_ok (a := a) (n := n) hk hn hs h1 h2
  rw [ls_lo (by omega), ls_lo (by omega), Int.mul_one, Int.mul_one, Int.zero_mul, Int.sub_zero]
  exact h
theorem sq_nn {k b : Int} (hk : Kd k) : 0 ≤ k * b * b := by
  rw [Int.mul_assoc]
  have : 0 ≤ b * b := mul_nn_of (by omega)
  rcases hk with rfl | rfl | rfl <;> omega
theorem div_abs {x N : Int} (h : 1 ≤ N) : (x / N).natAbs ≤ x.natAbs := by
  have m1 := Int.emod_nonneg x (show N ≠ 0 by omega)
  have m2 := Int.emod_lt_of_pos x (show 0 < N by omega)
  have m3 := Int.mul_ediv_add_emod x N
  generalize x / N = q at *
  generalize x % N = r at *
  by_cases hq : 0 ≤ q
  · have : q * 1 ≤ q * N := Int.mul_le_mul_of_nonneg_left h hq
    rw [Int.mul_comm q N] at this
    omega
  · by_cases hq1 : q = -1
    · subst hq1
      omega
    · have : (-q - 1) * 1 ≤ (-q - 1) * N := Int.mul_le_mul_of_nonneg_left h (by omega)
      have e : (-q - 1) * N = -(N * q) - N := by rw [Int.sub_mul, Int.neg_mul, Int.one_mul, Int.mul_comm q N]
      rw [e] at this
      omega
theorem rt_bd {k b s : Int} {m : Nat} (hk : Kd k) (hb : Bd m b) (hs : 0 ≤ s) (h1 : s * s ≤ k * b * b) : s < 4 * (2 ^ m : Nat) := by
  refine Int.lt_of_not_ge fun z => ?_
  have hb1 : b.natAbs < 2 ^ m := hb
  generalize hM : (2 ^ m : Nat) = M at *
  have q1 := sq_le (a := 4 * (M : Int)) (b := s) (by omega) z
  have q2 := sq_le (a := (b.natAbs : Int)) (b := (M : Int)) (by omega) (by omega)
  have e : (b.natAbs : Int) * (b.natAbs : Int) = b * b := Int.natAbs_mul_self
  rw [e] at q2
  have q3 : k * b * b = k * (b * b) := Int.mul_assoc _ _ _
  have q4 : 4 * (M : Int) * (4 * (M : Int)) = 16 * ((M : Int) * (M : Int)) := by grind
  rw [q3] at h1
  rw [q4] at q1
  have p : 0 < (M : Int) * (M : Int) := by
    have : 0 < (M : Int) := by omega
    exact Int.mul_pos this this
  generalize (M : Int) * (M : Int) = Y at *
  generalize b * b = B at *
  generalize s * s = S at *
  rcases hk with rfl | rfl | rfl <;> omega
theorem fl_bd {k a b n s : Int} {m : Nat} (hk : Kd k) (ha : Bd m a) (hb : Bd m b) (hn : 0 < n) (hs : 0 ≤ s) (h1 : s * s ≤ k * b * b) : Bd (m + 4) (flQ k a b n s) := by
  have r := rt_bd hk hb hs h1
  have ha' : a.natAbs < 2 ^ m := ha
  have hb' : b.natAbs < 2 ^ m := hb
  have hN : 1 ≤ flN k n := by unfold flN; split <;> omega
  have d := div_abs (x := flA k a b + rtF s b) hN
  have e : 2 ^ (m + 4) = 16 * 2 ^ m := by rw [Nat.pow_add]; omega
  have hA : (flA k a b).natAbs < 3 * 2 ^ m := by unfold flA; split <;> omega
  have hR : (rtF s b).natAbs ≤ 4 * 2 ^ m := by unfold rtF; split <;> omega
  show (flQ k a b n s).natAbs < 2 ^ (m + 4)
  rw [e]
  unfold flQ
  omega
theorem bd_ten : ∀ j : Nat, Bd (4 * j + 1) ((10 : Int) ^ j)
  | 0 => by show (1 : Int).natAbs < 2 ^ 1; decide
  | j + 1 => by rw [Int.pow_succ]; exact ((bd_ten j).mul (show Bd 4 10 by show Int.natAbs _ < 2 ^ 4; decide)).mono (by omega)
end Y02

set_option Elab.async false
set_option linter.all false
set_option maxRecDepth 100000
set_option maxHeartbeats 4000000
namespace Y75
open PySem PySem.Spec PyProof.Rows L2 Evl Wz Y02
/-! the mathematics of k75: division with a rest in Z[w] -/
abbrev Z2 := Int × Int
def mul (k : Int) (p q : Z2) : Z2 := if k = 5 then (p.1 * q.1 + p.2 * q.2, p.1 * q.2 + p.2 * q.1 + p.2 * q.2) else (p.1 * q.1 + k * p.2 * q.2, p.1 * q.2 + p.2 * q.1)
def mate (k : Int) (p : Z2) : Z2 := if k = 5 then (p.1 + p.2, -p.2) else (p.1, -p.2)
def nrm (k : Int) (p : Z2) : Int := if k = 5 then p.1 * p.1 + p.1 * p.2 - p.2 * p.2 else p.1 * p.1 - k * p.2 * p.2
def add (p q : Z2) : Z2 := (p.1 + q.1, p.2 + q.2)
def sub (p q : Z2) : Z2 := (p.1 - q.1, p.2 - q.2)
abbrev B2 (n : Nat) (z : Z2) : Prop := Bd n z.1 ∧ Bd n z.2
theorem mul_comm (k : Int) (p q : Z2) : mul k p q = mul k q p := by
  unfold mul
  by_cases h5 : k = 5
  · simp only [if_pos h5]; exact Prod.ext (by grind) (by grind)
  · simp only [if_neg h5]; exact Prod.ext (by grind) (by grind)
theorem mul_assoc (k : Int) (p q r : Z2) : mul k (mul k p q) r = mul k p (mul k q r) := by
  unfold mul
  by_cases h5 : k = 5
  · simp only [if_pos h5]; exact Prod.ext (by grind) (by grind)
  · simp only [if_neg h5]; exact Prod.ext (by grind) (by grind)
theorem mul_add (k : Int) (p q r : Z2) : mul k p (add q r) = add (mul k p q) (mul k p r) := by
  unfold mul add
  by_cases h5 : k = 5
  · simp only [if_pos h5]; exact Prod.ext (by grind) (by grind)
  · simp only [if_neg h5]; exact Prod.ext (by grind) (by grind)
theorem mul_sub (k : Int) (p q r : Z2) : mul k p (sub q r) = sub (mul k p q) (mul k p r) := by
  unfold mul sub
  by_cases h5 : k = 5
  · simp only [if_pos h5]; exact Prod.ext (by grind) (by grind)
  · simp only [if_neg h5]; exact Prod.ext (by grind) (by grind)
theorem one_mul (k : Int) (p : Z2) : mul k (1, 0) p = p := by
  unfold mul
  by_cases h5 : k = 5
  · simp only [if_pos h5]; exact Prod.ext (by grind) (by grind)
  · simp only [if_neg h5]; exact Prod.ext (by grind) (by grind)
theorem zero_mul (k : Int) (p : Z2) : mul k (0, 0) p = (0, 0) := by
  unfold mul
  by_cases h5 : k = 5
  · simp only [if_pos h5]; exact Prod.ext (by grind) (by grind)
  · simp only [if_neg h5]; exact Prod.ext (by grind) (by grind)
theorem mul_zero (k : Int) (p : Z2) : mul k p (0, 0) = (0, 0) := by rw [mul_comm, zero_mul]
theorem mul_mate (k : Int) (p : Z2) : mul k p (mate k p) = (nrm k p, 0) := by
  unfold mul mate nrm
  by_cases h5 : k = 5
  · simp only [if_pos h5]; exact Prod.ext (by grind) (by grind)
  · simp only [if_neg h5]; exact Prod.ext (by grind) (by grind)
theorem nrm_mul (k : Int) (p q : Z2) : nrm k (mul k p q) = nrm k p * nrm k q := by
  unfold nrm mul
  by_cases h5 : k = 5
  · simp only [if_pos h5]; grind
  · simp only [if_neg h5]; grind
theorem nrm_mate (k : Int) (p : Z2) : nrm k (mate k p) = nrm k p := by
  unfold nrm mate
  by_cases h5 : k = 5
  · simp only [if_pos h5]; grind
  · simp only [if_neg h5]; grind
theorem mul_int (k : Int) (p : Z2) (n : Int) : mul k p (n, 0) = (p.1 * n, p.2 * n) := by
  unfold mul
  by_cases h5 : k = 5
  · simp only [if_pos h5]; exact Prod.ext (by grind) (by grind)
  · simp only [if_neg h5]; exact Prod.ext (by grind) (by grind)
/-- no norm is 0 but that of 0 -/
theorem nrm_zero {k : Int} (hk : Kd k) {p : Z2} (h : nrm k p = 0) : p = (0, 0) := by
  obtain ⟨a, b⟩ := p
  unfold nrm at h
  dsimp only at h
  by_cases h5 : k = 5
  · subst h5
    rw [if_pos rfl] at h
    have e : (2 * a + b) * (2 * a + b) = 5 * (b * b) := by grind
    obtain ⟨x1, x2⟩ := Y29.sq_irr 5 (.inr (.inr rfl)) (b.natAbs + 1) _ b (Nat.lt_succ_self _) e
    exact Prod.ext (by show a = 0; omega) x2
  · rw [if_neg h5] at h
    have e : a * a = k * (b * b) := by grind
    obtain ⟨x1, x2⟩ := Y29.sq_irr k hk (b.natAbs + 1) _ b (Nat.lt_succ_self _) e
    exact Prod.ext x1 x2
theorem nrm_ne {k : Int} (hk : Kd k) {p : Z2} (h : p ≠ (0, 0)) : nrm k p ≠ 0 := fun e => h (nrm_zero hk e)
theorem mul_ne {k : Int} (hk : Kd k) {p q : Z2} (h : p ≠ (0, 0)) (g : q ≠ (0, 0)) : mul k p q ≠ (0, 0) := fun e => by
  have := nrm_mul k p q
  rw [e] at this
  have z : nrm k (0, 0) = 0 := by unfold nrm; split <;> simp
  rw [z] at this
  exact Int.mul_ne_zero (nrm_ne hk h) (nrm_ne hk g) this.symm
theorem mul_cancel {k : Int} (hk : Kd k) {p q : Z2} (h : mul k p q = (0, 0)) (g : q ≠ (0, 0)) : p = (0, 0) := Classical.byContradiction fun z => mul_ne hk z g h
theorem sub_zero_iff {p q : Z2} : sub p q = (0, 0) ↔ p = q := by
  obtain ⟨a, b⟩ := p
  obtain ⟨c, d⟩ := q
  unfold sub
  simp only [Prod.mk.injEq]
  omega
/-! the quotient -/
def quo (k : Int) (p q : Z2) : Z2 := ((2 * (mul k p (mate k q)).1 + nrm k q).fdiv (2 * nrm k q), (2 * (mul k p (mate k q)).2 + nrm k q).fdiv (2 * nrm k q))
def rst (k : Int) (p q u : Z2) : Z2 := sub p (mul k u q)
theorem half {t n : Int} (h : n ≠ 0) : 2 * (t - n * (2 * t + n).fdiv (2 * n)).natAbs ≤ n.natAbs := by
  have e := Int.mul_fdiv_add_fmod (2 * t + n) (2 * n)
  generalize (2 * t + n).fdiv (2 * n) = Q at *
  have e2 : 2 * n * Q = 2 * (n * Q) := by grind
  rw [e2] at e
  by_cases hn : 0 < n
  · have a1 := Int.fmod_nonneg_of_pos (2 * t + n) (show 0 < 2 * n by omega)
    have a2 := Int.fmod_lt_of_pos (2 * t + n) (show 0 < 2 * n by omega)
    omega
  · have b1 := Int.fmod_nonneg_of_pos (-(2 * t + n)) (show 0 < -(2 * n) by omega)
    have b2 := Int.fmod_lt_of_pos (-(2 * t + n)) (show 0 < -(2 * n) by omega)
    have b3 : (-(2 * t + n)).fmod (-(2 * n)) = -((2 * t + n).fmod (2 * n)) := Int.neg_fmod_neg _ _
    rw [b3] at b1 b2
    omega

theorem rst_mate (k : Int) (p q u : Z2) : mul k (rst k p q u) (mate k q) = sub (mul k p (mate k q)) (u.1 * nrm k q, u.2 * nrm k q) := by
  unfold rst
  rw [mul_comm, mul_sub, mul_comm k (mate k q) p, mul_comm k (mate k q), mul_assoc, mul_mate, mul_int]
theorem quo_e {k : Int} {p q : Z2} (h : nrm k q ≠ 0) : ∃ e : Z2, mul k (rst k p q (quo k p q)) (mate k q) = e ∧ 2 * e.1.natAbs ≤ (nrm k q).natAbs ∧ 2 * e.2.natAbs ≤ (nrm k q).natAbs := by
  refine ⟨_, rst_mate k p q _, ?_, ?_⟩
  · have := half (t := (mul k p (mate k q)).1) h
    unfold sub quo
    dsimp only
    rw [Int.mul_comm _ (nrm k q)]
    exact this
  · have := half (t := (mul k p (mate k q)).2) h
    unfold sub quo
    dsimp only
    rw [Int.mul_comm _ (nrm k q)]
    exact this
theorem sq_na (a : Int) : a * a = ((a.natAbs * a.natAbs : Nat) : Int) := Int.natAbs_mul_self.symm
theorem nrm_small {k : Int} (hk : Kd k) {e : Z2} {n : Nat} (h1 : 2 * e.1.natAbs ≤ n) (h2 : 2 * e.2.natAbs ≤ n) : 4 * (nrm k e).natAbs ≤ 3 * (n * n) := by
  obtain ⟨a, b⟩ := e
  dsimp only at h1 h2
  have m1 : (2 * a.natAbs) * (2 * a.natAbs) ≤ n * n := Nat.mul_le_mul h1 h1
  have m2 : (2 * b.natAbs) * (2 * b.natAbs) ≤ n * n := Nat.mul_le_mul h2 h2
  have m3 : (2 * a.natAbs) * (2 * b.natAbs) ≤ n * n := Nat.mul_le_mul h1 h2
  have r1 : (2 * a.natAbs) * (2 * a.natAbs) = 4 * (a.natAbs * a.natAbs) := by grind
  have r2 : (2 * b.natAbs) * (2 * b.natAbs) = 4 * (b.natAbs * b.natAbs) := by grind
  have r3 : (2 * a.natAbs) * (2 * b.natAbs) = 4 * (a.natAbs * b.natAbs) := by grind
  rw [r1] at m1
  rw [r2] at m2
  rw [r3] at m3
  have e3 : (a * b).natAbs = a.natAbs * b.natAbs := Int.natAbs_mul a b
  unfold nrm
  dsimp only
  split
  · rw [sq_na a, sq_na b]
    generalize a.natAbs * a.natAbs = A at *
    generalize b.natAbs * b.natAbs = B at *
    generalize a.natAbs * b.natAbs = C at *
    generalize a * b = P at *
    generalize n * n = N at *
    omega
  · rw [Int.mul_assoc k b b, sq_na a, sq_na b]
    generalize a.natAbs * a.natAbs = A at *
    generalize b.natAbs * b.natAbs = B at *
    generalize n * n = N at *
    rcases hk with rfl | rfl | rfl
    · omega
    · omega
    · contradiction
theorem rst_norm {k : Int} (hk : Kd k) {p q : Z2} (hq : q ≠ (0, 0)) : 4 * (nrm k (rst k p q (quo k p q))).natAbs ≤ 3 * (nrm k q).natAbs := by
  have hn := nrm_ne hk hq
  obtain ⟨e, he, h1, h2⟩ := quo_e (p := p) hn
  have h3 := nrm_small hk h1 h2
  rw [← he, nrm_mul, nrm_mate, Int.natAbs_mul] at h3
  have hp : 0 < (nrm k q).natAbs := Int.natAbs_pos.mpr hn
  generalize (nrm k q).natAbs = N at *
  generalize (nrm k (rst k p q (quo k p q))).natAbs = M at *
  refine Nat.le_of_mul_le_mul_right (c := N) ?_ hp
  calc 4 * M * N = 4 * (M * N) := Nat.mul_assoc _ _ _
    _ ≤ 3 * (N * N) := h3
    _ = 3 * N * N := (Nat.mul_assoc _ _ _).symm
theorem na_lin (a b c d : Int) : (a * b + c * d).natAbs ≤ a.natAbs * b.natAbs + c.natAbs * d.natAbs := by
  have := Int.natAbs_add_le (a * b) (c * d)
  rw [Int.natAbs_mul, Int.natAbs_mul] at this
  exact this
theorem mul_co {k : Int} (hk : Kd k) (e q : Z2) : (mul k e q).1.natAbs ≤ e.1.natAbs * q.1.natAbs + 3 * (e.2.natAbs * q.2.natAbs) ∧ (mul k e q).2.natAbs ≤ e.1.natAbs * q.2.natAbs + e.2.natAbs * q.1.natAbs + e.2.natAbs * q.2.natAbs := by
  obtain ⟨a, b⟩ := e
  obtain ⟨c, d⟩ := q
  unfold mul
  dsimp only
  have h1 := na_lin a c b d
  have h2 := na_lin a d b c
  have h3 : (b * d).natAbs = b.natAbs * d.natAbs := Int.natAbs_mul b d
  have h4 := na_lin a c (k * b) d
  have h5 : (k * b).natAbs = k.natAbs * b.natAbs := Int.natAbs_mul k b
  split
  · refine ⟨by omega, ?_⟩
    have := Int.natAbs_add_le (a * d + b * c) (b * d)
    omega
  · refine ⟨?_, by omega⟩
    rw [h5, Nat.mul_assoc] at h4
    rcases hk with rfl | rfl | rfl
    · have e2 : (2 : Int).natAbs = 2 := rfl
      rw [e2] at h4
      omega
    · have e2 : (3 : Int).natAbs = 3 := rfl
      rw [e2] at h4
      omega
    · contradiction
theorem rst_bd {k : Int} (hk : Kd k) {p q : Z2} {m : Nat} (hq : q ≠ (0, 0)) (h : B2 m q) : B2 (m + 1) (rst k p q (quo k p q)) := by
  have hn := nrm_ne hk hq
  obtain ⟨e, he, h1, h2⟩ := quo_e (p := p) hn
  generalize rst k p q (quo k p q) = r at *
  have hr : mul k e q = (r.1 * nrm k q, r.2 * nrm k q) := by rw [← he, mul_assoc, mul_comm k (mate k q) q, mul_mate, mul_int]
  have hp : 0 < (nrm k q).natAbs := Int.natAbs_pos.mpr hn
  obtain ⟨c1, c2⟩ := mul_co hk e q
  rw [hr] at c1 c2
  dsimp only at c1 c2
  rw [Int.natAbs_mul] at c1 c2
  have b1 : q.1.natAbs < 2 ^ m := h.1
  have b2 : q.2.natAbs < 2 ^ m := h.2
  generalize (nrm k q).natAbs = N at *
  generalize e.1.natAbs = x at *
  generalize e.2.natAbs = y at *
  have m1 : 2 * x * q.1.natAbs ≤ N * q.1.natAbs := Nat.mul_le_mul_right _ h1
  have m2 : 2 * y * q.2.natAbs ≤ N * q.2.natAbs := Nat.mul_le_mul_right _ h2
  have m3 : 2 * x * q.2.natAbs ≤ N * q.2.natAbs := Nat.mul_le_mul_right _ h1
  have m4 : 2 * y * q.1.natAbs ≤ N * q.1.natAbs := Nat.mul_le_mul_right _ h2
  rw [Nat.mul_assoc] at m1 m2 m3 m4
  have l1 : 2 * r.1.natAbs ≤ q.1.natAbs + 3 * q.2.natAbs := by
    refine Nat.le_of_mul_le_mul_right (c := N) ?_ hp
    have e1 : 2 * r.1.natAbs * N = 2 * (r.1.natAbs * N) := Nat.mul_assoc _ _ _
    have e2 : (q.1.natAbs + 3 * q.2.natAbs) * N = N * q.1.natAbs + 3 * (N * q.2.natAbs) := by grind
    rw [e1, e2]
    omega
  have l2 : 2 * r.2.natAbs ≤ q.1.natAbs + 2 * q.2.natAbs := by
    refine Nat.le_of_mul_le_mul_right (c := N) ?_ hp
    have e1 : 2 * r.2.natAbs * N = 2 * (r.2.natAbs * N) := Nat.mul_assoc _ _ _
    have e2 : (q.1.natAbs + 2 * q.2.natAbs) * N = N * q.1.natAbs + 2 * (N * q.2.natAbs) := by grind
    rw [e1, e2]
    omega
  have ep : 2 ^ (m + 1) = 2 * 2 ^ m := by rw [Nat.pow_succ]; omega
  refine ⟨?_, ?_⟩
  · show r.1.natAbs < 2 ^ (m + 1)
    omega
  · show r.2.natAbs < 2 ^ (m + 1)
    omega
/-! what divides -/
def dvb (k : Int) (d c : Z2) : Prop := if d = (0, 0) then c = (0, 0) else rst k c d (quo k c d) = (0, 0)
instance {k : Int} {d c : Z2} : Decidable (dvb k d c) := by unfold dvb; exact inferInstance
def Dv (k : Int) (d c : Z2) : Prop := ∃ t, c = mul k t d
theorem quo_mul {k : Int} (hk : Kd k) {t d : Z2} (hd : d ≠ (0, 0)) : quo k (mul k t d) d = t := by
  have hn := nrm_ne hk hd
  have e : mul k (mul k t d) (mate k d) = (t.1 * nrm k d, t.2 * nrm k d) := by rw [mul_assoc, mul_mate, mul_int]
  have key : ∀ a : Int, (2 * (a * nrm k d) + nrm k d).fdiv (2 * nrm k d) = a := fun a => by
    have h := half (t := a * nrm k d) hn
    generalize (2 * (a * nrm k d) + nrm k d).fdiv (2 * nrm k d) = Q at *
    have e2 : a * nrm k d - nrm k d * Q = nrm k d * (a - Q) := by grind
    rw [e2, Int.natAbs_mul] at h
    have hp : 0 < (nrm k d).natAbs := Int.natAbs_pos.mpr hn
    refine Classical.byContradiction fun z => ?_
    have h1 : 1 ≤ (a - Q).natAbs := by omega
    have h2 : (nrm k d).natAbs * 1 ≤ (nrm k d).natAbs * (a - Q).natAbs := Nat.mul_le_mul_left _ h1
    omega
  unfold quo
  rw [e]
  exact Prod.ext (key t.1) (key t.2)
theorem dvb_iff {k : Int} (hk : Kd k) {d c : Z2} : dvb k d c ↔ Dv k d c := by
  unfold dvb
  by_cases h : d = (0, 0)
  · rw [if_pos h]
    subst h
    exact ⟨fun e => ⟨(0, 0), by rw [e, mul_zero]⟩, fun ⟨t, e⟩ => by rw [e, mul_zero]⟩
  · rw [if_neg h]
    exact ⟨fun e => ⟨quo k c d, sub_zero_iff.mp e⟩, fun ⟨t, e⟩ => by rw [e, quo_mul hk h]; exact sub_zero_iff.mpr rfl⟩
theorem Dv.self (k : Int) (d : Z2) : Dv k d d := ⟨(1, 0), (one_mul k d).symm⟩
theorem Dv.zero (k : Int) (d : Z2) : Dv k d (0, 0) := ⟨(0, 0), (zero_mul k d).symm⟩
theorem Dv.mulr {k : Int} {d p : Z2} (h : Dv k d p) (x : Z2) : Dv k d (mul k p x) := by
  obtain ⟨t, rfl⟩ := h
  exact ⟨mul k x t, by rw [mul_comm, mul_assoc]⟩
theorem Dv.add {k : Int} {d p q : Z2} (h : Dv k d p) (g : Dv k d q) : Dv k d (Y75.add p q) := by
  obtain ⟨t, rfl⟩ := h
  obtain ⟨u, rfl⟩ := g
  exact ⟨Y75.add t u, by rw [mul_comm k (Y75.add t u), mul_add, mul_comm k d t, mul_comm k d u]⟩
theorem rst_back (k : Int) (p q u : Z2) : p = Y75.add (mul k u q) (rst k p q u) := by
  unfold Y75.add rst sub
  exact Prod.ext (by dsimp only; omega) (by dsimp only; omega)
/-! Euclid -/
def euc (k : Int) : Nat → Z2 → Z2 → Z2
  | 0, p, _ => p
  | n + 1, p, q => if q = (0, 0) then p else euc k n q (rst k p q (quo k p q))
theorem euc_z (k : Int) (n : Nat) (p : Z2) : euc k n p (0, 0) = p := by
  cases n with
  | zero => rfl
  | succ n => unfold euc; rw [if_pos rfl]
theorem euc_s {k : Int} {n : Nat} {p q : Z2} (h : q ≠ (0, 0)) : euc k (n + 1) p q = euc k n q (rst k p q (quo k p q)) := by
  rw [euc, if_neg h]
/-- the steps are few -/
theorem geo {j N : Nat} (h : 4 ^ j ≤ 3 ^ j * 2 ^ 86) : j < 208 := by
  refine Nat.lt_of_not_ge fun z => ?_
  obtain ⟨i, rfl⟩ : ∃ i, j = 208 + i := ⟨j - 208, by omega⟩
  have key : ∀ i : Nat, 3 ^ (208 + i) * 2 ^ 86 < 4 ^ (208 + i) := by
    intro i
    induction i with
    | zero => decide
    | succ i ih =>
      rw [← Nat.add_assoc, show 3 ^ (208 + i + 1) = 3 ^ (208 + i) * 3 from Nat.pow_succ _ _, show 4 ^ (208 + i + 1) = 4 ^ (208 + i) * 4 from Nat.pow_succ _ _]
      generalize 3 ^ (208 + i) = A at *
      generalize 4 ^ (208 + i) = B at *
      generalize 2 ^ 86 = C at *
      have : A * 3 * C = 3 * (A * C) := by grind
      rw [this]
      omega
  exact absurd h (Nat.not_le.mpr (key i))
/-- so far: j steps -/
structure Eu (k : Int) (p0 q0 : Z2) (j : Nat) (p q : Z2) : Prop where
  e : euc k (600 - j) p q = euc k 600 p0 q0
  bp : B2 (41 + j) p
  bq : B2 (40 + j) q
  n : 4 ^ j * (nrm k q).natAbs ≤ 3 ^ j * 2 ^ 86
  dv : ∀ d, Dv k d p → Dv k d q → Dv k d p0 ∧ Dv k d q0
theorem nrm_bd {k : Int} (hk : Kd k) {q : Z2} {m : Nat} (h : B2 m q) : (nrm k q).natAbs < 2 ^ (2 * m + 3) := by
  have h1 : Bd (2 * m + 3) (nrm k q) := by
    unfold nrm
    split
    · exact (((h.1.mul h.1).add (h.1.mul h.2)).sub (h.2.mul h.2)).mono (by omega)
    · have hk2 : k ≠ 5 := by assumption
      have hb : Bd 2 k := by rcases hk with rfl | rfl | rfl <;> first | (show Int.natAbs _ < 2 ^ 2; decide) | contradiction
      exact ((h.1.mul h.1).sub ((hb.mul h.2).mul h.2)).mono (by omega)
  exact h1
theorem Eu.start {k : Int} (hk : Kd k) {p q : Z2} (hp : B2 40 p) (hq : B2 40 q) : Eu k p q 0 p q where
  e := rfl
  bp := ⟨hp.1.mono (by omega), hp.2.mono (by omega)⟩
  bq := ⟨hq.1.mono (by omega), hq.2.mono (by omega)⟩
  n := by
    have := nrm_bd hk hq
    simp only [Nat.pow_zero, Nat.one_mul]
    have e : 2 ^ (2 * 40 + 3) ≤ 2 ^ 86 := by decide
    omega
  dv := fun d a b => ⟨a, b⟩
theorem Eu.few {k : Int} (hk : Kd k) {p0 q0 p q : Z2} {j : Nat} (h : Eu k p0 q0 j p q) (hq : q ≠ (0, 0)) : j < 208 := by
  have hp : 1 ≤ (nrm k q).natAbs := Int.natAbs_pos.mpr (nrm_ne hk hq)
  have h1 := h.n
  have h2 : 4 ^ j * 1 ≤ 4 ^ j * (nrm k q).natAbs := Nat.mul_le_mul_left _ hp
  exact geo (N := 0) (by omega)
theorem Eu.next {k : Int} (hk : Kd k) {p0 q0 p q : Z2} {j : Nat} (h : Eu k p0 q0 j p q) (hq : q ≠ (0, 0)) : Eu k p0 q0 (j + 1) q (rst k p q (quo k p q)) where
  e := by
    have hj := h.few hk hq
    rw [← h.e, show 600 - j = (600 - (j + 1)) + 1 by omega, euc_s hq]
  bp := ⟨h.bq.1.mono (by omega), h.bq.2.mono (by omega)⟩
  bq := rst_bd hk hq h.bq
  n := by
    have h1 := rst_norm (p := p) hk hq
    have h2 := h.n
    rw [show 4 ^ (j + 1) = 4 ^ j * 4 from Nat.pow_succ _ _, show 3 ^ (j + 1) = 3 ^ j * 3 from Nat.pow_succ _ _]
    generalize (nrm k (rst k p q (quo k p q))).natAbs = M at *
    generalize (nrm k q).natAbs = N at *
    generalize 2 ^ 86 = T at *
    have h3 : 4 ^ j * (4 * M) ≤ 4 ^ j * (3 * N) := Nat.mul_le_mul_left _ h1
    have e1 : 4 ^ j * 4 * M = 4 ^ j * (4 * M) := Nat.mul_assoc _ _ _
    have e2 : 4 ^ j * (3 * N) = 3 * (4 ^ j * N) := by grind
    have e3 : 3 ^ j * 3 * T = 3 * (3 ^ j * T) := by grind
    rw [e1, e3]
    omega
  dv := fun d a b => by
    refine h.dv d ?_ a
    rw [rst_back k p q (quo k p q)]
    exact Dv.add (by rw [mul_comm]; exact a.mulr _) b
theorem Eu.done {k : Int} {p0 q0 p : Z2} {j : Nat} (h : Eu k p0 q0 j p (0, 0)) : p = euc k 600 p0 q0 ∧ Dv k p p0 ∧ Dv k p q0 := by
  have e := h.e
  rw [euc_z] at e
  exact ⟨e, h.dv p (Dv.self k p) (Dv.zero k p)⟩
end Y75

set_option Elab.async false
set_option linter.all false
set_option maxRecDepth 100000
set_option maxHeartbeats 4000000
namespace Y75
open PySem PySem.Spec PyProof.Rows L2 Evl Wz Y02
theorem mate_b {k : Int} {p : Z2} {n : Nat} (h : B2 n p) : B2 (n + 1) (mate k p) := by
  unfold mate
  split
  · exact ⟨(h.1.add h.2).mono (by omega), h.2.neg.mono (by omega)⟩
  · exact ⟨h.1.mono (by omega), h.2.neg.mono (by omega)⟩
theorem mul_b {k : Int} {p q : Z2} {n m : Nat} (hk : Kd k) (h : B2 n p) (g : B2 m q) : B2 (n + m + 4) (mul k p q) := by
  unfold mul
  split
  · exact ⟨((h.1.mul g.1).add (h.2.mul g.2)).mono (by omega), (((h.1.mul g.2).add (h.2.mul g.1)).add (h.2.mul g.2)).mono (by omega)⟩
  · exact ⟨((h.1.mul g.1).add ((hk.bd.mul h.2).mul g.2)).mono (by omega), ((h.1.mul g.2).add (h.2.mul g.1)).mono (by omega)⟩
theorem add_b {p q : Z2} {n m : Nat} (h : B2 n p) (g : B2 m q) : B2 (max n m + 1) (add p q) := ⟨h.1.add g.1, h.2.add g.2⟩
theorem sub_b {p q : Z2} {n m : Nat} (h : B2 n p) (g : B2 m q) : B2 (max n m + 1) (sub p q) := ⟨h.1.sub g.1, h.2.sub g.2⟩
theorem B2.mono {n m : Nat} {p : Z2} (h : B2 n p) (l : n ≤ m) : B2 m p := ⟨Bd.mono h.1 l, Bd.mono h.2 l⟩
theorem nrm_b {k : Int} (hk : Kd k) {q : Z2} {m : Nat} (h : B2 m q) : Bd (2 * m + 3) (nrm k q) := nrm_bd hk h
theorem fdiv_na (x y : Int) (hy : y ≠ 0) : (x.fdiv y).natAbs ≤ x.natAbs := by
  have key : ∀ x y : Int, 0 < y → (x.fdiv y).natAbs ≤ x.natAbs := fun x y hp => by
    rw [Int.fdiv_eq_ediv_of_nonneg _ (by omega)]
    exact div_abs (by omega)
  by_cases hp : 0 < y
  · exact key x y hp
  · have := key (-x) (-y) (by omega)
    rw [Int.neg_fdiv_neg] at this
    omega
theorem quo_b {k : Int} (hk : Kd k) {p q : Z2} {n m : Nat} (hq : q ≠ (0, 0)) (h : B2 n p) (g : B2 m q) : B2 (n + 2 * m + 8) (quo k p q) := by
  have hn := nrm_ne hk hq
  have h1 := mul_b hk h (mate_b (k := k) g)
  have h2 := nrm_b hk g
  have e2 : Bd 2 (2 : Int) := (by decide : Int.natAbs 2 < 2 ^ 2)
  have key : ∀ t : Int, Bd (n + (m + 1) + 4) t → Bd (n + 2 * m + 8) ((2 * t + nrm k q).fdiv (2 * nrm k q)) := fun t ht => by
    have h3 : Bd (n + 2 * m + 8) (2 * t + nrm k q) := ((e2.mul ht).add h2).mono (by omega)
    exact Nat.lt_of_le_of_lt (fdiv_na _ _ (by omega)) h3
  exact ⟨key _ h1.1, key _ h1.2⟩
theorem rst_b {k : Int} (hk : Kd k) {p q u : Z2} {n m l : Nat} (h : B2 n p) (g : B2 m q) (f : B2 l u) : B2 (max n (l + m + 4) + 1) (rst k p q u) := sub_b h (mul_b hk f g)
theorem bd_sm {n : Nat} {i : Int} (h : i.natAbs < 4096) (hn : 12 ≤ n) : Bd n i := Nat.lt_of_lt_of_le h (Nat.le_trans (by decide : 4096 ≤ 2 ^ 12) (Nat.pow_le_pow_right (by decide) hn))
/-! the factors -/
structure Cf (k : Int) (p0 q0 : Z2) (j : Nat) (f0 f1 c0 c1 p q : Z2) : Prop where
  hp : add (mul k p0 f0) (mul k q0 f1) = p
  hq : add (mul k p0 c0) (mul k q0 c1) = q
  det : ∃ s : Int, (s = 1 ∨ s = -1) ∧ sub (mul k f0 c1) (mul k f1 c0) = (s, 0)
  bf : B2 (800 * j + 10) f0 ∧ B2 (800 * j + 10) f1
  bc : B2 (800 * j + 10) c0 ∧ B2 (800 * j + 10) c1
theorem b2_s {n : Nat} {a b : Int} (h : a.natAbs < 2) (g : b.natAbs < 2) (hn : 1 ≤ n) : B2 n (a, b) := by
  have e : 2 ^ 1 ≤ 2 ^ n := Nat.pow_le_pow_right (by decide) hn
  exact ⟨show a.natAbs < 2 ^ n by omega, show b.natAbs < 2 ^ n by omega⟩
theorem mul_one (k : Int) (p : Z2) : mul k p (1, 0) = p := by rw [mul_comm, one_mul]
theorem add_zero (p : Z2) : add p (0, 0) = p := by unfold add; exact Prod.ext (by simp) (by simp)
theorem zero_add (p : Z2) : add (0, 0) p = p := by unfold add; exact Prod.ext (by simp) (by simp)
theorem Cf.start (k : Int) (p q : Z2) : Cf k p q 0 (1, 0) (0, 0) (0, 0) (1, 0) p q where
  hp := by rw [mul_one, mul_zero, add_zero]
  hq := by rw [mul_one, mul_zero, zero_add]
  det := ⟨1, .inl rfl, by rw [mul_one, mul_zero]; rfl⟩
  bf := ⟨b2_s (by decide) (by decide) (by omega), b2_s (by decide) (by decide) (by omega)⟩
  bc := ⟨b2_s (by decide) (by decide) (by omega), b2_s (by decide) (by decide) (by omega)⟩
theorem lin_rst (k : Int) (p0 q0 f0 f1 c0 c1 u : Z2) : add (mul k p0 (rst k f0 c0 u)) (mul k q0 (rst k f1 c1 u)) = rst k (add (mul k p0 f0) (mul k q0 f1)) (add (mul k p0 c0) (mul k q0 c1)) u := by
  unfold rst sub add mul
  by_cases h5 : k = 5
  · simp only [if_pos h5]; exact Prod.ext (by grind) (by grind)
  · simp only [if_neg h5]; exact Prod.ext (by grind) (by grind)
theorem det_rst (k : Int) (f0 f1 c0 c1 u : Z2) : sub (mul k c0 (rst k f1 c1 u)) (mul k c1 (rst k f0 c0 u)) = sub (0, 0) (sub (mul k f0 c1) (mul k f1 c0)) := by
  unfold rst sub mul
  by_cases h5 : k = 5
  · simp only [if_pos h5]; exact Prod.ext (by grind) (by grind)
  · simp only [if_neg h5]; exact Prod.ext (by grind) (by grind)
theorem Cf.next {k : Int} (hk : Kd k) {p0 q0 f0 f1 c0 c1 p q : Z2} {j : Nat} (h : Cf k p0 q0 j f0 f1 c0 c1 p q) (E : Eu k p0 q0 j p q) (hq : q ≠ (0, 0)) : Cf k p0 q0 (j + 1) c0 c1 (rst k f0 c0 (quo k p q)) (rst k f1 c1 (quo k p q)) q (rst k p q (quo k p q)) where
  hp := h.hq
  hq := by rw [lin_rst, h.hp, h.hq]
  det := by
    obtain ⟨s, hs, e⟩ := h.det
    refine ⟨-s, by omega, ?_⟩
    rw [det_rst, e]
    unfold sub
    exact Prod.ext (by simp) (by simp)
  bf := ⟨h.bc.1.mono (by omega), h.bc.2.mono (by omega)⟩
  bc := by
    have hj := E.few hk hq
    have u := quo_b hk hq E.bp E.bq
    exact ⟨(rst_b hk h.bf.1 h.bc.1 u).mono (by omega), (rst_b hk h.bf.2 h.bc.2 u).mono (by omega)⟩
/-- at the end: the factors of 0 are small -/
theorem det_p {k : Int} {p0 q0 f0 f1 c0 c1 p q : Z2} {s : Int} (hp : add (mul k p0 f0) (mul k q0 f1) = p) (hq : add (mul k p0 c0) (mul k q0 c1) = q) (e : sub (mul k f0 c1) (mul k f1 c0) = (s, 0)) : sub (mul k p c1) (mul k q f1) = mul k p0 (s, 0) ∧ sub (mul k q f0) (mul k p c0) = mul k q0 (s, 0) := by
  subst hp hq
  rw [← e]
  unfold sub add mul
  by_cases h5 : k = 5
  · simp only [if_pos h5]
    exact ⟨Prod.ext (by grind) (by grind), Prod.ext (by grind) (by grind)⟩
  · simp only [if_neg h5]
    exact ⟨Prod.ext (by grind) (by grind), Prod.ext (by grind) (by grind)⟩
theorem pm_b {x s : Int} {n : Nat} (hs : s = 1 ∨ s = -1) (h : Bd n x) : Bd n (x * s) := by
  rcases hs with rfl | rfl
  · rw [Int.mul_one]; exact h
  · show (x * -1).natAbs < 2 ^ n
    rw [show x * -1 = -x by omega, Int.natAbs_neg]
    exact h
theorem by_d {k : Int} (hk : Kd k) {d c p : Z2} {n m : Nat} {s : Int} (hd : d ≠ (0, 0)) (hs : s = 1 ∨ s = -1) (e : mul k d c = mul k p (s, 0)) (hp : B2 n p) (hm : B2 m d) : B2 (n + m + 5) c := by
  have e2 : mul k (mul k d c) (mate k d) = (c.1 * nrm k d, c.2 * nrm k d) := by rw [mul_comm k d c, mul_assoc, mul_mate, mul_int]
  rw [e, mul_int] at e2
  have hb := mul_b (k := k) (p := (p.1 * s, p.2 * s)) (n := n) hk ⟨pm_b hs hp.1, pm_b hs hp.2⟩ (mate_b (k := k) hm)
  rw [e2] at hb
  have hn : 1 ≤ (nrm k d).natAbs := Int.natAbs_pos.mpr (nrm_ne hk hd)
  have key : ∀ x : Int, Bd (n + (m + 1) + 4) (x * nrm k d) → Bd (n + m + 5) x := fun x hx => by
    have h1 : (x * nrm k d).natAbs < 2 ^ (n + (m + 1) + 4) := hx
    rw [Int.natAbs_mul] at h1
    have h2 : x.natAbs * 1 ≤ x.natAbs * (nrm k d).natAbs := Nat.mul_le_mul_left _ hn
    have h3 : n + (m + 1) + 4 = n + m + 5 := by omega
    rw [h3] at h1
    show x.natAbs < 2 ^ (n + m + 5)
    omega
  exact ⟨key _ hb.1, key _ hb.2⟩
theorem Cf.last {k : Int} (hk : Kd k) {p0 q0 f0 f1 c0 c1 d : Z2} {j : Nat} (h : Cf k p0 q0 j f0 f1 c0 c1 d (0, 0)) (hp : B2 40 p0) (hq : B2 40 q0) (hd : B2 260 d) (hz : d = (0, 0) → j = 0 ∧ c0 = (0, 0) ∧ c1 = (1, 0)) : B2 310 c0 ∧ B2 310 c1 ∧ ¬ (c0 = (0, 0) ∧ c1 = (0, 0)) := by
  obtain ⟨s, hs, e⟩ := h.det
  obtain ⟨e1, e2⟩ := det_p h.hp h.hq e
  have ne : ¬ (c0 = (0, 0) ∧ c1 = (0, 0)) := fun ⟨a, b⟩ => by
    rw [a, b, mul_zero, mul_zero] at e
    unfold sub at e
    have := congrArg Prod.fst e
    dsimp only at this
    omega
  by_cases h0 : d = (0, 0)
  · obtain ⟨_, rfl, rfl⟩ := hz h0
    exact ⟨b2_s (by decide) (by decide) (by omega), b2_s (by decide) (by decide) (by omega), ne⟩
  · rw [zero_mul] at e1 e2
    have e1' : mul k d c1 = mul k p0 (s, 0) := by
      rw [← e1]
      unfold sub
      exact Prod.ext (by simp) (by simp)
    have e2' : mul k d c0 = mul k q0 (-s, 0) := by
      have : mul k q0 (-s, 0) = sub (0, 0) (mul k q0 (s, 0)) := by
        rw [mul_int, mul_int]
        unfold sub
        exact Prod.ext (by dsimp only; rw [Int.mul_neg]; omega) (by dsimp only; rw [Int.mul_neg]; omega)
      rw [this, ← e2]
      unfold sub
      exact Prod.ext (by dsimp only; omega) (by dsimp only; omega)
    exact ⟨(by_d hk h0 (by omega) e2' hq hd).mono (by omega), (by_d hk h0 hs e1' hp hd).mono (by omega), ne⟩
/-! made smaller -/
set_option exponentiation.threshold 2000

def sqs (k : Int) (b0 b1 : Z2) : Z2 := add (mul k b0 b0) (mul k b1 b1)
def szq (k : Int) (b0 b1 : Z2) : Int := (add (sqs k b0 b1) (mate k (sqs k b0 b1))).1
theorem szq_ge {k : Int} (hk : Kd k) (b0 b1 : Z2) : b0.1 * b0.1 ≤ szq k b0 b1 ∧ b0.2 * b0.2 ≤ szq k b0 b1 ∧ b1.1 * b1.1 ≤ szq k b0 b1 ∧ b1.2 * b1.2 ≤ szq k b0 b1 := by
  obtain ⟨a, b⟩ := b0
  obtain ⟨c, d⟩ := b1
  have sa : 0 ≤ a * a := Y29.sqn a
  have sb : 0 ≤ b * b := Y29.sqn b
  have sc : 0 ≤ c * c := Y29.sqn c
  have sd : 0 ≤ d * d := Y29.sqn d
  have sab : 0 ≤ (a + b) * (a + b) := Y29.sqn _
  have scd : 0 ≤ (c + d) * (c + d) := Y29.sqn _
  have e1 : (a + b) * (a + b) = a * a + 2 * (a * b) + b * b := by grind
  have e2 : (c + d) * (c + d) = c * c + 2 * (c * d) + d * d := by grind
  rw [e1] at sab
  rw [e2] at scd
  have hs : szq k (a, b) (c, d) = if k = 5 then 2 * (a * a) + 2 * (a * b) + 3 * (b * b) + (2 * (c * c) + 2 * (c * d) + 3 * (d * d)) else 2 * (a * a) + 2 * k * (b * b) + (2 * (c * c) + 2 * k * (d * d)) := by
    unfold szq sqs add mul mate
    by_cases h5 : k = 5
    · simp only [if_pos h5]; grind
    · simp only [if_neg h5]; grind
  rw [hs]
  dsimp only
  generalize a * a = A at *
  generalize b * b = B at *
  generalize c * c = C at *
  generalize d * d = E at *
  generalize a * b = P at *
  generalize c * d = R at *
  rcases hk with rfl | rfl | rfl
  · rw [if_neg (by decide)]
    omega
  · rw [if_neg (by decide)]
    omega
  · rw [if_pos rfl]
    omega
theorem szq_nn {k : Int} (hk : Kd k) (b0 b1 : Z2) : 0 ≤ szq k b0 b1 := Int.le_trans (Y29.sqn b0.1) (szq_ge hk b0 b1).1
theorem szq_pos {k : Int} (hk : Kd k) {b0 b1 : Z2} (h : ¬ (b0 = (0, 0) ∧ b1 = (0, 0))) : 0 < szq k b0 b1 := by
  refine Int.lt_of_not_ge fun z => h ?_
  obtain ⟨h1, h2, h3, h4⟩ := szq_ge hk b0 b1
  have key : ∀ x : Int, x * x ≤ szq k b0 b1 → x = 0 := fun x hx => Classical.byContradiction fun ne => by
    have := Y29.sqp ne
    omega
  exact ⟨Prod.ext (key _ h1) (key _ h2), Prod.ext (key _ h3) (key _ h4)⟩
theorem szq_b {k : Int} (hk : Kd k) {b0 b1 : Z2} {m : Nat} (h : szq k b0 b1 < 2 ^ (2 * m)) : B2 m b0 ∧ B2 m b1 := by
  obtain ⟨h1, h2, h3, h4⟩ := szq_ge hk b0 b1
  have key : ∀ x : Int, x * x ≤ szq k b0 b1 → Bd m x := fun x hx => by
    rw [sq_na] at hx
    have e : (2 : Int) ^ (2 * m) = ((2 ^ m * 2 ^ m : Nat) : Int) := by
      rw [Nat.two_mul, Int.pow_add]
      simp
    rw [e] at h
    have h5 : x.natAbs * x.natAbs < 2 ^ m * 2 ^ m := by omega
    refine Nat.lt_of_not_ge fun z => ?_
    have := Nat.mul_le_mul z z
    omega
  exact ⟨⟨key _ h1, key _ h2⟩, ⟨key _ h3, key _ h4⟩⟩
theorem sqs_b {k : Int} (hk : Kd k) {b0 b1 : Z2} {m : Nat} (h0 : B2 m b0) (h1 : B2 m b1) : B2 (2 * m + 5) (sqs k b0 b1) := (add_b (mul_b hk h0 h0) (mul_b hk h1 h1)).mono (by omega)
theorem szq_lt {k : Int} (hk : Kd k) {b0 b1 : Z2} {m : Nat} (h0 : B2 m b0) (h1 : B2 m b1) : szq k b0 b1 < 2 ^ (2 * m + 8) := by
  have h := sqs_b hk h0 h1
  have h2 : B2 (2 * m + 7) (add (sqs k b0 b1) (mate k (sqs k b0 b1))) := (add_b h (mate_b (k := k) h)).mono (by omega)
  have h3 : (szq k b0 b1).natAbs < 2 ^ (2 * m + 7) := h2.1
  have h4 : 2 ^ (2 * m + 7) ≤ 2 ^ (2 * m + 8) := Nat.pow_le_pow_right (by decide) (by omega)
  have e : (2 : Int) ^ (2 * m + 8) = ((2 ^ (2 * m + 8) : Nat) : Int) := by simp
  rw [e]
  omega
/-- a change: nothing, told by p and q, small, not 0 -/
structure Sm (k : Int) (p0 q0 b0 b1 : Z2) : Prop where
  z : add (mul k p0 b0) (mul k q0 b1) = (0, 0)
  s : szq k b0 b1 < 2 ^ (2 * 320)
  n : ¬ (b0 = (0, 0) ∧ b1 = (0, 0))
theorem Sm.of {k : Int} (hk : Kd k) {p0 q0 b0 b1 : Z2} (z : add (mul k p0 b0) (mul k q0 b1) = (0, 0)) (h0 : B2 310 b0) (h1 : B2 310 b1) (n : ¬ (b0 = (0, 0) ∧ b1 = (0, 0))) : Sm k p0 q0 b0 b1 where
  z := z
  s := by
    have := szq_lt hk h0 h1
    have e : (2 : Int) ^ (2 * 310 + 8) < 2 ^ (2 * 320) := by decide
    omega
  n := n
theorem Sm.step {k : Int} (hk : Kd k) {p0 q0 b0 b1 s : Z2} (h : Sm k p0 q0 b0 b1) (hs : s ≠ (0, 0)) (hl : szq k (mul k b0 s) (mul k b1 s) < szq k b0 b1) : Sm k p0 q0 (mul k b0 s) (mul k b1 s) where
  z := by
    rw [← mul_assoc, ← mul_assoc, mul_comm k (mul k p0 b0), mul_comm k (mul k q0 b1), ← mul_add, h.z, mul_zero]
  s := Int.lt_trans hl h.s
  n := fun ⟨a, b⟩ => h.n ⟨mul_cancel hk a hs, mul_cancel hk b hs⟩
theorem Sm.b {k : Int} (hk : Kd k) {p0 q0 b0 b1 : Z2} (h : Sm k p0 q0 b0 b1) : B2 320 b0 ∧ B2 320 b1 := szq_b hk h.s
theorem Sm.sq {k : Int} (hk : Kd k) {p0 q0 b0 b1 : Z2} (h : Sm k p0 q0 b0 b1) : sqs k b0 b1 ≠ (0, 0) := fun e => by
  have := szq_pos hk h.n
  unfold szq at this
  rw [e] at this
  have z : (add (0, 0) (mate k (0, 0))).1 = 0 := by unfold add mate; split <;> simp
  rw [z] at this
  omega
/-! what is solved -/
structure Cm (k : Int) (p0 q0 c0 c1 f0 f1 d : Z2) : Prop where
  sm : Sm k p0 q0 c0 c1
  hp : add (mul k p0 f0) (mul k q0 f1) = d
  bf : B2 170000 f0 ∧ B2 170000 f1
  bd : B2 260 d
  e : d = euc k 600 p0 q0
  dp : Dv k d p0
  dq : Dv k d q0
  b0 : B2 40 p0 ∧ B2 40 q0
theorem Cm.sol {k : Int} {p0 q0 c0 c1 f0 f1 d : Z2} (h : Cm k p0 q0 c0 c1 f0 f1 d) (t v : Z2) : add (mul k p0 (rst k (mul k f0 t) c0 v)) (mul k q0 (rst k (mul k f1 t) c1 v)) = mul k t d := by
  rw [lin_rst, h.sm.z, ← mul_assoc, ← mul_assoc, mul_comm k (mul k p0 f0), mul_comm k (mul k q0 f1), ← mul_add, h.hp]
  unfold rst
  rw [mul_zero]
  unfold sub
  exact Prod.ext (by simp) (by simp)
/-! the law's own: in lowest terms -/
/-- in lowest terms -/
structure LO (a b n x y z : Int) : Prop where
  x : x = loA a b n
  y : y = loB a b n
  z : z = loN a b n
theorem LO.ls {a b n x y z k : Int} (h : LO a b n x y z) (hn : 0 < n) : lsD k x y = lsD k a b := by rw [h.x, h.y]; exact ls_lo hn
theorem LO.one {a b n x y z : Int} (h : LO a b n x y z) (hn : n = 1) : x = a ∧ y = b ∧ z = 1 := by
  subst hn
  have q := lo_self (a := a) (b := b) (n := 1) (by
    show Y02.isN a b 1 = true
    have : g3 a b 1 = 1 := by
      unfold g3
      have e : (1 : Int).natAbs = 1 := rfl
      rw [e, Nat.gcd_one_right]
      rfl
    unfold Y02.isN
    rw [this]
    decide)
  exact ⟨h.x.trans q.1, h.y.trans q.2.1, h.z.trans q.2.2⟩
theorem nm_n1 {a b : Int} : Nm a b 1 := by
  show Y02.isN a b 1 = true
  have : g3 a b 1 = 1 := by
    unfold g3
    have e : (1 : Int).natAbs = 1 := rfl
    rw [e, Nat.gcd_one_right]
    rfl
  unfold Y02.isN
  rw [this]
  decide
set_option exponentiation.threshold 2000

theorem fdiv_sc {x y g : Int} (hg : g ≠ 0) (hy : y ≠ 0) : (x * g).fdiv (y * g) = x.fdiv y := by
  by_cases hp : 0 < g
  · rw [Int.mul_comm x, Int.mul_comm y]
    exact Int.mul_fdiv_mul_of_pos _ _ hp
  · have := Int.mul_fdiv_mul_of_pos (a := -g) x y (by omega)
    rw [← this, Int.neg_mul, Int.neg_mul, Int.neg_fdiv_neg, Int.mul_comm x, Int.mul_comm y]
theorem lo_quo {t n x y z a : Int} {A : Int} (h : LO A y n x a z) (hn : n ≠ 0) : (2 * x + z).fdiv (2 * z) = (2 * A + n).fdiv (2 * n) := by
  obtain ⟨e1, e2, e3⟩ := lo_mul (a := A) (b := y) (n := n) hn
  rw [← h.x] at e1
  rw [← h.z] at e3
  have g := sg_ne (a := A) (b := y) hn
  generalize sg A y n = s at *
  subst e1 e3
  have hz : z ≠ 0 := fun e => by subst e; rw [Int.zero_mul] at hn; exact hn rfl
  rw [show 2 * (x * s) + z * s = (2 * x + z) * s by grind, show 2 * (z * s) = (2 * z) * s by grind, fdiv_sc g (by omega)]
theorem lo_quo2 {n x y z a : Int} {A : Int} (h : LO y A n a x z) (hn : n ≠ 0) : (2 * x + z).fdiv (2 * z) = (2 * A + n).fdiv (2 * n) := by
  obtain ⟨e1, e2, e3⟩ := lo_mul (a := y) (b := A) (n := n) hn
  rw [← h.y] at e2
  rw [← h.z] at e3
  have g := sg_ne (a := y) (b := A) hn
  generalize sg y A n = s at *
  subst e2 e3
  have hz : z ≠ 0 := fun e => by subst e; rw [Int.zero_mul] at hn; exact hn rfl
  rw [show 2 * (x * s) + z * s = (2 * x + z) * s by grind, show 2 * (z * s) = (2 * z) * s by grind, fdiv_sc g (by omega)]
theorem lo_one {a b n x y z : Int} (h : LO a b n x y z) (hn : n ≠ 0) : z = 1 ↔ n ∣ a ∧ n ∣ b := by
  obtain ⟨e1, e2, e3⟩ := lo_mul (a := a) (b := b) (n := n) hn
  rw [← h.z] at e3
  constructor
  · intro hz
    subst hz
    rw [Int.one_mul] at e3
    obtain ⟨d1, d2, _⟩ := sg_dvd a b n
    rw [e3] at d1 d2
    exact ⟨d1, d2⟩
  · rintro ⟨⟨u, rfl⟩, ⟨v, rfl⟩⟩
    have hnm : Nm u v 1 := nm_n1
    have q := lo_is (a := n * u) (b := n * v) (n := n) (c := u) (e := v) (m := 1) hn hnm (by grind) (by grind)
    exact h.z.trans q.2.2
theorem dvb_lo {k : Int} (hk : Kd k) {p q : Z2} {x y z : Int} (hq : q ≠ (0, 0)) (h : LO ((mul k p (mate k q)).1 * 1) ((mul k p (mate k q)).2 * 1) (1 * nrm k q) x y z) : z = 1 ↔ dvb k q p := by
  have hn := nrm_ne hk hq
  rw [lo_one h (by omega), dvb_iff hk, Int.one_mul, Int.mul_one, Int.mul_one]
  constructor
  · rintro ⟨⟨u, hu⟩, ⟨v, hv⟩⟩
    refine ⟨(u, v), sub_zero_iff.mp (mul_cancel hk (q := mate k q) ?_ (fun e => ?_))⟩
    · rw [mul_comm, mul_sub, mul_comm k (mate k q) p, mul_comm k (mate k q), mul_assoc, mul_mate, mul_int]
      exact sub_zero_iff.mpr (Prod.ext (by rw [hu]; grind) (by rw [hv]; grind))
    · have : nrm k (mate k q) = 0 := by rw [e]; unfold nrm; split <;> simp
      rw [nrm_mate] at this
      exact hn this
  · rintro ⟨t, rfl⟩
    rw [mul_assoc, mul_mate, mul_int]
    exact ⟨⟨t.1, Int.mul_comm _ _⟩, ⟨t.2, Int.mul_comm _ _⟩⟩
end Y75

set_option Elab.async false
set_option linter.all false
set_option maxRecDepth 100000
set_option maxHeartbeats 4000000
namespace Y75
open PySem PySem.Spec PyProof.Rows L2 Evl Wz Y02
theorem det_g {k : Int} {p0 q0 f0 f1 c0 c1 p q : Z2} (hp : add (mul k p0 f0) (mul k q0 f1) = p) (hq : add (mul k p0 c0) (mul k q0 c1) = q) : sub (mul k p c1) (mul k q f1) = mul k p0 (sub (mul k f0 c1) (mul k f1 c0)) ∧ sub (mul k q f0) (mul k p c0) = mul k q0 (sub (mul k f0 c1) (mul k f1 c0)) := by
  subst hp hq
  unfold sub add mul
  by_cases h5 : k = 5
  · simp only [if_pos h5]
    exact ⟨Prod.ext (by grind) (by grind), Prod.ext (by grind) (by grind)⟩
  · simp only [if_neg h5]
    exact ⟨Prod.ext (by grind) (by grind), Prod.ext (by grind) (by grind)⟩
theorem by_dg {k : Int} (hk : Kd k) {d c w : Z2} {n m : Nat} (hd : d ≠ (0, 0)) (e : mul k d c = w) (hw : B2 n w) (hm : B2 m d) : B2 (n + m + 5) c := by_d hk hd (.inl rfl) (s := 1) (p := w) (e.trans (mul_one k w).symm) hw hm
theorem gram (k : Int) (g0 g1 c0 c1 u : Z2) : mul k (sqs k c0 c1) (rst k g0 c0 u) = add (mul k c1 (sub (mul k g0 c1) (mul k g1 c0))) (mul k c0 (rst k (add (mul k g0 c0) (mul k g1 c1)) (sqs k c0 c1) u)) := by
  unfold sqs rst sub add mul
  by_cases h5 : k = 5
  · simp only [if_pos h5]; exact Prod.ext (by grind) (by grind)
  · simp only [if_neg h5]; exact Prod.ext (by grind) (by grind)
theorem gram2 (k : Int) (g0 g1 c0 c1 u : Z2) : mul k (sqs k c0 c1) (rst k g1 c1 u) = sub (mul k c1 (rst k (add (mul k g0 c0) (mul k g1 c1)) (sqs k c0 c1) u)) (mul k c0 (sub (mul k g0 c1) (mul k g1 c0))) := by
  unfold sqs rst sub add mul
  by_cases h5 : k = 5
  · simp only [if_pos h5]; exact Prod.ext (by grind) (by grind)
  · simp only [if_neg h5]; exact Prod.ext (by grind) (by grind)
theorem sub_z (p : Z2) : sub p (0, 0) = p := by unfold sub; exact Prod.ext (by simp) (by simp)
theorem b2_neg {n : Nat} {p : Z2} (h : B2 n (sub (0, 0) p)) : B2 n p := by
  unfold sub at h
  exact ⟨by have := h.1; unfold Bd at *; dsimp only at this; omega, by have := h.2; unfold Bd at *; dsimp only at this; omega⟩
theorem b2_z {n : Nat} : B2 n ((0, 0) : Z2) := ⟨Nat.pow_pos (by decide), Nat.pow_pos (by decide)⟩
theorem sol_b {k : Int} (hk : Kd k) {p0 q0 c0 c1 g0 g1 z : Z2} (hp : B2 40 p0) (hq : B2 40 q0) (hz : B2 300 z) (sm : Sm k p0 q0 c0 c1) (e : add (mul k p0 g0) (mul k q0 g1) = z) (h0 : p0 = (0, 0) → q0 = (0, 0) → g0 = (0, 0) ∧ g1 = (0, 0)) :
    B2 1900 (rst k g0 c0 (quo k (add (mul k g0 c0) (mul k g1 c1)) (sqs k c0 c1))) ∧ B2 1900 (rst k g1 c1 (quo k (add (mul k g0 c0) (mul k g1 c1)) (sqs k c0 c1))) := by
  obtain ⟨hc0, hc1⟩ := sm.b hk
  have hs := sqs_b hk hc0 hc1
  have hD : B2 700 (sub (mul k g0 c1) (mul k g1 c0)) := by
    obtain ⟨e1, e2⟩ := det_g e sm.z
    rw [zero_mul, sub_z] at e1
    rw [zero_mul] at e2
    by_cases hp0 : p0 = (0, 0)
    · by_cases hq0 : q0 = (0, 0)
      · obtain ⟨r0, r1⟩ := h0 hp0 hq0
        rw [r0, r1, zero_mul, zero_mul]
        exact b2_z
      · have hb : B2 (300 + 320 + 4 + 1) (sub (0, 0) (mul k z c0)) := (sub_b (b2_z (n := 0)) (mul_b hk hz hc0)).mono (by omega)
        exact (by_dg hk hq0 e2.symm hb hq).mono (by omega)
    · exact (by_dg hk hp0 e1.symm (mul_b hk hz hc1) hp).mono (by omega)
  have hr := rst_bd (p := add (mul k g0 c0) (mul k g1 c1)) hk (sm.sq hk) hs
  exact ⟨(by_dg hk (sm.sq hk) (gram k g0 g1 c0 c1 _) (add_b (mul_b hk hc1 hD) (mul_b hk hc0 hr)) hs).mono (by omega), (by_dg hk (sm.sq hk) (gram2 k g0 g1 c0 c1 _) (sub_b (mul_b hk hc1 hr) (mul_b hk hc0 hD)) hs).mono (by omega)⟩
theorem Cm.sb {k : Int} (hk : Kd k) {p0 q0 c0 c1 f0 f1 d t z : Z2} (h : Cm k p0 q0 c0 c1 f0 f1 d) (hz : B2 300 z) (ht : z = mul k t d) (h0 : d = (0, 0) → t = (0, 0)) :
    B2 1900 (rst k (mul k f0 t) c0 (quo k (add (mul k (mul k f0 t) c0) (mul k (mul k f1 t) c1)) (sqs k c0 c1))) ∧ B2 1900 (rst k (mul k f1 t) c1 (quo k (add (mul k (mul k f0 t) c0) (mul k (mul k f1 t) c1)) (sqs k c0 c1))) := by
  refine sol_b hk h.b0.1 h.b0.2 hz h.sm ?_ fun e1 e2 => ?_
  · rw [← mul_assoc, ← mul_assoc, mul_comm k (mul k p0 f0), mul_comm k (mul k q0 f1), ← mul_add, h.hp, ht]
  · have hd : d = (0, 0) := by
      rw [← h.hp, e1, e2, zero_mul, zero_mul]
      exact add_zero _
    rw [h0 hd, mul_zero, mul_zero]
    exact ⟨rfl, rfl⟩
end Y75

set_option Elab.async false
set_option linter.all false
set_option maxRecDepth 100000
set_option maxHeartbeats 4000000
/-! M37: the order of numbers x + y * root K, by squares; for the rows (k37). -/
namespace Y37
open Y02 (K3 Kd lsD sgL)
/-- x + y * root K is more than 0 -/
def posL (K x y : Int) : Prop := (0 ≤ x ∧ 0 ≤ y ∧ (x ≠ 0 ∨ y ≠ 0)) ∨ (0 < x ∧ y < 0 ∧ K * (y * y) < x * x) ∨ (x < 0 ∧ 0 < y ∧ x * x < K * (y * y))
theorem sq_lt {a b : Int} (h0 : 0 ≤ a) (h : a < b) : a * a < b * b := by
  have h1 := Int.mul_le_mul_of_nonneg_left (show a ≤ b by omega) h0
  have h2 := Int.mul_lt_mul_of_pos_right h (show 0 < b by omega)
  omega
theorem lt_sq {a b : Int} (h0 : 0 ≤ b) (h : a * a < b * b) : a < b := Int.not_le.mp fun z => by
  have := Int.mul_le_mul z z h0 (by omega)
  omega
/-- of the roots: s ≤ root K * t, p ≤ root K * q, so s * p ≤ K * t * q -/
theorem sq_mul {K s p t q : Int} (hK : 0 ≤ K) (h1 : s * s ≤ K * (t * t)) (h2 : p * p ≤ K * (q * q)) (t0 : 0 ≤ t) (q0 : 0 ≤ q) : s * p ≤ K * (t * q) := Int.not_lt.mp fun z => by
  have hk : 0 ≤ K * (t * q) := Int.mul_nonneg hK (Int.mul_nonneg t0 q0)
  have h3 := sq_lt hk z
  have h4 := Int.mul_le_mul h1 h2 (Y29.sqn p) (Int.mul_nonneg hK (Y29.sqn t))
  have e1 : K * (t * q) * (K * (t * q)) = K * (t * t) * (K * (q * q)) := by grind
  have e2 : s * p * (s * p) = s * s * (p * p) := by grind
  rw [e1, e2] at h3
  omega
/-- sums of two that lie below, strictly in one -/
theorem sq_sum {K s p t q : Int} (hK : 0 ≤ K) (h1 : s * s ≤ K * (t * t)) (h2 : p * p < K * (q * q)) (t0 : 0 ≤ t) (q0 : 0 ≤ q) : (s + p) * (s + p) < K * ((t + q) * (t + q)) := by
  have h3 := sq_mul hK h1 (Int.le_of_lt h2) t0 q0
  have e1 : (s + p) * (s + p) = s * s + 2 * (s * p) + p * p := by grind
  have e2 : K * ((t + q) * (t + q)) = K * (t * t) + 2 * (K * (t * q)) + K * (q * q) := by grind
  rw [e1, e2]
  omega
theorem sq_mul' {K s p t q : Int} (hK : 0 ≤ K) (h1 : K * (t * t) ≤ s * s) (h2 : K * (q * q) ≤ p * p) (s0 : 0 ≤ s) (p0 : 0 ≤ p) : K * (t * q) ≤ s * p := Int.not_lt.mp fun z => by
  have h3 := sq_lt (Int.mul_nonneg s0 p0) z
  have h4 := Int.mul_le_mul h1 h2 (Int.mul_nonneg hK (Y29.sqn q)) (Y29.sqn s)
  have e1 : K * (t * q) * (K * (t * q)) = K * (t * t) * (K * (q * q)) := by grind
  have e2 : s * p * (s * p) = s * s * (p * p) := by grind
  rw [e1, e2] at h3
  omega
theorem sq_sum' {K s p t q : Int} (hK : 0 ≤ K) (h1 : K * (t * t) ≤ s * s) (h2 : K * (q * q) < p * p) (s0 : 0 ≤ s) (p0 : 0 ≤ p) : K * ((t + q) * (t + q)) < (s + p) * (s + p) := by
  have h3 := sq_mul' hK h1 (Int.le_of_lt h2) s0 p0
  have e1 : (s + p) * (s + p) = s * s + 2 * (s * p) + p * p := by grind
  have e2 : K * ((t + q) * (t + q)) = K * (t * t) + 2 * (K * (t * q)) + K * (q * q) := by grind
  rw [e1, e2]
  omega
theorem negsq (x : Int) : -x * -x = x * x := Int.neg_mul_neg x x
/-- the mixed sum -/
theorem pos_mix {K u v p q : Int} (hK : 0 < K) (u0 : 0 < u) (v0 : 0 < v) (h1 : K * (v * v) < u * u) (p0 : 0 < p) (q0 : 0 < q) (h2 : p * p < K * (q * q)) : posL K (u - p) (q - v) := by
  have hK' : 0 ≤ K := Int.le_of_lt hK
  by_cases a : p ≤ u
  · by_cases b : v ≤ q
    · refine .inl ⟨by omega, by omega, ?_⟩
      by_cases c : u - p = 0
      · refine .inr fun d => ?_
        have e1 : u = p := by omega
        have e2 : q = v := by omega
        subst e1 e2
        omega
      · exact .inl c
    · refine .inr (.inl ⟨?_, by omega, ?_⟩)
      · refine Int.not_le.mp fun z => ?_
        have e1 : u = p := by omega
        subst e1
        have h3 := Int.mul_lt_mul_of_pos_left (sq_lt (Int.le_of_lt q0) (show q < v by omega)) hK
        omega
      · refine Int.not_le.mp fun z => ?_
        have e : (q - v) * (q - v) = (v - q) * (v - q) := by rw [← negsq (q - v)]; congr 1 <;> omega
        rw [e] at z
        have h3 := sq_sum hK' z h2 (by omega) (Int.le_of_lt q0)
        rw [show u - p + p = u by omega, show v - q + q = v by omega] at h3
        omega
  · by_cases b : v < q
    · refine .inr (.inr ⟨by omega, by omega, ?_⟩)
      refine Int.not_le.mp fun z => ?_
      have e : (u - p) * (u - p) = (p - u) * (p - u) := by rw [← negsq (u - p)]; congr 1 <;> omega
      rw [e] at z
      have h3 := sq_sum' hK' z h1 (by omega) (Int.le_of_lt u0)
      rw [show p - u + u = p by omega, show q - v + v = q by omega] at h3
      omega
    · have h3 := sq_lt (Int.le_of_lt u0) (show u < p by omega)
      have h4 := Int.mul_le_mul_of_nonneg_left (Y02.sq_le (Int.le_of_lt q0) (show q ≤ v by omega)) hK'
      omega
theorem pos_add {K a b c d : Int} (hK : 0 < K) (h : posL K a b) (g : posL K c d) : posL K (a + c) (b + d) := by
  have hK' : 0 ≤ K := Int.le_of_lt hK
  -- with both parts not below 0
  have key : ∀ {a b c d : Int}, (0 ≤ a ∧ 0 ≤ b ∧ (a ≠ 0 ∨ b ≠ 0)) → posL K c d → posL K (a + c) (b + d) := fun {a b c d} h g => by
    obtain ⟨h1, h2, h3⟩ := h
    rcases g with ⟨g1, g2, g3⟩ | ⟨g1, g2, g3⟩ | ⟨g1, g2, g3⟩
    · exact .inl ⟨by omega, by omega, by omega⟩
    · by_cases q : 0 ≤ b + d
      · exact .inl ⟨by omega, q, by omega⟩
      · refine .inr (.inl ⟨by omega, by omega, ?_⟩)
        have e1 := Y02.sq_le (Int.le_of_lt g1) (show c ≤ a + c by omega)
        have e2 := Y02.sq_le (show 0 ≤ -(b + d) by omega) (show -(b + d) ≤ -d by omega)
        rw [negsq, negsq] at e2
        have e3 := Int.mul_le_mul_of_nonneg_left e2 hK'
        omega
    · by_cases q : 0 ≤ a + c
      · exact .inl ⟨q, by omega, by omega⟩
      · refine .inr (.inr ⟨by omega, by omega, ?_⟩)
        have e1 := Y02.sq_le (show 0 ≤ -(a + c) by omega) (show -(a + c) ≤ -c by omega)
        rw [negsq, negsq] at e1
        have e2 := Y02.sq_le (Int.le_of_lt g2) (show d ≤ b + d by omega)
        have e3 := Int.mul_le_mul_of_nonneg_left e2 hK'
        omega
  rcases h with h | ⟨h1, h2, h3⟩ | ⟨h1, h2, h3⟩
  · exact key h g
  · rcases g with g | ⟨g1, g2, g3⟩ | ⟨g1, g2, g3⟩
    · rw [Int.add_comm a, Int.add_comm b]
      exact key g (.inr (.inl ⟨h1, h2, h3⟩))
    · refine .inr (.inl ⟨by omega, by omega, ?_⟩)
      have e := sq_sum' (K := K) (s := a) (p := c) (t := -b) (q := -d) hK' (by rw [negsq]; omega) (by rw [negsq]; exact g3) (by omega) (by omega)
      rw [show -b + -d = -(b + d) by omega, negsq] at e
      exact e
    · have e := pos_mix (u := a) (v := -b) (p := -c) (q := d) hK h1 (by omega) (by rw [negsq]; exact h3) (by omega) g2 (by rw [negsq]; exact g3)
      rw [show a - -c = a + c by omega, show d - -b = b + d by omega] at e
      exact e
  · rcases g with g | ⟨g1, g2, g3⟩ | ⟨g1, g2, g3⟩
    · rw [Int.add_comm a, Int.add_comm b]
      exact key g (.inr (.inr ⟨h1, h2, h3⟩))
    · have e := pos_mix (u := c) (v := -d) (p := -a) (q := b) hK g1 (by omega) (by rw [negsq]; exact g3) (by omega) h2 (by rw [negsq]; exact h3)
      rw [show c - -a = a + c by omega, show b - -d = b + d by omega] at e
      exact e
    · refine .inr (.inr ⟨by omega, by omega, ?_⟩)
      have e := sq_sum (K := K) (s := -a) (p := -c) (t := b) (q := d) hK' (by rw [negsq]; omega) (by rw [negsq]; exact g3) (by omega) (by omega)
      rw [show -a + -c = -(a + c) by omega, negsq] at e
      exact e
/-- what is told by the sign -/
theorem pos_sg {K x y : Int} (hK : K3 K) : posL K x y ↔ 0 < sgL K x y := by
  have hp : ∀ {p : Prop} [Decidable p], p → Y02.b01 (decide p) = 1 := fun h => Y02.bp h
  have hn : ∀ {p : Prop} [Decidable p], ¬ p → Y02.b01 (decide p) = 0 := fun h => Y02.bn h
  have kk : 0 < K := by rcases hK with rfl | rfl | rfl <;> decide
  have eK : K * y * y = K * (y * y) := Int.mul_assoc ..
  unfold Y02.sgL
  rw [eK]
  constructor
  · rintro (⟨h1, h2, h3⟩ | ⟨h1, h2, h3⟩ | ⟨h1, h2, h3⟩)
    · rw [if_pos (Int.mul_nonneg h1 h2), hp (show 0 < x + y by omega), hn (show ¬ x + y < 0 by omega)]
      decide
    · rw [if_neg (Y02.mul_neg_of (.inl ⟨h1, h2⟩)), if_pos h1, hp (show 0 < x * x - K * (y * y) by omega), hn (show ¬ x * x - K * (y * y) < 0 by omega)]
      decide
    · rw [if_neg (Y02.mul_neg_of (.inr ⟨h1, h2⟩)), if_neg (show ¬ 0 < x by omega), hp (show x * x - K * (y * y) < 0 by omega), hn (show ¬ 0 < x * x - K * (y * y) by omega)]
      decide
  · intro h
    by_cases a : 0 ≤ x * y
    · rw [if_pos a] at h
      have hs : 0 < x + y := Classical.byContradiction fun z => by
        rw [hn z] at h
        by_cases w : x + y < 0
        · rw [hp w] at h; omega
        · rw [hn w] at h; omega
      have h1 : 0 ≤ x := Int.not_lt.mp fun z => Y02.mul_neg_of (.inr ⟨z, by omega⟩) a
      have h2 : 0 ≤ y := Int.not_lt.mp fun z => Y02.mul_neg_of (.inl ⟨by omega, z⟩) a
      exact .inl ⟨h1, h2, by omega⟩
    · rw [if_neg a] at h
      by_cases b : 0 < x
      · rw [if_pos b] at h
        have hd : 0 < x * x - K * (y * y) := Classical.byContradiction fun z => by
          rw [hn z] at h
          by_cases w : x * x - K * (y * y) < 0
          · rw [hp w] at h; omega
          · rw [hn w] at h; omega
        exact .inr (.inl ⟨b, Int.not_le.mp fun z => a (Int.mul_nonneg (by omega) z), by omega⟩)
      · rw [if_neg b] at h
        have hd : x * x - K * (y * y) < 0 := Classical.byContradiction fun z => by
          rw [hn z] at h
          by_cases w : 0 < x * x - K * (y * y)
          · rw [hp w] at h; omega
          · rw [hn w] at h; omega
        have hx : x ≠ 0 := fun z => a (by rw [z, Int.zero_mul]; exact Int.le_refl _)
        exact .inr (.inr ⟨by omega, Int.not_le.mp fun z => a (Y02.mul_nn_of (.inr ⟨by omega, z⟩)), by omega⟩)
/-- x + y * w is more than 0 -/
def pos (k : Int) (z : Y75.Z2) : Prop := 0 < lsD k z.1 z.2
theorem pos_is {k : Int} (hk : Kd k) (z : Y75.Z2) : pos k z ↔ posL k (if k = 5 then 2 * z.1 + z.2 else z.1) z.2 := by
  have h3 : K3 k := hk
  unfold pos Y02.lsD
  by_cases h5 : k = 5
  · rw [if_pos h5, if_pos h5, pos_sg h3]
  · rw [if_neg h5, if_neg h5, pos_sg h3]
theorem pos_plus {k : Int} (hk : Kd k) {p q : Y75.Z2} (h : pos k p) (g : pos k q) : pos k (Y75.add p q) := by
  have kk : 0 < k := by rcases hk with rfl | rfl | rfl <;> decide
  rw [pos_is hk] at h g ⊢
  have e := pos_add kk h g
  unfold Y75.add
  by_cases h5 : k = 5
  · simp only [if_pos h5] at e ⊢
    rw [show 2 * (p.1 + q.1) + (p.2 + q.2) = 2 * p.1 + p.2 + (2 * q.1 + q.2) by omega]
    exact e
  · simp only [if_neg h5] at e ⊢
    exact e
end Y37

set_option Elab.async false
set_option linter.all false
set_option maxRecDepth 100000
set_option maxHeartbeats 4000000
/-! M37b: products, and that each number is more than 0, or less, or 0. -/
namespace Y37
open Y02 (K3 Kd lsD sgL)
theorem nz {K x y : Int} (hK : K3 K) (h : x ≠ 0 ∨ y ≠ 0) : x * x ≠ K * (y * y) := fun e => by
  have := Y02.irr (K := K) (x := x) (y := y) hK (by rw [Int.mul_assoc]; omega)
  omega
/-- by the norm's sign -/
theorem pos_n {K x y : Int} (hK : K3 K) : posL K x y ↔ (K * (y * y) < x * x ∧ 0 < x) ∨ (x * x < K * (y * y) ∧ 0 < y) := by
  have kk : 0 < K := by rcases hK with rfl | rfl | rfl <;> decide
  constructor
  · rintro (⟨h1, h2, h3⟩ | ⟨h1, h2, h3⟩ | ⟨h1, h2, h3⟩)
    · have ne := nz hK h3
      by_cases q : K * (y * y) < x * x
      · refine .inl ⟨q, ?_⟩
        have := Int.mul_nonneg (Int.le_of_lt kk) (Y29.sqn y)
        exact Int.not_le.mp fun z => by
          have e : x = 0 := by omega
          subst e
          omega
      · refine .inr ⟨by omega, ?_⟩
        exact Int.not_le.mp fun z => by
          have e : y = 0 := by omega
          subst e
          have := Y29.sqn x
          simp at q
          omega
    · exact .inl ⟨h3, h1⟩
    · exact .inr ⟨h3, h2⟩
  · rintro (⟨h1, h2⟩ | ⟨h1, h2⟩)
    · by_cases q : 0 ≤ y
      · exact .inl ⟨by omega, q, .inl (by omega)⟩
      · exact .inr (.inl ⟨h2, by omega, h1⟩)
    · by_cases q : 0 ≤ x
      · exact .inl ⟨q, by omega, .inr (by omega)⟩
      · exact .inr (.inr ⟨by omega, h2, h1⟩)
theorem norm_mul (K a b c d : Int) : (a * c + K * (b * d)) * (a * c + K * (b * d)) - K * ((a * d + c * b) * (a * d + c * b)) = (a * a - K * (b * b)) * (c * c - K * (d * d)) := by grind
theorem abs_le_of_sq {a b : Int} (hb : 0 ≤ b) (h : a * a ≤ b * b) : -b ≤ a ∧ a ≤ b := by
  constructor
  · exact Int.not_lt.mp fun z => by
      have := sq_lt hb (show b < -a by omega)
      rw [negsq] at this
      omega
  · exact Int.not_lt.mp fun z => by
      have := sq_lt hb z
      omega
theorem pos_mulL {K a b c d : Int} (hK : K3 K) (h : posL K a b) (g : posL K c d) : posL K (a * c + K * (b * d)) (a * d + c * b) := by
  have kk : 0 < K := by rcases hK with rfl | rfl | rfl <;> decide
  have hK' : 0 ≤ K := Int.le_of_lt kk
  have nm := norm_mul K a b c d
  have sa := Y29.sqn a
  have sb := Y29.sqn b
  have sc := Y29.sqn c
  have sd := Y29.sqn d
  have kb := Int.mul_nonneg hK' sb
  have kd := Int.mul_nonneg hK' sd
  rw [pos_n hK] at h g ⊢
  -- what both products are at most
  have q1 : (K * (b * d)) * (K * (b * d)) = (K * (b * b)) * (K * (d * d)) := by grind
  have q2 : (a * c) * (a * c) = (a * a) * (c * c) := by grind
  have q3 : K * ((c * b) * (c * b)) = (c * c) * (K * (b * b)) := by grind
  have q4 : K * ((a * d) * (a * d)) = (a * a) * (K * (d * d)) := by grind
  have canc : ∀ {u v : Int}, K * u ≤ K * v → u ≤ v := fun {u v} e => Int.not_lt.mp fun z => by
    have := Int.mul_lt_mul_of_pos_left z kk
    omega
  rcases h with ⟨h1, h2⟩ | ⟨h1, h2⟩ <;> rcases g with ⟨g1, g2⟩ | ⟨g1, g2⟩
  · have n3 := Int.mul_pos (show 0 < a * a - K * (b * b) by omega) (show 0 < c * c - K * (d * d) by omega)
    rw [← nm] at n3
    have e := Int.mul_le_mul (Int.le_of_lt h1) (Int.le_of_lt g1) kd sa
    rw [← q1, ← q2] at e
    have ab := abs_le_of_sq (Int.le_of_lt (Int.mul_pos h2 g2)) e
    refine .inl ⟨by omega, ?_⟩
    exact Int.not_le.mp fun z => by
      have e0 : a * c + K * (b * d) = 0 := by omega
      rw [e0] at n3
      have := Int.mul_nonneg hK' (Y29.sqn (a * d + c * b))
      omega
  · have n3 := Int.mul_neg_of_pos_of_neg (show 0 < a * a - K * (b * b) by omega) (show c * c - K * (d * d) < 0 by omega)
    rw [← nm] at n3
    have e := Int.mul_le_mul (Int.le_of_lt g1) (Int.le_of_lt h1) kb kd
    rw [Int.mul_comm (K * (d * d)), ← q3, ← q4] at e
    have ab := abs_le_of_sq (Int.le_of_lt (Int.mul_pos h2 g2)) (canc e)
    refine .inr ⟨by omega, ?_⟩
    exact Int.not_le.mp fun z => by
      have e0 : a * d + c * b = 0 := by omega
      rw [e0] at n3
      have := Y29.sqn (a * c + K * (b * d))
      omega
  · have n3 := Int.mul_neg_of_neg_of_pos (show a * a - K * (b * b) < 0 by omega) (show 0 < c * c - K * (d * d) by omega)
    rw [← nm] at n3
    have e := Int.mul_le_mul (Int.le_of_lt h1) (Int.le_of_lt g1) kd kb
    rw [Int.mul_comm (K * (b * b)), ← q3, ← q4] at e
    have ab := abs_le_of_sq (Int.le_of_lt (Int.mul_pos g2 h2)) (canc e)
    refine .inr ⟨by omega, ?_⟩
    exact Int.not_le.mp fun z => by
      have e0 : a * d + c * b = 0 := by omega
      rw [e0] at n3
      have := Y29.sqn (a * c + K * (b * d))
      omega
  · have n3 := Int.mul_pos_of_neg_of_neg (show a * a - K * (b * b) < 0 by omega) (show c * c - K * (d * d) < 0 by omega)
    rw [← nm] at n3
    have e := Int.mul_le_mul (Int.le_of_lt h1) (Int.le_of_lt g1) sc kb
    rw [← q1, ← q2] at e
    have ab := abs_le_of_sq (Int.mul_nonneg hK' (Int.le_of_lt (Int.mul_pos h2 g2))) e
    refine .inl ⟨by omega, ?_⟩
    exact Int.not_le.mp fun z => by
      have e0 : a * c + K * (b * d) = 0 := by omega
      rw [e0] at n3
      have := Int.mul_nonneg hK' (Y29.sqn (a * d + c * b))
      omega
theorem pos_total {K x y : Int} (hK : K3 K) (h : x ≠ 0 ∨ y ≠ 0) : posL K x y ∨ posL K (-x) (-y) := by
  have ne := nz hK h
  rw [pos_n hK, pos_n hK, negsq, negsq]
  by_cases q : K * (y * y) < x * x
  · have hx : x ≠ 0 := fun z => by
      subst z
      have : 0 ≤ K * (y * y) := Int.mul_nonneg (by rcases hK with rfl | rfl | rfl <;> decide) (Y29.sqn y)
      omega
    by_cases z : 0 < x
    · exact .inl (.inl ⟨q, z⟩)
    · exact .inr (.inl ⟨q, by omega⟩)
  · have hy : y ≠ 0 := fun z => by
      subst z
      have := Y29.sqn x
      simp at q
      omega
    by_cases z : 0 < y
    · exact .inl (.inr ⟨by omega, z⟩)
    · exact .inr (.inr ⟨by omega, by omega⟩)
theorem pos_not {K x y : Int} (hK : K3 K) (h : posL K x y) (g : posL K (-x) (-y)) : False := by
  rw [pos_n hK] at h g
  rw [negsq, negsq] at g
  omega
theorem pos_twice {K x y : Int} : posL K (2 * x) (2 * y) ↔ posL K x y := by
  have e1 : 2 * x * (2 * x) = 4 * (x * x) := by grind
  have e2 : K * (2 * y * (2 * y)) = 4 * (K * (y * y)) := by grind
  unfold posL
  rw [e1, e2]
  omega
end Y37

set_option Elab.async false
set_option linter.all false
set_option maxRecDepth 100000
set_option maxHeartbeats 4000000
/-! M37c: the order of Z[w]. -/
namespace Y37
open Y02 (K3 Kd lsD sgL)
open Y75 (Z2 mul mate add sub)
theorem pos_times {k : Int} (hk : Kd k) {p q : Z2} (h : pos k p) (g : pos k q) : pos k (mul k p q) := by
  have h3 : K3 k := hk
  rw [pos_is hk] at h g ⊢
  have e := pos_mulL h3 h g
  unfold Y75.mul
  by_cases h5 : k = 5
  · simp only [if_pos h5] at e ⊢
    subst h5
    refine (pos_twice (K := 5)).mp ?_
    rw [show 2 * (2 * (p.1 * q.1 + p.2 * q.2) + (p.1 * q.2 + p.2 * q.1 + p.2 * q.2)) = (2 * p.1 + p.2) * (2 * q.1 + q.2) + 5 * (p.2 * q.2) by grind, show 2 * (p.1 * q.2 + p.2 * q.1 + p.2 * q.2) = (2 * p.1 + p.2) * q.2 + (2 * q.1 + q.2) * p.2 by grind]
    exact e
  · simp only [if_neg h5] at e ⊢
    rw [show p.1 * q.1 + k * p.2 * q.2 = p.1 * q.1 + k * (p.2 * q.2) by rw [Int.mul_assoc], show p.1 * q.2 + p.2 * q.1 = p.1 * q.2 + q.1 * p.2 by rw [Int.mul_comm p.2]]
    exact e
def neg (p : Z2) : Z2 := (-p.1, -p.2)
theorem pos_tot {k : Int} (hk : Kd k) {p : Z2} (h : p ≠ (0, 0)) : pos k p ∨ pos k (neg p) := by
  have h3 : K3 k := hk
  have h' : p.1 ≠ 0 ∨ p.2 ≠ 0 := Classical.byContradiction fun z => h (Prod.ext (Classical.byContradiction fun a => z (.inl a)) (Classical.byContradiction fun a => z (.inr a)))
  rw [pos_is hk, pos_is hk]
  unfold neg
  by_cases h5 : k = 5
  · simp only [if_pos h5]
    rw [show 2 * -p.1 + -p.2 = -(2 * p.1 + p.2) by omega]
    exact pos_total h3 (by omega)
  · simp only [if_neg h5]
    exact pos_total h3 h'
theorem pos_no {k : Int} (hk : Kd k) {p : Z2} (h : pos k p) (g : pos k (neg p)) : False := by
  have h3 : K3 k := hk
  rw [pos_is hk] at h g
  unfold neg at g
  by_cases h5 : k = 5
  · simp only [if_pos h5] at h g
    rw [show 2 * -p.1 + -p.2 = -(2 * p.1 + p.2) by omega] at g
    exact pos_not h3 h g
  · simp only [if_neg h5] at h g
    exact pos_not h3 h g
theorem pos_z {k : Int} (hk : Kd k) (h : pos k (0, 0)) : False := pos_no hk h h
/-- less: told by the sign of the difference -/
def lt (k : Int) (p q : Z2) : Prop := pos k (sub q p)
theorem lt_trans {k : Int} (hk : Kd k) {p q r : Z2} (h : lt k p q) (g : lt k q r) : lt k p r := by
  have e := pos_plus hk h g
  unfold Y75.add Y75.sub at e
  dsimp only at e
  unfold lt Y75.sub
  rw [show r.1 - p.1 = q.1 - p.1 + (r.1 - q.1) by omega, show r.2 - p.2 = q.2 - p.2 + (r.2 - q.2) by omega]
  exact e
theorem lt_irr {k : Int} (hk : Kd k) {p : Z2} (h : lt k p p) : False := by
  unfold lt Y75.sub at h
  rw [Int.sub_self, Int.sub_self] at h
  exact pos_z hk h
theorem lt_tot {k : Int} (hk : Kd k) {p q : Z2} (h : p ≠ q) : lt k p q ∨ lt k q p := by
  have ne : sub q p ≠ (0, 0) := fun z => h (Y75.sub_zero_iff.mp z).symm
  rcases pos_tot hk ne with g | g
  · exact .inl g
  · refine .inr ?_
    unfold lt
    have e : sub p q = neg (sub q p) := by
      unfold neg Y75.sub
      exact Prod.ext (by dsimp only; omega) (by dsimp only; omega)
    rw [e]
    exact g
theorem lt_add {k : Int} {p q : Z2} (r : Z2) : lt k (add p r) (add q r) ↔ lt k p q := by
  unfold lt Y75.add Y75.sub
  dsimp only
  rw [show q.1 + r.1 - (p.1 + r.1) = q.1 - p.1 by omega, show q.2 + r.2 - (p.2 + r.2) = q.2 - p.2 by omega]
theorem lt_mul {k : Int} (hk : Kd k) {p q u : Z2} (hu : pos k u) (h : lt k p q) : lt k (mul k u p) (mul k u q) := by
  have e := pos_times hk hu h
  unfold lt
  rw [← Y75.mul_sub]
  exact e
theorem lt_mul_iff {k : Int} (hk : Kd k) {p q u : Z2} (hu : pos k u) : lt k (mul k u p) (mul k u q) ↔ lt k p q := by
  constructor
  · intro h
    by_cases e : p = q
    · subst e
      exact (lt_irr hk h).elim
    · rcases lt_tot hk e with g | g
      · exact g
      · exact (lt_irr hk (lt_trans hk h (lt_mul hk hu g))).elim
  · exact lt_mul hk hu
/-- the sign of the difference, as the program tells it -/
theorem lt_ls {k : Int} {p q : Z2} : lt k p q ↔ 0 < lsD k (q.1 - p.1) (q.2 - p.2) := Iff.rfl
theorem pos_int {k : Int} (hk : Kd k) {n : Int} : pos k (n, 0) ↔ 0 < n := by
  rw [pos_is hk]
  by_cases h5 : k = 5
  · simp only [if_pos h5]
    unfold posL
    simp
    omega
  · simp only [if_neg h5]
    unfold posL
    simp
    omega
end Y37

set_option Elab.async false
set_option linter.all false
set_option maxRecDepth 100000
set_option maxHeartbeats 4000000
/-! M37d: one list alone is in order and has given members; the units of the scale. -/
namespace Y37
open Y02 (K3 Kd lsD sgL)
open Y75 (Z2 mul mate add sub nrm)
theorem srt_uniq {k : Int} (hk : Kd k) : ∀ {L M : List Z2}, L.Pairwise (lt k) → M.Pairwise (lt k) → (∀ z, z ∈ L ↔ z ∈ M) → L = M
  | [], [], _, _, _ => rfl
  | [], m :: M, _, _, h => by
    have := (h m).mpr (.head _)
    cases this
  | l :: L, [], _, _, h => by
    have := (h l).mp (.head _)
    cases this
  | l :: L, m :: M, hl, hm, h => by
    obtain ⟨l1, l2⟩ := List.pairwise_cons.mp hl
    obtain ⟨m1, m2⟩ := List.pairwise_cons.mp hm
    have e : l = m := by
      rcases List.mem_cons.mp ((h l).mp (.head _)) with e | a
      · exact e
      · rcases List.mem_cons.mp ((h m).mpr (.head _)) with e | b
        · exact e.symm
        · exact (lt_irr hk (lt_trans hk (m1 l a) (l1 m b))).elim
    subst e
    have hh : ∀ z, z ∈ L ↔ z ∈ M := fun z => by
      constructor
      · intro a
        rcases List.mem_cons.mp ((h z).mp (.tail _ a)) with e | b
        · subst e
          exact (lt_irr hk (l1 z a)).elim
        · exact b
      · intro a
        rcases List.mem_cons.mp ((h z).mpr (.tail _ a)) with e | b
        · subst e
          exact (lt_irr hk (m1 z a)).elim
        · exact b
    rw [srt_uniq hk l2 m2 hh]
/-- a scale: its mate is its inverse, both more than 0 -/
structure Sc (k : Int) (s : Z2) : Prop where
  i : mul k s (mate k s) = (1, 0)
  p : pos k s
  q : pos k (mate k s)
theorem mate_mul {k : Int} (p q : Z2) : mate k (mul k p q) = mul k (mate k p) (mate k q) := by
  unfold Y75.mate Y75.mul
  by_cases h5 : k = 5
  · simp only [if_pos h5]
    exact Prod.ext (by grind) (by grind)
  · simp only [if_neg h5]
    exact Prod.ext (by grind) (by grind)
theorem mate_mate {k : Int} (p : Z2) : mate k (mate k p) = p := by
  unfold Y75.mate
  by_cases h5 : k = 5
  · simp only [if_pos h5]
    exact Prod.ext (by dsimp only; omega) (by dsimp only; omega)
  · simp only [if_neg h5]
    exact Prod.ext rfl (by dsimp only; omega)
theorem Sc.one {k : Int} (hk : Kd k) : Sc k (1, 0) := by
  have e : mate k (1, 0) = (1, 0) := by
    unfold Y75.mate
    split <;> rfl
  exact ⟨by rw [e, Y75.one_mul], (pos_int hk).mpr (by decide), by rw [e]; exact (pos_int hk).mpr (by decide)⟩
theorem Sc.mul {k : Int} (hk : Kd k) {s t : Z2} (h : Sc k s) (g : Sc k t) : Sc k (Y75.mul k s t) := by
  refine ⟨?_, pos_times hk h.p g.p, by rw [mate_mul]; exact pos_times hk h.q g.q⟩
  rw [mate_mul, Y75.mul_assoc, ← Y75.mul_assoc k t, Y75.mul_comm k t, Y75.mul_assoc, g.i, ← Y75.mul_assoc, h.i, Y75.one_mul]
theorem Sc.mate {k : Int} {s : Z2} (h : Sc k s) : Sc k (Y75.mate k s) := ⟨by rw [mate_mate, Y75.mul_comm]; exact h.i, h.q, by rw [mate_mate]; exact h.p⟩
/-- the unit that scales -/
def unS (k : Int) : Z2 := if k = 2 then (3, 2) else if k = 3 then (2, 1) else (1, 1)
theorem unS_sc {k : Int} (hk : Kd k) : Sc k (unS k) := by
  rcases hk with rfl | rfl | rfl <;> exact ⟨by decide, by unfold pos; decide, by unfold pos; decide⟩
end Y37

set_option Elab.async false
set_option linter.all false
set_option maxRecDepth 100000
set_option maxHeartbeats 4000000
/-! M37e: at most; floors and ceilings by the order. -/
namespace Y37
open Wz
open Y02 (K3 Kd lsD sgL flQ fl_ok)
open Y75 (Z2 mul mate add sub nrm)
def le (k : Int) (p q : Z2) : Prop := ¬ lt k q p
theorem le_refl {k : Int} (hk : Kd k) (p : Z2) : le k p p := fun h => lt_irr hk h
theorem lt_le {k : Int} (hk : Kd k) {p q : Z2} (h : lt k p q) : le k p q := fun g => lt_irr hk (lt_trans hk h g)
theorem le_lt {k : Int} (hk : Kd k) {p q r : Z2} (h : le k p q) (g : lt k q r) : lt k p r := by
  by_cases e : p = q
  · subst e; exact g
  · rcases lt_tot hk e with a | a
    · exact lt_trans hk a g
    · exact (h a).elim
theorem lt_le_t {k : Int} (hk : Kd k) {p q r : Z2} (h : lt k p q) (g : le k q r) : lt k p r := by
  by_cases e : q = r
  · subst e; exact h
  · rcases lt_tot hk e with a | a
    · exact lt_trans hk h a
    · exact (g a).elim
theorem le_trans {k : Int} (hk : Kd k) {p q r : Z2} (h : le k p q) (g : le k q r) : le k p r := fun z => g (lt_le_t hk z h)
theorem le_anti {k : Int} (hk : Kd k) {p q : Z2} (h : le k p q) (g : le k q p) : p = q := Classical.byContradiction fun e => by
  rcases lt_tot hk e with a | a
  · exact g a
  · exact h a
theorem sgl_ng {K x y : Int} (hK : K3 K) : 0 < sgL K (-x) (-y) ↔ sgL K x y < 0 := by
  have e1 : -x * -y = x * y := Int.neg_mul_neg x y
  have e2 : -x * -x = x * x := Int.neg_mul_neg x x
  have e3 : K * -y * -y = K * y * y := by grind
  have dc : ∀ {p q : Prop} [Decidable p] [Decidable q], (p ↔ q) → decide p = decide q := fun h => decide_eq_decide.mpr h
  unfold Y02.sgL
  rw [e1, e2, e3]
  by_cases h : 0 ≤ x * y
  · rw [if_pos h, if_pos h, show decide (0 < -x + -y) = decide (x + y < 0) from dc (by omega), show decide (-x + -y < 0) = decide (0 < x + y) from dc (by omega)]
    omega
  · have hx : x ≠ 0 := fun z => by
      subst z
      rw [Int.zero_mul] at h
      exact h (Int.le_refl _)
    rw [if_neg h, if_neg h]
    by_cases hp : 0 < x
    · rw [if_pos hp, if_neg (show ¬ 0 < -x by omega)]
      omega
    · rw [if_neg hp, if_pos (show 0 < -x by omega)]
      omega
theorem ls_ng {k : Int} (hk : Kd k) {a b : Int} : 0 < lsD k (-a) (-b) ↔ lsD k a b < 0 := by
  have h3 : K3 k := hk
  unfold Y02.lsD
  rw [show 2 * -a + -b = -(2 * a + b) by omega]
  split
  · exact sgl_ng h3
  · exact sgl_ng h3
theorem le_ls {k : Int} (hk : Kd k) {p q : Z2} : le k p q ↔ 0 ≤ lsD k (q.1 - p.1) (q.2 - p.2) := by
  unfold le
  rw [lt_ls, show p.1 - q.1 = -(q.1 - p.1) by omega, show p.2 - q.2 = -(q.2 - p.2) by omega, ls_ng hk]
  omega
theorem lt_ls2 {k : Int} (hk : Kd k) {p q : Z2} : lt k p q ↔ lsD k (p.1 - q.1) (p.2 - q.2) < 0 := by
  rw [lt_ls, show q.1 - p.1 = -(p.1 - q.1) by omega, show q.2 - p.2 = -(p.2 - q.2) by omega, ls_ng hk]
theorem le_int {k : Int} (hk : Kd k) {i j : Int} : le k (i, 0) (j, 0) ↔ i ≤ j := by
  unfold le lt Y75.sub
  rw [show ((i, 0) : Z2).1 - ((j, 0) : Z2).1 = i - j from rfl, show ((i, 0) : Z2).2 - ((j, 0) : Z2).2 = 0 from rfl, pos_int hk]
  omega
/-- the floor, by the order -/
theorem fl_le {k a b n m : Int} (hk : Kd k) (hn : 0 < n) : m ≤ flQ k a b n (rtI (k * b * b)) ↔ le k (m * n, 0) (a, b) := by
  obtain ⟨q1, q2, q3⟩ := rtI_ok (Y02.sq_nn (b := b) hk)
  obtain ⟨h1, h2⟩ := fl_ok (a := a) hk hn q1 q2 q3
  generalize flQ k a b n (rtI (k * b * b)) = f at *
  have g1 : le k (f * n, 0) (a, b) := (le_ls hk).mpr (by dsimp only; rw [Int.sub_zero]; exact h1)
  have g2 : lt k (a, b) ((f + 1) * n, 0) := (lt_ls2 hk).mpr (by dsimp only; rw [Int.sub_zero]; exact h2)
  constructor
  · intro h
    exact le_trans hk ((le_int hk).mpr (Int.mul_le_mul_of_nonneg_right h (Int.le_of_lt hn))) g1
  · intro h
    refine Int.not_lt.mp fun z => ?_
    have := (le_int hk).mpr (Int.mul_le_mul_of_nonneg_right (show f + 1 ≤ m by omega) (Int.le_of_lt hn))
    exact lt_irr hk (lt_le_t hk g2 (le_trans hk this h))
/-- the ceiling -/
theorem ce_le {k a b n m : Int} (hk : Kd k) (hn : 0 < n) : -(flQ k (-a) (-b) n (rtI (k * -b * -b))) ≤ m ↔ le k (a, b) (m * n, 0) := by
  have h := fl_le (a := -a) (b := -b) (m := -m) hk hn
  rw [le_ls hk] at h ⊢
  dsimp only at h ⊢
  rw [show -a - -m * n = m * n - a by rw [Int.neg_mul]; omega, show -b - 0 = 0 - b by omega] at h
  rw [← h]
  omega
end Y37

set_option Elab.async false
set_option linter.all false
set_option maxRecDepth 100000
set_option maxHeartbeats 4000000
/-! M37f: numbers a + b*w over n against whole ones; how many w the pairs of two spans have. -/
namespace Y37
open Wz
open Y02 (K3 Kd lsD sgL flQ fl_ok)
open Y75 (Z2 mul mate add sub nrm LO)
/-- n times p -/
def sc (n : Int) (p : Z2) : Z2 := (p.1 * n, p.2 * n)
theorem sc_mul {k : Int} {n : Int} {p : Z2} : mul k (n, 0) p = sc n p := by
  rw [Y75.mul_comm, Y75.mul_int]
  rfl
theorem lt_sc {k : Int} (hk : Kd k) {n : Int} {p q : Z2} (hn : 0 < n) : lt k (sc n p) (sc n q) ↔ lt k p q := by
  rw [← sc_mul (k := k), ← sc_mul (k := k)]
  exact lt_mul_iff hk ((pos_int hk).mpr hn)
theorem le_sc {k : Int} (hk : Kd k) {n : Int} {p q : Z2} (hn : 0 < n) : le k (sc n p) (sc n q) ↔ le k p q := not_congr (lt_sc hk hn)
theorem le_mul {k : Int} (hk : Kd k) {p q u : Z2} (hu : pos k u) : le k (mul k u p) (mul k u q) ↔ le k p q := not_congr (lt_mul_iff hk hu)
/-- (a + b*w) / n is at most t, at least t, less -/
def nle (k a b n : Int) (t : Z2) : Prop := le k (a, b) (sc n t)
def nge (k a b n : Int) (t : Z2) : Prop := le k (sc n t) (a, b)
theorem lo_nle {k a b n x y z : Int} (hk : Kd k) (h : LO a b n x y z) (hn : 0 < n) {t : Z2} : nle k x y z t ↔ nle k a b n t := by
  obtain ⟨e1, e2, e3⟩ := Y02.lo_mul (a := a) (b := b) (n := n) (by omega)
  have p := Y02.sg_pos (a := a) (b := b) hn
  rw [← h.x] at e1
  rw [← h.y] at e2
  rw [← h.z] at e3
  generalize Y02.sg a b n = g at *
  unfold nle
  rw [← le_sc hk p]
  unfold sc
  dsimp only
  rw [e1, e2, Int.mul_assoc t.1, e3, Int.mul_assoc t.2, e3]
theorem lo_nge {k a b n x y z : Int} (hk : Kd k) (h : LO a b n x y z) (hn : 0 < n) {t : Z2} : nge k x y z t ↔ nge k a b n t := by
  obtain ⟨e1, e2, e3⟩ := Y02.lo_mul (a := a) (b := b) (n := n) (by omega)
  have p := Y02.sg_pos (a := a) (b := b) hn
  rw [← h.x] at e1
  rw [← h.y] at e2
  rw [← h.z] at e3
  generalize Y02.sg a b n = g at *
  unfold nge
  rw [← le_sc hk p]
  unfold sc
  dsimp only
  rw [e1, e2, Int.mul_assoc t.1, e3, Int.mul_assoc t.2, e3]
/-- w less its mate -/
def dW (k : Int) : Z2 := if k = 5 then (-1, 2) else (0, 2)
def iW (k : Int) : Z2 := if k = 5 then (-1, 2) else (0, 1)
def nW (k : Int) : Int := if k = 5 then 5 else 2 * k
theorem dW_pos {k : Int} (hk : Kd k) : pos k (dW k) := by
  rcases hk with rfl | rfl | rfl <;> (unfold pos; decide)
theorem dW_iW {k : Int} (hk : Kd k) : mul k (dW k) (iW k) = (nW k, 0) := by
  rcases hk with rfl | rfl | rfl <;> decide
theorem nW_pos {k : Int} (hk : Kd k) : 0 < nW k := by
  rcases hk with rfl | rfl | rfl <;> decide
theorem mate_dif {k : Int} (z : Z2) : sub z (mate k z) = sc z.2 (dW k) := by
  unfold Y75.sub Y75.mate sc dW
  split
  · exact Prod.ext (by dsimp only; omega) (by dsimp only; omega)
  · exact Prod.ext (by dsimp only; omega) (by dsimp only; omega)
/-- over w less its mate, at most b -/
theorem fw_ce {k x y c b : Int} (hk : Kd k) (hc : 0 < c) : -(flQ k (-(mul k (x, y) (iW k)).1) (-(mul k (x, y) (iW k)).2) (c * nW k) (rtI (k * -(mul k (x, y) (iW k)).2 * -(mul k (x, y) (iW k)).2))) ≤ b ↔ nle k x y c (sc b (dW k)) := by
  rw [ce_le hk (Int.mul_pos hc (nW_pos hk)), ← le_mul hk (dW_pos hk)]
  have e1 : mul k (dW k) ((mul k (x, y) (iW k)).1, (mul k (x, y) (iW k)).2) = sc (nW k) (x, y) := by
    show mul k (dW k) (mul k (x, y) (iW k)) = _
    rw [Y75.mul_comm k (x, y), ← Y75.mul_assoc, dW_iW hk, sc_mul]
  have e2 : mul k (dW k) (b * (c * nW k), 0) = sc (nW k) (sc c (sc b (dW k))) := by
    rw [Y75.mul_int]
    unfold sc
    exact Prod.ext (by grind) (by grind)
  rw [e1, e2, le_sc hk (nW_pos hk)]
  rfl
theorem fw_fl {k x y c b : Int} (hk : Kd k) (hc : 0 < c) : b ≤ flQ k (mul k (x, y) (iW k)).1 (mul k (x, y) (iW k)).2 (c * nW k) (rtI (k * (mul k (x, y) (iW k)).2 * (mul k (x, y) (iW k)).2)) ↔ nge k x y c (sc b (dW k)) := by
  rw [fl_le hk (Int.mul_pos hc (nW_pos hk)), ← le_mul hk (dW_pos hk)]
  have e1 : mul k (dW k) ((mul k (x, y) (iW k)).1, (mul k (x, y) (iW k)).2) = sc (nW k) (x, y) := by
    show mul k (dW k) (mul k (x, y) (iW k)) = _
    rw [Y75.mul_comm k (x, y), ← Y75.mul_assoc, dW_iW hk, sc_mul]
  have e2 : mul k (dW k) (b * (c * nW k), 0) = sc (nW k) (sc c (sc b (dW k))) := by
    rw [Y75.mul_int]
    unfold sc
    exact Prod.ext (by grind) (by grind)
  rw [e1, e2, le_sc hk (nW_pos hk)]
  rfl
end Y37

set_option Elab.async false
set_option linter.all false
set_option maxRecDepth 100000
set_option maxHeartbeats 4000000
/-! M37g: numbers over one denominator; whole ones that lie far apart; bounds. -/
namespace Y37
open Wz
open Y02 (K3 Kd lsD sgL flQ fl_ok)
open Y75 (Z2 mul mate add sub nrm LO)
/-- p over N is (a + b*w) / n -/
def Vl (N : Int) (p : Z2) (a b n : Int) : Prop := p.1 * n = a * N ∧ p.2 * n = b * N
theorem Vl.lo {N : Int} {p : Z2} {a b n x y z : Int} (h : Vl N p a b n) (l : LO a b n x y z) (hn : 0 < n) : Vl N p x y z := by
  obtain ⟨e1, e2, e3⟩ := Y02.lo_mul (a := a) (b := b) (n := n) (by omega)
  have g0 := Y02.sg_pos (a := a) (b := b) hn
  rw [← l.x] at e1
  rw [← l.y] at e2
  rw [← l.z] at e3
  obtain ⟨h1, h2⟩ := h
  clear l
  generalize Y02.sg a b n = g at *
  have ne : g ≠ 0 := by omega
  refine ⟨Int.eq_of_mul_eq_mul_right ne ?_, Int.eq_of_mul_eq_mul_right ne ?_⟩
  · rw [Int.mul_assoc, e3, h1, ← e1]
    grind
  · rw [Int.mul_assoc, e3, h2, ← e2]
    grind
theorem Vl.mul {k N : Int} {p : Z2} {a b n : Int} (h : Vl N p a b n) (q : Z2) : Vl N (mul k p q) (mul k (a, b) q).1 (mul k (a, b) q).2 n := by
  obtain ⟨h1, h2⟩ := h
  have e1 : ∀ t : Int, p.1 * t * n = a * t * N := fun t => by rw [Int.mul_right_comm, h1, Int.mul_right_comm]
  have e2 : ∀ t : Int, p.2 * t * n = b * t * N := fun t => by rw [Int.mul_right_comm, h2, Int.mul_right_comm]
  have f1 := e1 q.1
  have f2 := e1 q.2
  have f3 := e2 q.1
  have f4 := e2 q.2
  unfold Vl Y75.mul
  split
  · constructor
    · dsimp only; grind
    · dsimp only; grind
  · constructor
    · dsimp only; grind
    · dsimp only; grind
theorem Vl.sub {N : Int} {p q : Z2} {a b n c e u : Int} (h : Vl N p a b n) (g : Vl N q c e u) : Vl N (sub p q) (a * u - c * n) (b * u - e * n) (n * u) := by
  obtain ⟨h1, h2⟩ := h
  obtain ⟨g1, g2⟩ := g
  unfold Y75.sub
  constructor
  · dsimp only; grind
  · dsimp only; grind
theorem Vl.add {N : Int} {p q : Z2} {a b n c e u : Int} (h : Vl N p a b n) (g : Vl N q c e u) : Vl N (add p q) (a * u + c * n) (b * u + e * n) (n * u) := by
  obtain ⟨h1, h2⟩ := h
  obtain ⟨g1, g2⟩ := g
  unfold Y75.add
  constructor
  · dsimp only; grind
  · dsimp only; grind
theorem Vl.int {N : Int} (t : Z2) : Vl N (sc N t) t.1 t.2 1 := ⟨Int.mul_one _, Int.mul_one _⟩
theorem sc_sc (m n : Int) (p : Z2) : sc m (sc n p) = sc n (sc m p) := Prod.ext (Int.mul_right_comm ..) (Int.mul_right_comm ..)
theorem Vl.sc {N : Int} {p : Z2} {a b n : Int} (h : Vl N p a b n) : sc n p = sc N (a, b) := Prod.ext h.1 h.2
theorem Vl.nle {k N : Int} {p : Z2} {a b n : Int} (h : Vl N p a b n) (hk : Kd k) (hN : 0 < N) (hn : 0 < n) {t : Z2} : nle k a b n t ↔ le k p (Y37.sc N t) := by
  unfold Y37.nle
  rw [← le_sc hk hN, ← h.sc, sc_sc N n t, le_sc hk hn]
theorem Vl.nge {k N : Int} {p : Z2} {a b n : Int} (h : Vl N p a b n) (hk : Kd k) (hN : 0 < N) (hn : 0 < n) {t : Z2} : nge k a b n t ↔ le k (Y37.sc N t) p := by
  unfold Y37.nge
  rw [← le_sc hk hN, ← h.sc, sc_sc N n t, le_sc hk hn]
theorem Vl.lt {k N : Int} {p q : Z2} {a b n c e u : Int} (h : Vl N p a b n) (g : Vl N q c e u) (hk : Kd k) (hN : 0 < N) (hn : 0 < n) (hu : 0 < u) : lsD k (a * u - c * n) (b * u - e * n) < 0 ↔ lt k p q := by
  have e1 : lsD k (a * u - c * n) (b * u - e * n) < 0 ↔ Y37.lt k (Y37.sc u (a, b)) (Y37.sc n (c, e)) := (lt_ls2 (k := k) (p := Y37.sc u (a, b)) (q := Y37.sc n (c, e)) hk).symm
  rw [e1, ← lt_sc hk hN, sc_sc N u, sc_sc N n, ← h.sc, ← g.sc, sc_sc u n, lt_sc hk hn, lt_sc hk hu]
theorem Vl.ge {k N : Int} {p q : Z2} {a b n c e u : Int} (h : Vl N p a b n) (g : Vl N q c e u) (hk : Kd k) (hN : 0 < N) (hn : 0 < n) (hu : 0 < u) : ¬ lsD k (a * u - c * n) (b * u - e * n) < 0 ↔ le k q p := not_congr (h.lt g hk hN hn hu)
theorem sc_mulr {k N : Int} {p q : Z2} : mul k (sc N p) q = sc N (mul k p q) := by
  rw [← sc_mul (k := k), ← sc_mul (k := k), Y75.mul_assoc]
theorem sc_add (N : Int) (p q : Z2) : sc N (add p q) = add (sc N p) (sc N q) := Prod.ext (Int.add_mul ..) (Int.add_mul ..)
theorem sc_sub (N : Int) (p q : Z2) : sc N (sub p q) = sub (sc N p) (sc N q) := Prod.ext (Int.sub_mul ..) (Int.sub_mul ..)
theorem add_sub (p q : Z2) : add p (sub q p) = q := Prod.ext (by show p.1 + (q.1 - p.1) = q.1; omega) (by show p.2 + (q.2 - p.2) = q.2; omega)
theorem le_add {k : Int} {p q : Z2} (r : Z2) : le k (add p r) (add q r) ↔ le k p q := not_congr (lt_add r)
theorem mate_add {k : Int} (p q : Z2) : mate k (add p q) = add (mate k p) (mate k q) := by
  unfold Y75.mate Y75.add
  split
  · exact Prod.ext (by dsimp only; omega) (by dsimp only; omega)
  · exact Prod.ext (by dsimp only) (by dsimp only; omega)
theorem mate_sub {k : Int} (p q : Z2) : mate k (sub p q) = sub (mate k p) (mate k q) := by
  unfold Y75.mate Y75.sub
  split
  · exact Prod.ext (by dsimp only; omega) (by dsimp only; omega)
  · exact Prod.ext (by dsimp only) (by dsimp only; omega)
/-- pos in words of lt -/
theorem lt_pos {k : Int} {p q : Z2} : lt k p q ↔ pos k (sub q p) := Iff.rfl
theorem pos_eq {k : Int} {p q : Z2} (h : pos k p) (e : p = q) : pos k q := e ▸ h
end Y37

set_option Elab.async false
set_option linter.all false
set_option maxRecDepth 100000
set_option maxHeartbeats 4000000
/-! M37h: whole ones whose mates lie nearer than six lie farther than an eighth; bounds by order. -/
namespace Y37
open Wz
open Y02 (K3 Kd lsD sgL flQ fl_ok)
open Y75 (Z2 mul mate add sub nrm LO)
theorem neg_mulr {k : Int} (p q : Z2) : mul k p (neg q) = neg (mul k p q) := by
  unfold Y75.mul neg
  split
  · exact Prod.ext (by dsimp only; grind) (by dsimp only; grind)
  · exact Prod.ext (by dsimp only; grind) (by dsimp only; grind)
theorem sub_mul8 {k : Int} (e q : Z2) : mul k (sub (1, 0) (sc 8 e)) q = sub q (sc 8 (mul k e q)) := by
  rw [Y75.mul_comm, Y75.mul_sub, Y75.mul_comm k q (1, 0), Y75.one_mul, Y75.mul_comm k q, sc_mulr]
theorem far {k : Int} (hk : Kd k) {x y : Z2} (h : lt k x y) (h1 : lt k (mate k y) (add (mate k x) (6, 0))) (h2 : lt k (mate k x) (add (mate k y) (6, 0))) : le k (add (sc 8 x) (1, 0)) (sc 8 y) := fun g => by
  have he : pos k (sub y x) := h
  have hg : pos k (sub (1, 0) (sc 8 (sub y x))) := pos_eq g (Prod.ext (by show x.1 * 8 + 1 - y.1 * 8 = 1 - (y.1 - x.1) * 8; omega) (by show x.2 * 8 + 0 - y.2 * 8 = 0 - (y.2 - x.2) * 8; omega))
  have hm1 : pos k (sub (6, 0) (mate k (sub y x))) := pos_eq h1 (by rw [mate_sub]; exact Prod.ext (by show (mate k x).1 + 6 - (mate k y).1 = 6 - ((mate k y).1 - (mate k x).1); omega) (by show (mate k x).2 + 0 - (mate k y).2 = 0 - ((mate k y).2 - (mate k x).2); omega))
  have hm2 : pos k (add (6, 0) (mate k (sub y x))) := pos_eq h2 (by rw [mate_sub]; exact Prod.ext (by show (mate k y).1 + 6 - (mate k x).1 = 6 + ((mate k y).1 - (mate k x).1); omega) (by show (mate k y).2 + 0 - (mate k x).2 = 0 + ((mate k y).2 - (mate k x).2); omega))
  clear h1 h2 h g
  generalize sub y x = e at *
  have hne : e ≠ (0, 0) := fun z => by
    rw [z] at he
    exact pos_z hk he
  have hn := Y75.nrm_ne hk hne
  have key : mul k e (mate k e) = (nrm k e, 0) := Y75.mul_mate k e
  have me : mate k e ≠ (0, 0) := fun z => by
    have q := congrArg (mate k) z
    rw [mate_mate] at q
    exact hne (q.trans (by unfold Y75.mate; split <;> rfl))
  rcases pos_tot hk me with p | p
  · have q1 := pos_times hk hg p
    rw [sub_mul8, key] at q1
    have q2 := pos_plus hk q1 hm1
    have q3 := (pos_int hk).mp (pos_eq q2 (show _ = ((6 - 8 * nrm k e : Int), (0 : Int)) from Prod.ext (by show (mate k e).1 - nrm k e * 8 + (6 - (mate k e).1) = _; omega) (by show (mate k e).2 - 0 * 8 + (0 - (mate k e).2) = _; omega)))
    have q4 := (pos_int hk).mp (pos_eq (pos_times hk he p) key)
    omega
  · have q1 := pos_times hk hg p
    rw [sub_mul8, neg_mulr, key] at q1
    have q2 := pos_plus hk q1 hm2
    have q3 := (pos_int hk).mp (pos_eq q2 (show _ = ((6 + 8 * nrm k e : Int), (0 : Int)) from Prod.ext (by show -(mate k e).1 - -nrm k e * 8 + (6 + (mate k e).1) = _; omega) (by show -(mate k e).2 - -0 * 8 + (0 + (mate k e).2) = _; omega)))
    have q4 := (pos_int hk).mp (pos_eq (pos_times hk he p) ((neg_mulr _ _).trans (show neg (mul k e (mate k e)) = ((-nrm k e : Int), (0 : Int)) by rw [key]; rfl)))
    omega
/-- the floors of eight times such ones are in order -/
theorem fl8 {k : Int} (hk : Kd k) {x y : Z2} (h : le k (add (sc 8 x) (1, 0)) (sc 8 y)) : flQ k (x.1 * 8) (x.2 * 8) 1 (rtI (k * (x.2 * 8) * (x.2 * 8))) < flQ k (y.1 * 8) (y.2 * 8) 1 (rtI (k * (y.2 * 8) * (y.2 * 8))) := by
  have h1 := (fl_le (k := k) (a := x.1 * 8) (b := x.2 * 8) (n := 1) (m := flQ k (x.1 * 8) (x.2 * 8) 1 (rtI (k * (x.2 * 8) * (x.2 * 8)))) hk (by decide)).mp (Int.le_refl _)
  generalize flQ k (x.1 * 8) (x.2 * 8) 1 (rtI (k * (x.2 * 8) * (x.2 * 8))) = m at *
  refine Int.lt_of_add_one_le ((fl_le hk (by decide)).mpr ?_)
  refine le_trans hk ?_ h
  have h2 := (le_add (k := k) (1, 0)).mpr h1
  have e : ((m + 1) * 1, (0 : Int)) = add (m * 1, 0) (1, 0) := Prod.ext (by show (m + 1) * 1 = m * 1 + 1; omega) rfl
  rw [e]
  exact h2
/-- i*w against 2*i -/
theorem two_w {k : Int} (hk : Kd k) : pos k (2, -1) ∧ pos k (2, 1) := by
  rcases hk with rfl | rfl | rfl <;> exact ⟨by unfold pos; decide, by unfold pos; decide⟩
theorem two_dW {k : Int} (hk : Kd k) : lt k (2, 0) (dW k) := by
  rcases hk with rfl | rfl | rfl <;> (unfold lt pos; decide)
theorem sc0 (p : Z2) : sc 0 p = (0, 0) := Prod.ext (Int.mul_zero _) (Int.mul_zero _)
theorem sc_pos {k : Int} (hk : Kd k) {n : Int} {p : Z2} (hn : 0 < n) : pos k (sc n p) ↔ pos k p := by
  have h := lt_sc (p := (0, 0)) (q := p) hk hn
  have e : ∀ q : Z2, lt k (0, 0) q ↔ pos k q := fun q => by
    show pos k (q.1 - 0, q.2 - 0) ↔ _
    rw [Int.sub_zero, Int.sub_zero]
  rw [show sc n (0, 0) = (0, 0) from Prod.ext (Int.zero_mul _) (Int.zero_mul _), e, e] at h
  exact h
theorem le_of_pos {k : Int} (hk : Kd k) {p q : Z2} (h : pos k (sub q p)) : le k p q := lt_le hk h
/-- x + y*w is at most the bound of its parts -/
theorem up_le {k : Int} (hk : Kd k) {x y m : Int} (h : (x.natAbs : Int) + 2 * (y.natAbs : Int) ≤ m) : le k (x, y) (m, 0) ∧ le k (-m, 0) (x, y) := by
  obtain ⟨w1, w2⟩ := two_w hk
  have s1 : ∀ i : Int, 0 < i → pos k (sc i (2, -1)) := fun i hi => (sc_pos hk hi).mpr w1
  have s2 : ∀ i : Int, 0 < i → pos k (sc i (2, 1)) := fun i hi => (sc_pos hk hi).mpr w2
  have go : ∀ u v : Int, (∀ t : Int, 0 ≤ t → pos k (u + t, v) ∨ (u + t = 0 ∧ v = 0)) → ∀ t : Int, 0 ≤ t → ¬ pos k (-(u + t), -v) := fun u v h t ht z => by
    rcases h t ht with a | ⟨a, b⟩
    · exact pos_no hk a z
    · rw [a, b] at z
      exact pos_z hk z
  have base : ∀ v c : Int, 2 * (v.natAbs : Int) ≤ c → pos k (c, v) ∨ (c = 0 ∧ v = 0) := fun v c hc => by
    by_cases hv : v = 0
    · by_cases c0 : c = 0
      · exact .inr ⟨c0, hv⟩
      · rw [hv]
        exact .inl ((pos_int hk).mpr (by omega))
    · have hp : pos k (2 * (v.natAbs : Int), v) := by
        by_cases hs : 0 < v
        · exact pos_eq (s2 v hs) (Prod.ext (by show 2 * v = _; omega) (by show 1 * v = _; omega))
        · exact pos_eq (s1 (-v) (by omega)) (Prod.ext (by show 2 * -v = _; omega) (by show -1 * -v = _; omega))
      by_cases e : c = 2 * (v.natAbs : Int)
      · rw [e]
        exact .inl hp
      · exact .inl (pos_eq (pos_plus hk hp ((pos_int hk (n := c - 2 * (v.natAbs : Int))).mpr (by omega))) (Prod.ext (by show 2 * (v.natAbs : Int) + (c - 2 * (v.natAbs : Int)) = c; omega) (by show v + 0 = v; omega)))
  constructor
  · intro z
    have z' : pos k (x - m, y - 0) := z
    rcases base (-y) (m - x) (by omega) with a | ⟨a, b⟩
    · exact pos_no hk a (pos_eq z' (Prod.ext (by show x - m = -(m - x); omega) (by show y - 0 = - -y; omega)))
    · exact pos_z hk (pos_eq z' (Prod.ext (by show x - m = 0; omega) (by show y - 0 = 0; omega)))
  · intro z
    have z' : pos k (-m - x, 0 - y) := z
    rcases base y (m + x) (by omega) with a | ⟨a, b⟩
    · exact pos_no hk a (pos_eq z' (Prod.ext (by show -m - x = -(m + x); omega) (by show 0 - y = -y; omega)))
    · exact pos_z hk (pos_eq z' (Prod.ext (by show -m - x = 0; omega) (by show 0 - y = 0; omega)))
/-- two ones, mates of each other, of so large: so large are the parts -/
theorem part_b {k m : Int} (hk : Kd k) (hm : 0 ≤ m) {z : Z2} (h1 : le k z (m, 0)) (h2 : le k (-m, 0) z) (h3 : le k (mate k z) (m, 0)) (h4 : le k (-m, 0) (mate k z)) : (z.2.natAbs : Int) ≤ m ∧ (z.1.natAbs : Int) ≤ 2 * m := by
  have d := mate_dif (k := k) z
  -- 2*m - |z.2|*dW is not less than 0
  have a1 : le k (sc z.2 (dW k)) (2 * m, 0) := by
    rw [← d]
    have t1 := (le_add (k := k) (sub (0, 0) (mate k z))).mpr h1
    have t2 := (le_add (k := k) (sub (m, 0) (mate k z))).mpr h4
    have e1 : add z (sub (0, 0) (mate k z)) = sub z (mate k z) := Prod.ext (by show z.1 + (0 - (mate k z).1) = z.1 - (mate k z).1; omega) (by show z.2 + (0 - (mate k z).2) = z.2 - (mate k z).2; omega)
    have e2 : add (m, 0) (sub (0, 0) (mate k z)) = add (-m, 0) (sub (2 * m, 0) (mate k z)) := Prod.ext (by show m + (0 - (mate k z).1) = -m + (2 * m - (mate k z).1); omega) (by show (0 : Int) + (0 - (mate k z).2) = 0 + (0 - (mate k z).2); omega)
    have t3 := (le_add (k := k) (sub (2 * m, 0) (mate k z))).mpr h4
    rw [e1, e2] at t1
    refine le_trans hk t1 (le_trans hk t3 ?_)
    have e3 : add (mate k z) (sub (2 * m, 0) (mate k z)) = (2 * m, 0) := add_sub _ _
    rw [e3]
    exact le_refl hk _
  have a2 : le k (-(2 * m), 0) (sc z.2 (dW k)) := by
    rw [← d]
    have t1 := (le_add (k := k) (sub (0, 0) (mate k z))).mpr h2
    have t3 := (le_add (k := k) (sub (-(2 * m), 0) (mate k z))).mpr h3
    have e1 : add z (sub (0, 0) (mate k z)) = sub z (mate k z) := Prod.ext (by show z.1 + (0 - (mate k z).1) = z.1 - (mate k z).1; omega) (by show z.2 + (0 - (mate k z).2) = z.2 - (mate k z).2; omega)
    rw [e1] at t1
    refine le_trans hk ?_ t1
    have e2 : add (-m, 0) (sub (0, 0) (mate k z)) = add (m, 0) (sub (-(2 * m), 0) (mate k z)) := Prod.ext (by show -m + (0 - (mate k z).1) = m + (-(2 * m) - (mate k z).1); omega) (by show (0 : Int) + (0 - (mate k z).2) = 0 + (0 - (mate k z).2); omega)
    rw [e2]
    refine le_trans hk ?_ t3
    have e3 : add (mate k z) (sub (-(2 * m), 0) (mate k z)) = (-(2 * m), 0) := add_sub _ _
    rw [e3]
    exact le_refl hk _
  have two := two_dW hk
  have hz : (z.2.natAbs : Int) ≤ m := Int.not_lt.mp fun g => by
    by_cases hs : 0 < z.2
    · have t := (lt_sc (n := z.2) hk hs).mpr two
      have u := lt_le_t hk t a1
      have u2 : lt k (2 * z.2, 0) (2 * m, 0) := by
        have e : sc z.2 (2, 0) = (2 * z.2, 0) := Prod.ext rfl (Int.zero_mul _)
        rw [e] at u
        exact u
      have := (pos_int hk).mp (show pos k (2 * m - 2 * z.2, 0 - 0) from u2)
      omega
    · have t := (lt_sc (n := -z.2) hk (by omega)).mpr two
      have e4 : sc (-z.2) (dW k) = neg (sc z.2 (dW k)) := Prod.ext (Int.mul_neg ..) (Int.mul_neg ..)
      rw [e4] at t
      have t2 : lt k (sc z.2 (dW k)) (2 * z.2, 0) := by
        refine pos_eq (show pos k (sub (neg (sc z.2 (dW k))) (sc (-z.2) (2, 0))) from t) (Prod.ext ?_ ?_)
        · show -(sc z.2 (dW k)).1 - 2 * -z.2 = 2 * z.2 - (sc z.2 (dW k)).1
          omega
        · show -(sc z.2 (dW k)).2 - 0 * -z.2 = 0 - (sc z.2 (dW k)).2
          omega
      have u := le_lt hk a2 t2
      have := (pos_int hk).mp (show pos k (2 * z.2 - -(2 * m), 0 - 0) from u)
      omega
  refine ⟨hz, ?_⟩
  -- z + its mate
  have b1 : le k (add z (mate k z)) (2 * m, 0) := by
    have t1 := (le_add (k := k) (mate k z)).mpr h1
    have t2 := (le_add (k := k) (m, 0)).mpr h3
    refine le_trans hk t1 ?_
    have e : add (m, 0) (mate k z) = add (mate k z) (m, 0) := Prod.ext (Int.add_comm ..) (Int.add_comm ..)
    rw [e]
    refine le_trans hk t2 ?_
    rw [show add (m, 0) (m, 0) = (2 * m, 0) from Prod.ext (by show m + m = _; omega) rfl]
    exact le_refl hk _
  have b2 : le k (-(2 * m), 0) (add z (mate k z)) := by
    have t1 := (le_add (k := k) (mate k z)).mpr h2
    have t2 := (le_add (k := k) (-m, 0)).mpr h4
    refine le_trans hk ?_ t1
    have e : add (-m, 0) (mate k z) = add (mate k z) (-m, 0) := Prod.ext (Int.add_comm ..) (Int.add_comm ..)
    rw [e]
    refine le_trans hk ?_ t2
    rw [show add (-m, 0) (-m, 0) = (-(2 * m), 0) from Prod.ext (by show -m + -m = _; omega) rfl]
    exact le_refl hk _
  have e5 : add z (mate k z) = ((if k = 5 then 2 * z.1 + z.2 else 2 * z.1), 0) := by
    unfold Y75.add Y75.mate
    split
    · exact Prod.ext (by dsimp only; omega) (by dsimp only; omega)
    · exact Prod.ext (by dsimp only; omega) (by dsimp only; omega)
  rw [e5] at b1 b2
  have c1 := (le_int hk).mp b1
  have c2 := (le_int hk).mp b2
  split at c1 <;> (split at c2 <;> omega)
end Y37

set_option Elab.async false
set_option linter.all false
set_option maxRecDepth 100000
set_option maxHeartbeats 4000000
/-! M37i: the whole ones of two spans: rows of them, how many, how large. -/
namespace Y37
open Wz
open Y02 (K3 Kd lsD sgL flQ fl_ok)
open Y75 (Z2 mul mate add sub nrm LO)
/-- z in one span, its mate in the other -/
def Wb (k N : Int) (p0 p1 q0 q1 z : Z2) : Prop := le k p0 (sc N z) ∧ le k (sc N z) p1 ∧ le k q0 (sc N (mate k z)) ∧ le k (sc N (mate k z)) q1
def rowL (a b : Int) (n : Nat) : List Z2 := (List.range n).map fun i : Nat => (a + (i : Int), b)
theorem rowL_succ {a b : Int} {n : Nat} : rowL a b (n + 1) = rowL a b n ++ [(a + (n : Int), b)] := by
  unfold rowL
  rw [List.range_succ, List.map_append]
  rfl
theorem rowL_mem {a b : Int} {n : Nat} {z : Z2} : z ∈ rowL a b n ↔ z.2 = b ∧ a ≤ z.1 ∧ z.1 < a + (n : Int) := by
  unfold rowL
  rw [List.mem_map]
  constructor
  · rintro ⟨i, hi, rfl⟩
    have := List.mem_range.mp hi
    exact ⟨rfl, by dsimp only; omega, by dsimp only; omega⟩
  · rintro ⟨rfl, h1, h2⟩
    exact ⟨(z.1 - a).toNat, List.mem_range.mpr (by omega), Prod.ext (by dsimp only; omega) rfl⟩
theorem rowL_len {a b : Int} {n : Nat} : (rowL a b n).length = n := by
  unfold rowL
  rw [List.length_map, List.length_range]
theorem rowL_nodup {a b : Int} {n : Nat} : (rowL a b n).Nodup := by
  induction n with
  | zero => exact List.nodup_nil
  | succ n ih =>
    rw [rowL_succ]
    refine List.nodup_append.mpr ⟨ih, List.nodup_cons.mpr ⟨by simp, List.nodup_nil⟩, fun x hx y hy e => ?_⟩
    have hy' := List.mem_singleton.mp hy
    subst hy' e
    have := (rowL_mem.mp hx).2.2
    dsimp only at this
    omega
theorem le_add2 {k : Int} (hk : Kd k) {a b c d : Z2} (h : le k a b) (g : le k c d) : le k (add a c) (add b d) := by
  have h1 := (le_add (k := k) c).mpr h
  have h2 := (le_add (k := k) b).mpr g
  rw [show add c b = add b c from Prod.ext (Int.add_comm ..) (Int.add_comm ..), show add d b = add b d from Prod.ext (Int.add_comm ..) (Int.add_comm ..)] at h2
  exact le_trans hk h1 h2
theorem le_sub2 {k : Int} (hk : Kd k) {a b c d : Z2} (h : le k a b) (g : le k c d) : le k (sub a d) (sub b c) := by
  have g' : le k (sub (0, 0) d) (sub (0, 0) c) := by
    have := (le_add (k := k) (sub (sub (0, 0) d) c)).mpr g
    rw [show add c (sub (sub (0, 0) d) c) = sub (0, 0) d from add_sub _ _, show add d (sub (sub (0, 0) d) c) = sub (0, 0) c from Prod.ext (by show d.1 + (0 - d.1 - c.1) = 0 - c.1; omega) (by show d.2 + (0 - d.2 - c.2) = 0 - c.2; omega)] at this
    exact this
  have e : ∀ p q : Z2, add p (sub (0, 0) q) = sub p q := fun p q => Prod.ext (by show p.1 + (0 - q.1) = p.1 - q.1; omega) (by show p.2 + (0 - q.2) = p.2 - q.2; omega)
  have := le_add2 hk h g'
  rw [e, e] at this
  exact this
theorem le_of_eq {k : Int} (hk : Kd k) {p q : Z2} (e : p = q) : le k p q := e ▸ le_refl hk p
theorem not_le {k : Int} {p q : Z2} (h : ¬ le k p q) : lt k q p := Classical.not_not.mp h
theorem le_dn {k : Int} (hk : Kd k) {p q : Z2} (h : ¬ le k p q) : le k q p := lt_le hk (not_le h)
/-- t*dW against 2*t -/
theorem dW_up {k t : Int} (hk : Kd k) (h : 0 ≤ t) : le k (2 * t, 0) (sc t (dW k)) := by
  by_cases z : t = 0
  · subst z
    exact le_of_eq hk (sc0 _).symm
  · have := (le_sc (k := k) (n := t) hk (by omega)).mpr (lt_le hk (two_dW hk))
    rw [show sc t (2, 0) = (2 * t, 0) from Prod.ext rfl (Int.zero_mul _)] at this
    exact this
theorem dW_dn {k t : Int} (hk : Kd k) (h : t ≤ 0) : le k (sc t (dW k)) (2 * t, 0) := by
  have := le_sub2 hk (le_refl hk (0, 0)) (dW_up (t := -t) hk (by omega))
  rw [show sub (0, 0) (sc (-t) (dW k)) = sc t (dW k) from Prod.ext (by show 0 - (dW k).1 * -t = (dW k).1 * t; rw [Int.mul_neg]; omega) (by show 0 - (dW k).2 * -t = (dW k).2 * t; rw [Int.mul_neg]; omega), show sub (0, 0) (2 * -t, 0) = (2 * t, 0) from Prod.ext (by show 0 - 2 * -t = 2 * t; omega) rfl] at this
  exact this
theorem up_v {k N x y z : Int} {l : Nat} {p : Z2} (hk : Kd k) (hN : 0 < N) (hz : 0 < z) (hx : x.natAbs < 2 ^ l) (hy : y.natAbs < 2 ^ l) (V : Vl N p x y z) : le k p (sc N (2 ^ (l + 2), 0)) ∧ le k (sc N (-(2 ^ (l + 2)), 0)) p := by
  have e : ((2 ^ l : Nat) : Int) = (2 : Int) ^ l := by simp
  have e4 : (2 : Int) ^ (l + 2) = 2 ^ l * 4 := by rw [Int.pow_add]; rfl
  have hm : (x.natAbs : Int) + 2 * (y.natAbs : Int) ≤ 2 ^ (l + 2) * z := by
    have h1 : (2 : Int) ^ (l + 2) * 1 ≤ 2 ^ (l + 2) * z := Int.mul_le_mul_of_nonneg_left (by omega) (by rw [e4]; omega)
    rw [e4] at h1 ⊢
    omega
  obtain ⟨h1, h2⟩ := up_le hk hm
  constructor
  · refine (V.nle hk hN hz).mp ?_
    show le k (x, y) (sc z (2 ^ (l + 2), 0))
    rw [show sc z ((2 : Int) ^ (l + 2), 0) = (2 ^ (l + 2) * z, 0) from Prod.ext rfl (Int.zero_mul _)]
    exact h1
  · refine (V.nge hk hN hz).mp ?_
    show le k (sc z (-(2 ^ (l + 2)), 0)) (x, y)
    rw [show sc z (-((2 : Int) ^ (l + 2)), 0) = (-(2 ^ (l + 2) * z), 0) from Prod.ext (Int.neg_mul ..) (Int.zero_mul _)]
    exact h2
/-- the ends of b -/
theorem lo_bd {k N lo M : Int} {P : Z2} (hk : Kd k) (hN : 0 < N) (hM : 0 ≤ M) (h : ∀ t : Int, lo ≤ t ↔ le k P (sc N (sc t (dW k)))) (h1 : le k P (sc N (2 * M, 0))) (h2 : le k (sc N (-(2 * M), 0)) P) : -M ≤ lo ∧ lo ≤ M := by
  constructor
  · refine Int.not_lt.mp fun g => ?_
    have a := (h (-(M + 1))).mp (by omega)
    have b := (le_sc hk hN).mp (le_trans hk h2 a)
    have c := (le_int hk).mp (le_trans hk b (dW_dn (t := -(M + 1)) hk (by omega)))
    omega
  · exact (h M).mpr (le_trans hk h1 ((le_sc hk hN).mpr (dW_up hk hM)))
theorem hi_bd {k N hi M : Int} {P : Z2} (hk : Kd k) (hN : 0 < N) (hM : 0 ≤ M) (h : ∀ t : Int, t ≤ hi ↔ le k (sc N (sc t (dW k))) P) (h1 : le k P (sc N (2 * M, 0))) (h2 : le k (sc N (-(2 * M), 0)) P) : -M ≤ hi ∧ hi ≤ M := by
  constructor
  · refine (h (-M)).mpr (le_trans hk ((le_sc hk hN).mpr ?_) h2)
    have := dW_dn (t := -M) hk (by omega)
    rw [show 2 * -M = -(2 * M) by omega] at this
    exact this
  · refine Int.not_lt.mp fun g => ?_
    have a := (h (M + 1)).mp (by omega)
    have b := (le_sc hk hN).mp (le_trans hk a h1)
    have c := (le_int hk).mp (le_trans hk (dW_up (t := M + 1) hk (by omega)) b)
    omega
theorem sc_int (N a : Int) : sc N (a, 0) = (a * N, 0) := Prod.ext rfl (Int.zero_mul _)
/-- how many b -/
theorem b_few {k N lo hi L : Int} {p0 p1 q0 q1 : Z2} (hk : Kd k) (hN : 0 < N) (hlo : ∀ t : Int, lo ≤ t ↔ le k (sub p0 q1) (sc N (sc t (dW k)))) (hhi : ∀ t : Int, t ≤ hi ↔ le k (sc N (sc t (dW k))) (sub p1 q0)) (hp : le k (sub p1 p0) (sc N (L, 0))) (hq : le k (sub q1 q0) (sc N (6, 0))) (hL : 0 ≤ L) : 2 * (hi - lo) ≤ L + 6 := by
  by_cases c0 : hi - lo ≤ 0
  · omega
  have a := (hhi hi).mp (Int.le_refl _)
  have b := (hlo lo).mp (Int.le_refl _)
  have c := le_sub2 hk a b
  have d := le_add2 hk hp hq
  rw [← sc_sub, show sub (sc hi (dW k)) (sc lo (dW k)) = sc (hi - lo) (dW k) from Prod.ext (Int.mul_sub ..).symm (Int.mul_sub ..).symm, show sub (sub p1 q0) (sub p0 q1) = add (sub p1 p0) (sub q1 q0) from Prod.ext (by show p1.1 - q0.1 - (p0.1 - q1.1) = p1.1 - p0.1 + (q1.1 - q0.1); omega) (by show p1.2 - q0.2 - (p0.2 - q1.2) = p1.2 - p0.2 + (q1.2 - q0.2); omega)] at c
  rw [← sc_add] at d
  have e := (le_sc hk hN).mp (le_trans hk c d)
  have f := (le_int hk).mp (le_trans hk (dW_up (t := hi - lo) hk (by omega)) (le_trans hk e (le_of_eq hk (show add (L, 0) (6, 0) = (L + 6, 0) from rfl))))
  omega
/-- the ends of a -/
theorem ab_is {k N a b n t : Int} {p q : Z2} (hk : Kd k) (hN : 0 < N) (hn : 0 < n) (V : Vl N p a b n) : -(flQ k (-(a - q.1 * n)) (-(b - q.2 * n)) n (rtI (k * -(b - q.2 * n) * -(b - q.2 * n)))) ≤ t ↔ le k p (sc N (add (t, 0) q)) := by
  rw [ce_le hk hn, ← V.nle hk hN hn]
  unfold nle
  rw [← le_add (k := k) (sc n q), show add (a - q.1 * n, b - q.2 * n) (sc n q) = (a, b) from Prod.ext (by show a - q.1 * n + q.1 * n = a; omega) (by show b - q.2 * n + q.2 * n = b; omega), sc_add, sc_int]
theorem be_is {k N a b n t : Int} {p q : Z2} (hk : Kd k) (hN : 0 < N) (hn : 0 < n) (V : Vl N p a b n) : t ≤ flQ k (a - q.1 * n) (b - q.2 * n) n (rtI (k * (b - q.2 * n) * (b - q.2 * n))) ↔ le k (sc N (add (t, 0) q)) p := by
  rw [fl_le hk hn, ← V.nge hk hN hn]
  unfold nge
  rw [← le_add (k := k) (sc n q), show add (a - q.1 * n, b - q.2 * n) (sc n q) = (a, b) from Prod.ext (by show a - q.1 * n + q.1 * n = a; omega) (by show b - q.2 * n + q.2 * n = b; omega), sc_add, sc_int]
theorem ab_bd {k N c M B : Int} {P q : Z2} (hk : Kd k) (hN : 0 < N) (h : ∀ t : Int, c ≤ t ↔ le k P (sc N (add (t, 0) q))) (h1 : le k P (sc N (M, 0))) (h2 : le k (sc N (-M, 0)) P) (hB : (q.1.natAbs : Int) + 2 * (q.2.natAbs : Int) ≤ B) : -(M + B) ≤ c ∧ c ≤ M + B := by
  obtain ⟨u1, u2⟩ := up_le hk hB
  constructor
  · refine Int.not_lt.mp fun g => ?_
    have a := (h (-(M + B + 1))).mp (by omega)
    have b := (le_sc hk hN).mp (le_trans hk h2 a)
    have d := le_trans hk b (le_add2 hk (le_refl hk (-(M + B + 1), 0)) u1)
    have := (le_int hk).mp (le_trans hk d (le_of_eq hk (show add (-(M + B + 1), 0) (B, 0) = (-(M + B + 1) + B, 0) from rfl)))
    omega
  · refine (h (M + B)).mpr (le_trans hk h1 ((le_sc hk hN).mpr ?_))
    have d := le_add2 hk (le_refl hk (M + B, 0)) u2
    refine le_trans hk (le_of_eq hk ?_) d
    exact Prod.ext (by show M = M + B + -B; omega) rfl
theorem be_bd {k N c M B : Int} {P q : Z2} (hk : Kd k) (hN : 0 < N) (h : ∀ t : Int, t ≤ c ↔ le k (sc N (add (t, 0) q)) P) (h1 : le k P (sc N (M, 0))) (h2 : le k (sc N (-M, 0)) P) (hB : (q.1.natAbs : Int) + 2 * (q.2.natAbs : Int) ≤ B) : -(M + B) ≤ c ∧ c ≤ M + B := by
  obtain ⟨u1, u2⟩ := up_le hk hB
  constructor
  · refine (h (-(M + B))).mpr (le_trans hk ((le_sc hk hN).mpr ?_) h2)
    have d := le_add2 hk (le_refl hk (-(M + B), 0)) u1
    refine le_trans hk d (le_of_eq hk ?_)
    exact Prod.ext (by show -(M + B) + B = -M; omega) rfl
  · refine Int.not_lt.mp fun g => ?_
    have a := (h (M + B + 1)).mp (by omega)
    have b := (le_sc hk hN).mp (le_trans hk a h1)
    have d := le_trans hk (le_add2 hk (le_refl hk (M + B + 1, 0)) u2) b
    have := (le_int hk).mp (le_trans hk (le_of_eq hk (show ((M + B + 1) + -B, (0 : Int)) = add (M + B + 1, 0) (-B, 0) from rfl)) d)
    omega
theorem a_few {k N f l : Int} {q0 q1 q : Z2} (hk : Kd k) (hN : 0 < N) (hf : ∀ t : Int, f ≤ t ↔ le k q0 (sc N (add (t, 0) q))) (hl : ∀ t : Int, t ≤ l ↔ le k (sc N (add (t, 0) q)) q1) (hq : le k (sub q1 q0) (sc N (6, 0))) : l - f ≤ 6 := by
  have a := (hl l).mp (Int.le_refl _)
  have b := (hf f).mp (Int.le_refl _)
  have c := le_sub2 hk a b
  rw [← sc_sub, show sub (add (l, 0) q) (add (f, 0) q) = (l - f, 0) from Prod.ext (by show l + q.1 - (f + q.1) = l - f; omega) (by show 0 + q.2 - (0 + q.2) = 0; omega)] at c
  exact (le_int hk).mp ((le_sc hk hN).mp (le_trans hk c hq))
/-- a member's b lies between the ends -/
theorem wb_b {k N : Int} {p0 p1 q0 q1 z : Z2} (hk : Kd k) (h : Wb k N p0 p1 q0 q1 z) : le k (sub p0 q1) (sc N (sc z.2 (dW k))) ∧ le k (sc N (sc z.2 (dW k))) (sub p1 q0) := by
  obtain ⟨h1, h2, h3, h4⟩ := h
  rw [← mate_dif (k := k) z, sc_sub]
  exact ⟨le_sub2 hk h1 h4, le_sub2 hk h2 h3⟩
theorem wb_ab {k N t b : Int} {p0 p1 q0 q1 : Z2} : Wb k N p0 p1 q0 q1 (t, b) ↔ (le k p0 (sc N (add (t, 0) (0, b))) ∧ le k q0 (sc N (add (t, 0) (mate k (0, b))))) ∧ (le k (sc N (add (t, 0) (0, b))) p1 ∧ le k (sc N (add (t, 0) (mate k (0, b)))) q1) := by
  have e1 : add (t, 0) (0, b) = (t, b) := Prod.ext (Int.add_zero _) (Int.zero_add _)
  have e2 : add (t, 0) (mate k (0, b)) = mate k (t, b) := by
    unfold Y75.add Y75.mate
    split
    · exact Prod.ext (by dsimp only; omega) (by dsimp only; omega)
    · exact Prod.ext (by dsimp only; omega) (by dsimp only; omega)
  rw [e1, e2]
  unfold Wb
  constructor
  · rintro ⟨a, b, c, d⟩
    exact ⟨⟨a, c⟩, b, d⟩
  · rintro ⟨⟨a, c⟩, b, d⟩
    exact ⟨a, b, c, d⟩
theorem mate_nb {k b B : Int} (h : (b.natAbs : Int) ≤ B) : (((mate k (0, b)).1.natAbs : Int)) + 2 * ((mate k (0, b)).2.natAbs : Int) ≤ 3 * B ∧ (((0 : Int).natAbs : Int)) + 2 * (b.natAbs : Int) ≤ 3 * B := by
  unfold Y75.mate
  split
  · constructor
    · dsimp only; omega
    · omega
  · constructor
    · dsimp only; omega
    · omega
end Y37

set_option Elab.async false
set_option linter.all false
set_option maxRecDepth 100000
set_option maxHeartbeats 4000000
/-! M37j: the steps of a scale; members by their scaled ones. -/
namespace Y37
open Wz
open Y02 (K3 Kd lsD sgL flQ fl_ok)
open Y75 (Z2 mul mate add sub nrm LO)
theorem pos_ge {k N : Int} {d : Z2} (hk : Kd k) (hN : 0 < N) (h : le k (sc N (1, 0)) (sc 4 d)) : pos k d := by
  have h1 : lt k (0, 0) (sc N (1, 0)) := by
    rw [sc_int]
    exact (pos_int hk (n := 1 * N - 0)).mpr (by omega)
  have h2 := lt_le_t hk h1 h
  have h3 : pos k (sc 4 d) := pos_eq h2 (Prod.ext (Int.sub_zero _) (Int.sub_zero _))
  exact (sc_pos hk (by decide)).mp h3
theorem lt_mulr {k : Int} (hk : Kd k) {p q u : Z2} (hu : pos k u) : lt k (mul k p u) (mul k q u) ↔ lt k p q := by
  rw [Y75.mul_comm k p, Y75.mul_comm k q]
  exact lt_mul_iff hk hu
theorem le_mulr {k : Int} (hk : Kd k) {p q u : Z2} (hu : pos k u) : le k (mul k p u) (mul k q u) ↔ le k p q := not_congr (lt_mulr hk hu)
theorem mul4 {k : Int} (d : Z2) : mul k d (4, 0) = sc 4 d := by
  rw [Y75.mul_comm, sc_mul]
theorem un_4 {k : Int} (hk : Kd k) : le k (4, 0) (mul k (unS k) (unS k)) := by
  rcases hk with rfl | rfl | rfl <;> exact lt_le (by first | exact .inl rfl | exact .inr (.inl rfl) | exact .inr (.inr rfl)) (by unfold lt pos; decide)
theorem un_6 {k : Int} (hk : Kd k) : lt k (mul k (6, 0) (mate k (unS k))) (unS k) := by
  rcases hk with rfl | rfl | rfl <;> (unfold lt pos; decide)
theorem un_lt6 {k : Int} (hk : Kd k) : lt k (unS k) (6, 0) := by
  rcases hk with rfl | rfl | rfl <;> (unfold lt pos; decide)
/-- up: so many turns are left at most -/
def St1 (k N : Int) (d : Z2) (m : Nat) (s : Z2) : Prop := (m = 2 ∧ s = (1, 0)) ∨ (m = 1 ∧ s = unS k ∧ lt k d (sc N (1, 0))) ∨ (m = 0 ∧ s = mul k (unS k) (unS k) ∧ lt k (mul k d (unS k)) (sc N (1, 0)))
theorem st1_le {k N : Int} {d s : Z2} {m : Nat} (h : St1 k N d m s) : m ≤ 2 := by
  rcases h with ⟨rfl, _⟩ | ⟨rfl, _⟩ | ⟨rfl, _⟩ <;> decide
theorem st1_sc {k N : Int} {d s : Z2} {m : Nat} (hk : Kd k) (h : St1 k N d m s) : Sc k s := by
  rcases h with ⟨_, rfl⟩ | ⟨_, rfl, _⟩ | ⟨_, rfl, _⟩
  · exact Sc.one hk
  · exact unS_sc hk
  · exact Sc.mul hk (unS_sc hk) (unS_sc hk)
theorem St1.next {k N : Int} {d s : Z2} {m : Nat} (hk : Kd k) (hN : 0 < N) (hd : le k (sc N (1, 0)) (sc 4 d)) (h : St1 k N d m s) (g : lt k (mul k d s) (sc N (1, 0))) : ∃ m', m' < m ∧ St1 k N d m' (mul k s (unS k)) := by
  rcases h with ⟨rfl, rfl⟩ | ⟨rfl, rfl, h⟩ | ⟨rfl, rfl, h⟩
  · rw [Y75.mul_one] at g
    exact ⟨1, by decide, .inr (.inl ⟨rfl, Y75.one_mul _ _, g⟩)⟩
  · exact ⟨0, by decide, .inr (.inr ⟨rfl, rfl, g⟩)⟩
  · have p := pos_ge hk hN hd
    have q := (le_mul (k := k) hk p).mpr (un_4 hk)
    rw [mul4] at q
    exact (le_trans hk hd q g).elim
/-- down: one turn is left at most -/
def St2 (k N : Int) (d : Z2) (m : Nat) (s : Z2) : Prop := Sc k s ∧ le k (sc N (1, 0)) (mul k d s) ∧ m ≤ 1 ∧ (lt k (mul k d s) (sc N (unS k)) ∨ (m = 1 ∧ le k (mul k d s) (sc N (6, 0))))
theorem St1.two {k N : Int} {d s : Z2} {m : Nat} (hk : Kd k) (h6 : Y37.le k d (Y37.sc N (6, 0))) (h : St1 k N d m s) (g : ¬ lt k (mul k d s) (Y37.sc N (1, 0))) : St2 k N d 1 s := by
  refine ⟨st1_sc hk h, g, Nat.le_refl _, ?_⟩
  have up := (unS_sc hk).p
  rcases h with ⟨rfl, rfl⟩ | ⟨rfl, rfl, h⟩ | ⟨rfl, rfl, h⟩
  · rw [Y75.mul_one]
    exact .inr ⟨rfl, h6⟩
  · have q := (lt_mulr hk up).mpr h
    rw [sc_mulr, Y75.one_mul] at q
    exact .inl q
  · have q := (lt_mulr hk up).mpr h
    rw [sc_mulr, Y75.one_mul, Y75.mul_assoc] at q
    exact .inl q
theorem St2.next {k N : Int} {d s : Z2} {m : Nat} (hk : Kd k) (hN : 0 < N) (h : St2 k N d m s) (g : ¬ lt k (mul k d s) (sc N (unS k))) : m = 1 ∧ St2 k N d 0 (mul k s (mate k (unS k))) := by
  obtain ⟨h0, h1, _, h2 | ⟨h2, h3⟩⟩ := h
  · exact (g h2).elim
  · have us := unS_sc hk
    have up := us.q
    refine ⟨h2, Sc.mul hk h0 us.mate, ?_, Nat.zero_le _, .inl ?_⟩
    · have q := (le_mulr hk up).mpr (show le k (sc N (unS k)) (mul k d s) from g)
      rw [sc_mulr, us.i, Y75.mul_assoc] at q
      exact q
    · have q := (le_mulr hk up).mpr h3
      rw [sc_mulr, Y75.mul_assoc] at q
      exact le_lt hk q ((lt_sc hk hN).mpr (un_6 hk))
/-- a member: between, its mate in the row -/
def Mb (k N : Int) (p q l h z : Z2) : Prop := le k p (sc N z) ∧ le k (sc N z) q ∧ le k l (sc N (mate k z)) ∧ lt k (sc N (mate k z)) h
theorem sc_back {k : Int} {s : Z2} (h : Sc k s) (z : Z2) : mul k (mul k z s) (mate k s) = z := by
  rw [Y75.mul_assoc, h.i, Y75.mul_one]
theorem sc_fore {k : Int} {s : Z2} (h : Sc k s) (z : Z2) : mul k (mul k z (mate k s)) s = z := by
  rw [Y75.mul_assoc, Y75.mul_comm k (Y75.mate k s), h.i, Y75.mul_one]
/-- members by scaled ones -/
theorem mb_sc {k N : Int} {p q l h z s : Z2} (hk : Kd k) (hs : Sc k s) : Mb k N p q l h (mul k z s) ↔ Mb k N (mul k p (mate k s)) (mul k q (mate k s)) (mul k l s) (mul k h s) z := by
  have e1 : mul k (Y37.sc N (mul k z s)) (mate k s) = Y37.sc N z := by rw [sc_mulr, sc_back hs]
  have e2 : mul k (Y37.sc N (mate k (mul k z s))) s = Y37.sc N (mate k z) := by
    rw [sc_mulr, mate_mul, Y75.mul_assoc, Y75.mul_comm k (mate k s), hs.i, Y75.mul_one]
  unfold Mb
  rw [← le_mulr hk hs.q, e1, ← le_mulr (p := Y37.sc N (mul k z s)) hk hs.q, e1, ← le_mulr (p := l) hk hs.p, e2, ← lt_mulr (p := Y37.sc N (mate k (mul k z s))) hk hs.p, e2]
theorem Mb.wb {k N : Int} {p q l h z : Z2} (hk : Kd k) : Mb k N p q l h z ↔ Wb k N p q l h z ∧ lt k (Y37.sc N (mate k z)) h := by
  unfold Mb Wb
  constructor
  · rintro ⟨a, b, c, d⟩
    exact ⟨⟨a, b, c, lt_le hk d⟩, d⟩
  · rintro ⟨⟨a, b, c, d⟩, e⟩
    exact ⟨a, b, c, e⟩
/-- two of them: their mates lie nearer than six -/
theorem Mb.near {k N : Int} {p q l h x y : Z2} (hk : Kd k) (hN : 0 < N) (hl : le k (sub h l) (Y37.sc N (6, 0))) (hx : Mb k N p q l h x) (hy : Mb k N p q l h y) : lt k (mate k y) (add (mate k x) (6, 0)) := by
  refine (lt_sc hk hN).mp ?_
  rw [sc_add]
  have a := (le_add (k := k) l).mpr hl
  rw [show add (sub h l) l = h from Prod.ext (by show h.1 - l.1 + l.1 = h.1; omega) (by show h.2 - l.2 + l.2 = h.2; omega)] at a
  have b := le_add2 hk (le_refl hk (Y37.sc N (6, 0))) hx.2.2.1
  rw [show add (Y37.sc N (6, 0)) (Y37.sc N (mate k x)) = add (Y37.sc N (mate k x)) (Y37.sc N (6, 0)) from Prod.ext (Int.add_comm ..) (Int.add_comm ..)] at b
  exact lt_le_t hk (lt_le_t hk hy.2.2.2 a) b
/-- sorted by the floor of eight times and the rest, two unlike ones are in order -/
theorem Mb.ord {k N : Int} {p q l h x y : Z2} (hk : Kd k) (hN : 0 < N) (hl : le k (sub h l) (Y37.sc N (6, 0))) (hx : Mb k N p q l h x) (hy : Mb k N p q l h y) (ne : x ≠ y) (g : ¬ flQ k (y.1 * 8) (y.2 * 8) 1 (rtI (k * (y.2 * 8) * (y.2 * 8))) < flQ k (x.1 * 8) (x.2 * 8) 1 (rtI (k * (x.2 * 8) * (x.2 * 8)))) : lt k x y := by
  rcases lt_tot hk ne with a | a
  · exact a
  · exact (g (fl8 hk (far hk a (Mb.near hk hN hl hy hx) (Mb.near hk hN hl hx hy)))).elim
end Y37

set_option Elab.async false
set_option linter.all false
set_option maxRecDepth 100000
set_option maxHeartbeats 4000000
/-! M37k: a number over w less its mate; ends of rows by floors; lists in order, one more put in. -/
namespace Y37
open Wz
open Y02 (K3 Kd lsD sgL flQ fl_ok)
open Y75 (Z2 mul mate add sub nrm LO)
theorem neg_mull {k : Int} (p q : Z2) : mul k (neg p) q = neg (mul k p q) := by
  rw [Y75.mul_comm, neg_mulr, Y75.mul_comm]
theorem by_is {k a b n D X Y Z x y z t : Int} (hk : Kd k) (hn : 0 < n) (hD : 0 < D) (eD : mul k (dW k) (mate k (dW k)) = (-D, 0)) (l1 : LO (mul k (a, b) (mate k (dW k))).1 (mul k (a, b) (mate k (dW k))).2 (n * 1) X Y Z) (hZ : 0 < Z) (l3 : LO (-1 * X * 1) (-1 * Y * 1) (Z * D) x y z) (hz : 0 < z) : t ≤ flQ k x y z (rtI (k * y * y)) ↔ nge k a b n (sc t (dW k)) := by
  have v0 : Vl n (a, b) a b n := ⟨rfl, rfl⟩
  have v1 : Vl n (mul k (a, b) (mate k (dW k))) X Y Z := by
    have v := v0.mul (k := k) (mate k (dW k))
    rw [Int.mul_one] at l1
    exact v.lo l1 hn
  have v2 : Vl (n * D) (neg (mul k (a, b) (mate k (dW k)))) (-1 * X * 1) (-1 * Y * 1) (Z * D) := by
    obtain ⟨g1, g2⟩ := v1
    unfold neg
    constructor
    · show -(mul k (a, b) (mate k (dW k))).1 * (Z * D) = -1 * X * 1 * (n * D)
      rw [← Int.mul_assoc, Int.neg_mul, g1]
      grind
    · show -(mul k (a, b) (mate k (dW k))).2 * (Z * D) = -1 * Y * 1 * (n * D)
      rw [← Int.mul_assoc, Int.neg_mul, g2]
      grind
  have v3 := v2.lo l3 (Int.mul_pos hZ hD)
  have hN := Int.mul_pos hn hD
  rw [fl_le hk hz, ← sc_int]
  have e1 : le k (sc z (t, 0)) (x, y) ↔ le k (sc (n * D) (t, 0)) (neg (mul k (a, b) (mate k (dW k)))) := v3.nge hk hN hz
  rw [sc_int] at e1
  rw [sc_int, e1, ← le_mulr hk (dW_pos hk), sc_mulr, neg_mull, Y75.mul_assoc, Y75.mul_comm k (mate k (dW k)), eD, sc_mul]
  have e2 : neg (mul k (a, b) (-D, 0)) = sc D (a, b) := by
    rw [Y75.mul_int]
    unfold neg sc
    exact Prod.ext (by show -(a * -D) = a * D; rw [Int.mul_neg, Int.neg_neg]) (by show -(b * -D) = b * D; rw [Int.mul_neg, Int.neg_neg])
  have e3 : sc (n * D) (sc t (dW k)) = sc D (sc n (sc t (dW k))) := Prod.ext (by show _ * (n * D) = _ * n * D; rw [Int.mul_assoc]) (by show _ * (n * D) = _ * n * D; rw [Int.mul_assoc])
  rw [e2, e3, le_sc hk hD]
  rfl
/-- the least t with p at most t + q: by the floor of its negative -/
theorem wi_is {k N a b n x y z X Y Z t : Int} {p q : Z2} (hk : Kd k) (hN : 0 < N) (hn : 0 < n) (V : Vl N p a b n) (l1 : LO (a * 1 + -q.1 * n) (b * 1 + -q.2 * n) (n * 1) x y z) (hz : 0 < z) (l2 : LO (0 * z - x * 1) (0 * z - y * 1) (1 * z) X Y Z) (hZ : 0 < Z) : 0 - flQ k X Y Z (rtI (k * Y * Y)) ≤ t ↔ le k p (sc N (add (t, 0) q)) := by
  have V1 : Vl N (add p (sc N (neg q))) x y z := by
    have v := V.add (Vl.int (N := N) (neg q))
    exact v.lo l1 (by omega)
  have V2 : Vl N (sub (sc N (0, 0)) (add p (sc N (neg q)))) X Y Z := by
    have v := (Vl.int (N := N) (0, 0)).sub V1
    exact v.lo l2 (by omega)
  have e1 : (0 - flQ k X Y Z (rtI (k * Y * Y)) ≤ t ↔ -t ≤ flQ k X Y Z (rtI (k * Y * Y))) := by
    generalize flQ k X Y Z (rtI (k * Y * Y)) = F
    omega
  rw [e1, fl_le hk hZ, ← sc_int]
  have e2 : le k (sc Z (-t, 0)) (X, Y) ↔ le k (sc N (-t, 0)) (sub (sc N (0, 0)) (add p (sc N (neg q)))) := V2.nge hk hN hZ
  rw [e2]
  rw [← le_add (k := k) (add p (sc N (t, 0))) (p := sc N (-t, 0))]
  have e3 : add (sc N (-t, 0)) (add p (sc N (t, 0))) = p := by
    unfold Y75.add sc
    exact Prod.ext (by show -t * N + (p.1 + t * N) = p.1; rw [Int.neg_mul]; omega) (by show 0 * N + (p.2 + 0 * N) = p.2; omega)
  have e4 : add (sub (sc N (0, 0)) (add p (sc N (neg q)))) (add p (sc N (t, 0))) = sc N (add (t, 0) q) := by
    unfold Y75.add Y75.sub sc neg
    exact Prod.ext (by show 0 * N - (p.1 + -q.1 * N) + (p.1 + t * N) = (t + q.1) * N; rw [Int.neg_mul, Int.add_mul]; omega) (by show 0 * N - (p.2 + -q.2 * N) + (p.2 + 0 * N) = (0 + q.2) * N; rw [Int.neg_mul, Int.zero_add]; omega)
  rw [e3, e4]
/-- lists in order -/
theorem ins_pw {k : Int} (hk : Kd k) {R : List Z2} {z : Z2} {i : Nat} (hp : R.Pairwise (lt k)) (nz : z ∉ R) (h1 : ∀ y ∈ R.take i, lt k y z) (h2 : ∀ y, R[i]? = some y → ¬ lt k y z) : (R.take i ++ [z] ++ R.drop i).Pairwise (lt k) := by
  have hp2 : (R.take i ++ R.drop i).Pairwise (lt k) := by
    rw [List.take_append_drop]
    exact hp
  obtain ⟨a1, a2, a3⟩ := List.pairwise_append.mp hp2
  have h3 : ∀ y ∈ R.drop i, lt k z y := by
    intro y hy
    cases hd : R.drop i with
    | nil => rw [hd] at hy; cases hy
    | cons w ws =>
      have hw : R[i]? = some w := by
        have : (R.drop i)[0]? = some w := by rw [hd]; rfl
        rw [List.getElem?_drop, Nat.add_zero] at this
        exact this
      have mw : w ∈ R := List.mem_of_getElem? hw
      have zw : lt k z w := by
        rcases lt_tot hk (p := z) (q := w) (fun e => nz (e ▸ mw)) with g | g
        · exact g
        · exact (h2 w hw g).elim
      rw [hd] at hy
      rcases List.mem_cons.mp hy with e | g
      · rw [e]
        exact zw
      · rw [hd] at a2
        exact lt_trans hk zw ((List.pairwise_cons.mp a2).1 y g)
  refine List.pairwise_append.mpr ⟨List.pairwise_append.mpr ⟨a1, List.pairwise_cons.mpr ⟨fun y h => (by cases h), List.Pairwise.nil⟩, fun x hx y hy => ?_⟩, a2, fun x hx y hy => ?_⟩
  · have e := List.mem_singleton.mp hy
    subst e
    exact h1 x hx
  · rcases List.mem_append.mp hx with g | g
    · exact a3 x g y hy
    · have e := List.mem_singleton.mp g
      subst e
      exact h3 y hy
theorem ins_mem {R : List Z2} {z w : Z2} {i : Nat} : w ∈ R.take i ++ [z] ++ R.drop i ↔ w ∈ R ∨ w = z := by
  rw [List.mem_append, List.mem_append, List.mem_singleton]
  have e : w ∈ R ↔ w ∈ R.take i ∨ w ∈ R.drop i := by
    rw [← List.mem_append, List.take_append_drop]
  rw [e]
  constructor
  · rintro ((a | a) | a)
    · exact .inl (.inl a)
    · exact .inr a
    · exact .inl (.inr a)
  · rintro ((a | a) | a)
    · exact .inl (.inl a)
    · exact .inr a
    · exact .inl (.inr a)
theorem ins_len {R : List Z2} {z : Z2} {i : Nat} : (R.take i ++ [z] ++ R.drop i).length = R.length + 1 := by
  rw [List.length_append, List.length_append, List.length_take, List.length_drop, List.length_singleton]
  omega
theorem take_more {k : Int} {R : List Z2} {z y : Z2} {i : Nat} (h : ∀ y ∈ R.take i, lt k y z) (hy : R[i]? = some y) (g : lt k y z) : ∀ y ∈ R.take (i + 1), lt k y z := by
  intro w hw
  rw [List.take_add_one, hy] at hw
  rcases List.mem_append.mp hw with a | a
  · exact h w a
  · have e := List.mem_singleton.mp a
    subst e
    exact g
/-- the ends of the b of members -/
theorem mb_b {k N : Int} {p q l h z : Z2} (hk : Kd k) (m : Mb k N p q l h z) : ¬ le k (sc N (sc z.2 (dW k))) (sub p h) ∧ le k (sc N (sc z.2 (dW k))) (sub q l) := by
  obtain ⟨h1, h2, h3, h4⟩ := m
  rw [← mate_dif (k := k) z, sc_sub]
  refine ⟨fun g => ?_, le_sub2 hk h2 h3⟩
  have a := le_add2 hk g h1
  have b := (le_add (k := k) (sub h (sc N z))).mpr a
  rw [show add (add (sub (sc N z) (sc N (mate k z))) p) (sub h (sc N z)) = add (sub h (sc N (mate k z))) p from Prod.ext (by show (sc N z).1 - (sc N (mate k z)).1 + p.1 + (h.1 - (sc N z).1) = h.1 - (sc N (mate k z)).1 + p.1; omega) (by show (sc N z).2 - (sc N (mate k z)).2 + p.2 + (h.2 - (sc N z).2) = h.2 - (sc N (mate k z)).2 + p.2; omega), show add (add (sub p h) (sc N z)) (sub h (sc N z)) = add (0, 0) p from Prod.ext (by show p.1 - h.1 + (sc N z).1 + (h.1 - (sc N z).1) = 0 + p.1; omega) (by show p.2 - h.2 + (sc N z).2 + (h.2 - (sc N z).2) = 0 + p.2; omega)] at b
  have c := (le_add (k := k) p).mp b
  have d := (le_add (k := k) (sc N (mate k z))).mpr c
  rw [show add (sub h (sc N (mate k z))) (sc N (mate k z)) = h from Prod.ext (by show h.1 - (sc N (mate k z)).1 + (sc N (mate k z)).1 = h.1; omega) (by show h.2 - (sc N (mate k z)).2 + (sc N (mate k z)).2 = h.2; omega), show add (0, 0) (sc N (mate k z)) = sc N (mate k z) from Prod.ext (Int.zero_add _) (Int.zero_add _)] at d
  exact d h4
theorem mb_few {k N f l : Int} {p q lo hh : Z2} (hk : Kd k) (hN : 0 < N) (hf : ∀ t : Int, t ≤ f ↔ le k (sc N (sc t (dW k))) (sub p hh)) (hl : ∀ t : Int, t ≤ l ↔ le k (sc N (sc t (dW k))) (sub q lo)) (hd : le k (sub q p) (sc N (150, 0))) (h6 : le k (sub hh lo) (sc N (6, 0))) : l - f ≤ 79 := by
  by_cases c0 : l - (f + 1) ≤ 0
  · omega
  have a := (hl l).mp (Int.le_refl _)
  have b := le_dn hk (fun z => by
    have := (hf (f + 1)).mpr z
    omega : ¬ le k (sc N (sc (f + 1) (dW k))) (sub p hh))
  have c := le_sub2 hk a b
  have d := le_add2 hk hd h6
  rw [← sc_sub, show sub (sc l (dW k)) (sc (f + 1) (dW k)) = sc (l - (f + 1)) (dW k) from Prod.ext (Int.mul_sub ..).symm (Int.mul_sub ..).symm, show sub (sub q lo) (sub p hh) = add (sub q p) (sub hh lo) from Prod.ext (by show q.1 - lo.1 - (p.1 - hh.1) = q.1 - p.1 + (hh.1 - lo.1); omega) (by show q.2 - lo.2 - (p.2 - hh.2) = q.2 - p.2 + (hh.2 - lo.2); omega)] at c
  rw [← sc_add] at d
  have e := (le_sc hk hN).mp (le_trans hk c d)
  have g := (le_int hk).mp (le_trans hk (dW_up (t := l - (f + 1)) hk (by omega)) (le_trans hk e (le_of_eq hk (show add (150, 0) (6, 0) = (156, 0) from rfl))))
  omega
/-- a row of a: the half-open one -/
theorem row_few {k N f g : Int} {l h q : Z2} (hk : Kd k) (hN : 0 < N) (hf : ∀ t : Int, f ≤ t ↔ le k l (sc N (add (t, 0) q))) (hg : ∀ t : Int, g ≤ t ↔ le k h (sc N (add (t, 0) q))) (h6 : le k (sub h l) (sc N (6, 0))) : g - f ≤ 7 := by
  have a := (hf f).mp (Int.le_refl _)
  have b := le_dn hk (fun z => by
    have := (hg (g - 1)).mpr z
    omega : ¬ le k h (sc N (add (g - 1, 0) q)))
  have c := le_sub2 hk b a
  rw [← sc_sub, show sub (add (g - 1, 0) q) (add (f, 0) q) = (g - 1 - f, 0) from Prod.ext (by show g - 1 + q.1 - (f + q.1) = g - 1 - f; omega) (by show 0 + q.2 - (0 + q.2) = 0; omega)] at c
  have := (le_int hk).mp ((le_sc hk hN).mp (le_trans hk c h6))
  omega
end Y37

set_option Elab.async false
set_option linter.all false
set_option maxRecDepth 100000
set_option maxHeartbeats 8000000
namespace Y37
open PySem PySem.Spec PyProof.Rows L2 Evl Wz
open Y02 (Kd Nm psD sgP flQ flA flN rtF g3 sg sq_nn lsD)
open Y75 (Z2 mul mate add sub B2 LO mul_b mate_b B2.mono)
local macro_rules | `(tactic| walk_at "bd") => `(tactic| (repeat (first | assumption | apply Bd.mul | apply Bd.add | apply Bd.sub | apply Bd.neg | exact Bd.z | exact Bd.of _)))
local macro_rules | `(tactic| walk_at "bm") => `(tactic| (first | assumption | exact Bd.mono (by walk_at "bd") (by decide)))
local macro_rules | `(tactic| walk_at "b2") => `(tactic| (repeat (first | assumption | apply And.intro | walk_at "bm" | decide | omega)))
def topS (i : Nat) : Stmt := PySem.Challenge.pw_wholefloors_k37_whole_members_by_boxes.main.body.getD i (.Pass ⟨0, 0, 0, 0⟩)
abbrev T3 := Int × Int × Int
def suF (k : Int) : T3 := if k = 2 then (3, 2, 1) else if k = 3 then (2, 1, 1) else (1, 1, 1)
abbrev pD (z : Z2) : Dat := .tup [.int z.1, .int z.2]
abbrev nD (a b n : Int) : Dat := .tup [.int a, .int b, .int n]
theorem two_b : Bd 2 (2 : Int) := by show Int.natAbs _ < 2 ^ 2; decide
theorem lo_neg {a b n : Int} (hn : n ≠ 0) : (n < 0 → LO a b n (a.fdiv (-(g3 a b n))) (b.fdiv (-(g3 a b n))) (n.fdiv (-(g3 a b n)))) ∧ (¬ n < 0 → LO a b n (a.fdiv (g3 a b n)) (b.fdiv (g3 a b n)) (n.fdiv (g3 a b n))) := by
  have key : (n < 0 → Y02.sg a b n = -(Y02.g3 a b n)) ∧ (¬ n < 0 → Y02.sg a b n = Y02.g3 a b n) := by
    unfold Y02.sg
    exact ⟨fun h => if_pos (decide_eq_true h), fun h => if_neg (by rw [decide_eq_false h]; decide)⟩
  refine ⟨fun h => ⟨?_, ?_, ?_⟩, fun h => ⟨?_, ?_, ?_⟩⟩
  · unfold Y02.loA; rw [key.1 h]
  · unfold Y02.loB; rw [key.1 h]
  · unfold Y02.loN; rw [key.1 h]
  · unfold Y02.loA; rw [key.2 h]
  · unfold Y02.loB; rw [key.2 h]
  · unfold Y02.loN; rw [key.2 h]
theorem lo_b {a b n x y z : Int} {m : Nat} (h : LO a b n x y z) (hn : n ≠ 0) (h1 : Bd m a) (h2 : Bd m b) (h3 : Bd m n) : Bd m x ∧ Bd m y ∧ Bd m z := by
  rw [h.x, h.y, h.z]
  exact Y02.lo_bd hn h1 h2 h3
theorem g3_b {a b n : Int} {m : Nat} (hn : n ≠ 0) (h : Bd m n) : Bd m (g3 a b n) := by
  show (g3 a b n).natAbs < 2 ^ m
  unfold Y02.g3
  rw [Int.natAbs_natCast]
  exact Nat.lt_of_le_of_lt (Nat.gcd_le_right _ (Int.natAbs_pos.mpr hn)) h
/-- a number in lowest terms, of so many bits -/
structure Nb (m : Nat) (a b n : Int) : Prop where
  p : 0 < n
  a : Bd m a
  b : Bd m b
  n : Bd m n
theorem Nb.mono {m l : Nat} {a b n : Int} (h : Nb m a b n) (e : m ≤ l) : Nb l a b n := ⟨h.p, h.a.mono e, h.b.mono e, h.n.mono e⟩
theorem lo_nb {a b n x y z : Int} {m : Nat} (h : LO a b n x y z) (g : Nb m a b n) : Nb m x y z := by
  obtain ⟨h1, h2, h3⟩ := lo_b h (by have := g.p; omega) g.a g.b g.n
  refine ⟨?_, h1, h2, h3⟩
  rw [h.z]
  have e := (Y02.lo_mul (a := a) (b := b) (n := n) (by have := g.p; omega)).2.2
  have s := Y02.sg_pos (a := a) (b := b) g.p
  have p := g.p
  exact Int.lt_of_not_ge fun z => by
    have := Int.mul_nonpos_of_nonpos_of_nonneg z (Int.le_of_lt s)
    omega
set_option exponentiation.threshold 1000000
section
variable {P : Program} {w : World} {K : PySem.W.Frag} {mg : Str → Option Value} {base : Heap}

/-! ### is_integer -/
abbrev s_is_integer : Stmt := topS 8
theorem sc_is_integer : FnScope ["told"] ["told"] (defScope s_is_integer) := ⟨rfl, rfl, rfl, by decide +kernel, rfl, by decide +kernel, by decide +kernel⟩
def F_is_integer : FP := fun ds Q => ∃ i, ds = [.int i] ∧ Q (.bl true)
theorem ok_is_integer {f : Addr} {fd : FuncData} (Fn : Fun K "is_integer" "is_integer" s_is_integer f fd) (m_isinstance : mg "isinstance" = none) (m_int : mg "int" = none) (m_bool : mg "bool" = none) : FnOk P w K mg base CX0 1 f fd ["told"] (spP K F_is_integer) := by
  refine fn_P Fn sc_is_integer (fun ds G h => ?_) (fun cdv A outer s H Q E ds G hr hF hQ => ?_)
  · obtain ⟨i, rfl, hG⟩ := h
    rfl
  · obtain ⟨i, rfl, hG⟩ := hF
    refine (as_ret hQ (c_and (c_isi (U := "int") m_isinstance (ca_cons (nm 0 rfl (ca_cons (c_ty (T := "int") m_int (by decide +kernel) (ca_nil ⟨rfl, _, true, rfl, (by decide +kernel), (c_one (c_not (c_isi (U := "bool") m_isinstance (ca_cons (nm 0 rfl (ca_cons (c_ty (T := "bool") m_bool (by decide +kernel) (ca_nil ⟨rfl, _, false, rfl, (by decide +kernel), (And.intro rfl ?h1)⟩))))))))⟩))))))))
    case h1 =>
      exact hG

/-! ### is_whole -/
abbrev s_is_whole : Stmt := topS 9
theorem sc_is_whole : FnScope ["told"] ["told"] (defScope s_is_whole) := ⟨rfl, rfl, rfl, by decide +kernel, rfl, by decide +kernel, by decide +kernel⟩
def F_is_whole : FP := fun ds Q => ∃ z, ds = [pD z] ∧ Q (.bl true)
theorem ok_is_whole {f : Addr} {fd : FuncData} (Fn : Fun K "is_whole" "is_whole" s_is_whole f fd) (c_is_integer : Cl P w K mg base 1 "is_integer" ["told"] (spP K F_is_integer)) (m_isinstance : mg "isinstance" = none) (m_tuple : mg "tuple" = none) (m_len : mg "len" = none) : FnOk P w K mg base CX0 2 f fd ["told"] (spP K F_is_whole) := by
  refine fn_P Fn sc_is_whole (fun ds G h => ?_) (fun cdv A outer s H Q E ds G hr hF hQ => ?_)
  · obtain ⟨z, rfl, hG⟩ := h
    rfl
  · obtain ⟨z, rfl, hG⟩ := hF
    refine (as_ret hQ (c_and (c_isi (U := "tuple") m_isinstance (ca_cons (nm 0 rfl (ca_cons (c_ty (T := "tuple") m_tuple (by decide +kernel) (ca_nil ⟨rfl, _, true, rfl, (by decide +kernel), (c_and (c_eqI (c_lenT m_len (ca_cons (nm 0 rfl (ca_nil (c_int (c_and (c_call c_is_integer (hr.mono (by decide)) (ca_cons (c_ixTn (nm 0 rfl (c_int (And.intro (by decide) (ca_nil ⟨_, rfl, And.intro rfl (c_one (c_call c_is_integer (hr.mono (by decide)) (ca_cons (c_ixTn (nm 0 rfl (c_int (And.intro (by decide) (ca_nil ⟨_, rfl, And.intro rfl (And.intro rfl ?h1)⟩))))))))⟩)))))))))))))))⟩))))))))
    case h1 =>
      exact hG

/-! ### is_kind -/
abbrev s_is_kind : Stmt := topS 10
theorem sc_is_kind : FnScope ["told"] ["told"] (defScope s_is_kind) := ⟨rfl, rfl, rfl, by decide +kernel, rfl, by decide +kernel, by decide +kernel⟩
def F_is_kind : FP := fun ds Q => ∃ k, ds = [.int k] ∧ Kd k ∧ Q (.bl true)
theorem ok_is_kind {f : Addr} {fd : FuncData} (Fn : Fun K "is_kind" "is_kind" s_is_kind f fd) (c_is_integer : Cl P w K mg base 1 "is_integer" ["told"] (spP K F_is_integer)) (t_KINDS : KT K mg "KINDS" [.int 2, .int 3, .int 5]) : FnOk P w K mg base CX0 2 f fd ["told"] (spP K F_is_kind) := by
  refine fn_P Fn sc_is_kind (fun ds G h => ?_) (fun cdv A outer s H Q E ds G hr hF hQ => ?_)
  · obtain ⟨k, rfl, hk, hG⟩ := h
    rfl
  · obtain ⟨k, rfl, hk, hG⟩ := hF
    refine (as_ret hQ (c_and (c_call c_is_integer (hr.mono (by decide)) (ca_cons (nm 0 rfl (ca_nil ⟨_, rfl, And.intro rfl (c_one (c_inI (is := [2, 3, 5]) (nm 0 rfl (c_kt t_KINDS (And.intro rfl (And.intro rfl ?h1))))))⟩))))))
    case h1 =>
      rw [show decide (k ∈ [2, 3, 5]) = true by rcases hk with rfl | rfl | rfl <;> decide]
      exact hG

/-! ### lowest -/
abbrev s_lowest : Stmt := topS 12
theorem sc_lowest : FnScope ["a", "b", "n", "common"] ["a", "b", "n"] (defScope s_lowest) := ⟨rfl, rfl, rfl, by decide +kernel, rfl, by decide +kernel, by decide +kernel⟩
def F_lowest : FP := fun ds Q => ∃ (a b n : Int) (l : Nat), ds = [.int a, .int b, .int n] ∧ (Nb l a b n ∧ l ≤ 4000) ∧ ∀ x y z, LO a b n x y z → Nb l x y z → Q (nD x y z)
theorem ok_lowest {f : Addr} {fd : FuncData} (Fn : Fun K "lowest" "lowest" s_lowest f fd) (m_gcd : mg "gcd" = some (.builtin "math.gcd")) : FnOk P w K mg base CX0 1 f fd ["a", "b", "n"] (spP K F_lowest) := by
  refine fn_P Fn sc_lowest (fun ds G h => ?_) (fun cdv A outer s H Q E ds G hr hF hQ => ?_)
  · obtain ⟨a, b, n, l, rfl, ⟨hnb, hl⟩, hG⟩ := h
    rfl
  · obtain ⟨a, b, n, l, rfl, ⟨hnb, hl⟩, hG⟩ := hF
    have hp := hnb.p
    have hn : n ≠ 0 := by omega
    obtain ⟨ln, lp⟩ := lo_neg (a := a) (b := b) hn
    have hgb : Bd 4000 (g3 a b n) := (g3_b hn hnb.n).mono hl
    have hgn := Y02.g3_ne (a := a) (b := b) hn
    refine (as_asg (i := 3) ?h1 (c_gcd3 m_gcd (ca_cons (nm 0 rfl (ca_cons (nm 1 rfl (ca_cons (nm 2 rfl (ca_nil (as_ifn (t_lt (nm 2 rfl (c_int (And.intro (fun b1 => (as_asg (i := 3) ?h2 (c_neg (nm 3 rfl (as_go (as_ret hQ (c_tup (ca_cons (c_fdivX (nm 0 rfl (nm 3 rfl (And.intro ?h3 (ca_cons (c_fdivX (nm 1 rfl (nm 3 rfl (And.intro ?h4 (ca_cons (c_fdivX (nm 2 rfl (nm 3 rfl (And.intro ?h5 (ca_nil (And.intro (And.intro rfl (Nat.le_of_ble_eq_true rfl)) (And.intro rfl ?h6))))))))))))))))))))))))) (fun b1 => (as_ret hQ (c_tup (ca_cons (c_fdivX (nm 0 rfl (nm 3 rfl (And.intro ?h7 (ca_cons (c_fdivX (nm 1 rfl (nm 3 rfl (And.intro ?h8 (ca_cons (c_fdivX (nm 2 rfl (nm 3 rfl (And.intro ?h9 (ca_nil (And.intro (And.intro rfl (Nat.le_of_ble_eq_true rfl)) (And.intro rfl ?h10)))))))))))))))))))))))))))))))))))
    case h1 =>
      exact sc_lowest.nd
    case h2 =>
      exact sc_lowest.nd
    case h3 =>
      first | exact cdx hgn hgb (by decide) | exact cdx (show -(g3 a b n) ≠ 0 by omega) hgb.neg (by decide)
    case h4 =>
      first | exact cdx hgn hgb (by decide) | exact cdx (show -(g3 a b n) ≠ 0 by omega) hgb.neg (by decide)
    case h5 =>
      first | exact cdx hgn hgb (by decide) | exact cdx (show -(g3 a b n) ≠ 0 by omega) hgb.neg (by decide)
    case h6 =>
      first
        | exact hG _ _ _ (lp (by assumption)) (lo_nb (lp (by assumption)) hnb)
        | exact hG _ _ _ (ln (by assumption)) (lo_nb (ln (by assumption)) hnb)
    case h7 =>
      first | exact cdx hgn hgb (by decide) | exact cdx (show -(g3 a b n) ≠ 0 by omega) hgb.neg (by decide)
    case h8 =>
      first | exact cdx hgn hgb (by decide) | exact cdx (show -(g3 a b n) ≠ 0 by omega) hgb.neg (by decide)
    case h9 =>
      first | exact cdx hgn hgb (by decide) | exact cdx (show -(g3 a b n) ≠ 0 by omega) hgb.neg (by decide)
    case h10 =>
      first
        | exact hG _ _ _ (lp (by assumption)) (lo_nb (lp (by assumption)) hnb)
        | exact hG _ _ _ (ln (by assumption)) (lo_nb (ln (by assumption)) hnb)

/-! ### pair_times -/
abbrev s_pair_times : Stmt := topS 13
theorem sc_pair_times : FnScope ["kind", "p", "q", "a", "b", "c", "d"] ["kind", "p", "q"] (defScope s_pair_times) := ⟨rfl, rfl, rfl, by decide +kernel, rfl, by decide +kernel, by decide +kernel⟩
def F_pair_times : FP := fun ds Q => ∃ k p q, ds = [.int k, pD p, pD q] ∧ (Kd k ∧ B2 4000 p ∧ B2 4000 q) ∧ Q (pD (mul k p q))
theorem ok_pair_times {f : Addr} {fd : FuncData} (Fn : Fun K "pair_times" "pair_times" s_pair_times f fd)  : FnOk P w K mg base CX0 1 f fd ["kind", "p", "q"] (spP K F_pair_times) := by
  refine fn_P Fn sc_pair_times (fun ds G h => ?_) (fun cdv A outer s H Q E ds G hr hF hQ => ?_)
  · obtain ⟨k, p, q, rfl, ⟨hk, ⟨hp1, hp2⟩, hq1, hq2⟩, hG⟩ := h
    rfl
  · obtain ⟨k, p, q, rfl, ⟨hk, ⟨hp1, hp2⟩, hq1, hq2⟩, hG⟩ := hF
    have hkb := hk.bd
    refine (as_unp2 (i := 3) (j := 4) ?h1 rfl (nm 1 rfl ⟨_, _, rfl, (as_unp2 (i := 5) (j := 6) ?h2 rfl (nm 2 rfl ⟨_, _, rfl, (as_ifn (t_eqI (nm 0 rfl (c_int (And.intro (fun b1 => (as_ret hQ (c_tup (ca_cons (c_add (c_mul (nm 3 rfl (nm 5 rfl (And.intro ?h3 (c_mul (nm 4 rfl (nm 6 rfl (And.intro ?h4 (ca_cons (c_add (c_add (c_mul (nm 3 rfl (nm 6 rfl (And.intro ?h5 (c_mul (nm 4 rfl (nm 5 rfl (And.intro ?h6 (c_mul (nm 4 rfl (nm 6 rfl (And.intro ?h7 (ca_nil (And.intro (And.intro rfl (Nat.le_of_ble_eq_true rfl)) (And.intro rfl ?h8))))))))))))))))))))))))))))))) (fun b1 => (as_ret hQ (c_tup (ca_cons (c_add (c_mul (nm 3 rfl (nm 5 rfl (And.intro ?h9 (c_mul (c_mul (nm 0 rfl (nm 4 rfl (And.intro ?h10 (nm 6 rfl (And.intro ?h11 (ca_cons (c_add (c_mul (nm 3 rfl (nm 6 rfl (And.intro ?h12 (c_mul (nm 4 rfl (nm 5 rfl (And.intro ?h13 (ca_nil (And.intro (And.intro rfl (Nat.le_of_ble_eq_true rfl)) (And.intro rfl ?h14))))))))))))))))))))))))))))))))))⟩))⟩))
    case h1 =>
      exact sc_pair_times.nd
    case h2 =>
      exact sc_pair_times.nd
    case h3 =>
      exact cm (by walk_at "bd") (by walk_at "bd") (by decide)
    case h4 =>
      exact cm (by walk_at "bd") (by walk_at "bd") (by decide)
    case h5 =>
      exact cm (by walk_at "bd") (by walk_at "bd") (by decide)
    case h6 =>
      exact cm (by walk_at "bd") (by walk_at "bd") (by decide)
    case h7 =>
      exact cm (by walk_at "bd") (by walk_at "bd") (by decide)
    case h8 =>
      first | (rw [show mul k p q = _ from if_pos b1] at hG; exact hG) | (rw [show mul k p q = _ from if_neg b1] at hG; exact hG)
    case h9 =>
      exact cm (by walk_at "bd") (by walk_at "bd") (by decide)
    case h10 =>
      exact cm (by walk_at "bd") (by walk_at "bd") (by decide)
    case h11 =>
      exact cm (by walk_at "bd") (by walk_at "bd") (by decide)
    case h12 =>
      exact cm (by walk_at "bd") (by walk_at "bd") (by decide)
    case h13 =>
      exact cm (by walk_at "bd") (by walk_at "bd") (by decide)
    case h14 =>
      first | (rw [show mul k p q = _ from if_pos b1] at hG; exact hG) | (rw [show mul k p q = _ from if_neg b1] at hG; exact hG)

/-! ### pair_mate -/
abbrev s_pair_mate : Stmt := topS 14
theorem sc_pair_mate : FnScope ["kind", "p", "a", "b"] ["kind", "p"] (defScope s_pair_mate) := ⟨rfl, rfl, rfl, by decide +kernel, rfl, by decide +kernel, by decide +kernel⟩
def F_pair_mate : FP := fun ds Q => ∃ k p, ds = [.int k, pD p] ∧ Q (pD (mate k p))
theorem ok_pair_mate {f : Addr} {fd : FuncData} (Fn : Fun K "pair_mate" "pair_mate" s_pair_mate f fd)  : FnOk P w K mg base CX0 1 f fd ["kind", "p"] (spP K F_pair_mate) := by
  refine fn_P Fn sc_pair_mate (fun ds G h => ?_) (fun cdv A outer s H Q E ds G hr hF hQ => ?_)
  · obtain ⟨k, p, rfl, hG⟩ := h
    rfl
  · obtain ⟨k, p, rfl, hG⟩ := hF
    refine (as_unp2 (i := 2) (j := 3) ?h1 rfl (nm 1 rfl ⟨_, _, rfl, (as_ifn (t_eqI (nm 0 rfl (c_int (And.intro (fun b1 => (as_ret hQ (c_tup (ca_cons (c_add (nm 2 rfl (nm 3 rfl (ca_cons (c_neg (nm 3 rfl (ca_nil (And.intro (And.intro rfl (Nat.le_of_ble_eq_true rfl)) (And.intro rfl ?h2))))))))))))) (fun b1 => (as_ret hQ (c_tup (ca_cons (nm 2 rfl (ca_cons (c_neg (nm 3 rfl (ca_nil (And.intro (And.intro rfl (Nat.le_of_ble_eq_true rfl)) (And.intro rfl ?h3))))))))))))))))⟩))
    case h1 =>
      exact sc_pair_mate.nd
    case h2 =>
      first | (rw [show mate k p = _ from if_pos b1] at hG; exact hG) | (rw [show mate k p = _ from if_neg b1] at hG; exact hG)
    case h3 =>
      first | (rw [show mate k p = _ from if_pos b1] at hG; exact hG) | (rw [show mate k p = _ from if_neg b1] at hG; exact hG)

/-! ### whole_sign -/
abbrev s_whole_sign : Stmt := topS 15
theorem sc_whole_sign : FnScope ["kind", "a", "b"] ["kind", "a", "b"] (defScope s_whole_sign) := ⟨rfl, rfl, rfl, by decide +kernel, rfl, by decide +kernel, by decide +kernel⟩
def F_whole_sign : FP := fun ds Q => ∃ k a b, ds = [.int k, .int a, .int b] ∧ (Kd k ∧ Bd 4000 a ∧ Bd 4000 b) ∧ ∀ s, s = psD k a b → Q (.int s)
theorem ok_whole_sign {f : Addr} {fd : FuncData} (Fn : Fun K "whole_sign" "whole_sign" s_whole_sign f fd)  : FnOk P w K mg base CX0 1 f fd ["kind", "a", "b"] (spP K F_whole_sign) := by
  refine fn_P Fn sc_whole_sign (fun ds G h => ?_) (fun cdv A outer s H Q E ds G hr hF hQ => ?_)
  · obtain ⟨k, a, b, rfl, ⟨hk, ha, hb⟩, hG⟩ := h
    rfl
  · obtain ⟨k, a, b, rfl, ⟨hk, ha, hb⟩, hG⟩ := hF
    have hkb := hk.bd
    refine (as_ifn (t_eqI (nm 0 rfl (c_int (And.intro (fun b1 => (as_asg (i := 1) ?h1 (c_add (c_mulS (c_int (nm 1 rfl (And.intro (.inl (And.intro (by decide) (by decide))) (nm 2 rfl (as_go (as_ifn (t_w (w_and (t_ge (nm 1 rfl (c_int (And.intro (fun b2 => (w_and1 (t_ge (nm 2 rfl (c_int (And.intro (fun b3 => (as_ret hQ (c_if (t_w (w_or (t_tru (nm 1 rfl (And.intro (fun b4 => (c_int (And.intro rfl ?h2))) (fun b4 => (w_or1 (t_tru (nm 2 rfl (And.intro (fun b5 => (c_int (And.intro rfl ?h3))) (fun b5 => (c_int (And.intro rfl ?h4)))))))))))))))) (fun b3 => (as_ifn (t_w (w_and (t_le (nm 1 rfl (c_int (And.intro (fun b6 => (w_and1 (t_le (nm 2 rfl (c_int (And.intro (fun b7 => (as_ret hQ (c_neg (c_int (And.intro rfl ?h5))))) (fun b7 => (as_ifn (t_gt (c_mul (nm 1 rfl (nm 1 rfl (And.intro ?h6 (c_mul (c_mul (nm 0 rfl (nm 2 rfl (And.intro ?h7 (nm 2 rfl (And.intro ?h8 (And.intro (fun b8 => (as_ret hQ (c_if (t_gt (nm 1 rfl (c_int (And.intro (fun b9 => (c_int (And.intro rfl ?h9))) (fun b9 => (c_neg (c_int (And.intro rfl ?h10))))))))))) (fun b8 => (as_ret hQ (c_if (t_gt (nm 2 rfl (c_int (And.intro (fun b10 => (c_int (And.intro rfl ?h11))) (fun b10 => (c_neg (c_int (And.intro rfl ?h12)))))))))))))))))))))))))))))))) (fun b6 => (as_ifn (t_gt (c_mul (nm 1 rfl (nm 1 rfl (And.intro ?h13 (c_mul (c_mul (nm 0 rfl (nm 2 rfl (And.intro ?h14 (nm 2 rfl (And.intro ?h15 (And.intro (fun b11 => (as_ret hQ (c_if (t_gt (nm 1 rfl (c_int (And.intro (fun b12 => (c_int (And.intro rfl ?h16))) (fun b12 => (c_neg (c_int (And.intro rfl ?h17))))))))))) (fun b11 => (as_ret hQ (c_if (t_gt (nm 2 rfl (c_int (And.intro (fun b13 => (c_int (And.intro rfl ?h18))) (fun b13 => (c_neg (c_int (And.intro rfl ?h19)))))))))))))))))))))))))))))))))))))))) (fun b2 => (as_ifn (t_w (w_and (t_le (nm 1 rfl (c_int (And.intro (fun b14 => (w_and1 (t_le (nm 2 rfl (c_int (And.intro (fun b15 => (as_ret hQ (c_neg (c_int (And.intro rfl ?h20))))) (fun b15 => (as_ifn (t_gt (c_mul (nm 1 rfl (nm 1 rfl (And.intro ?h21 (c_mul (c_mul (nm 0 rfl (nm 2 rfl (And.intro ?h22 (nm 2 rfl (And.intro ?h23 (And.intro (fun b16 => (as_ret hQ (c_if (t_gt (nm 1 rfl (c_int (And.intro (fun b17 => (c_int (And.intro rfl ?h24))) (fun b17 => (c_neg (c_int (And.intro rfl ?h25))))))))))) (fun b16 => (as_ret hQ (c_if (t_gt (nm 2 rfl (c_int (And.intro (fun b18 => (c_int (And.intro rfl ?h26))) (fun b18 => (c_neg (c_int (And.intro rfl ?h27)))))))))))))))))))))))))))))))) (fun b14 => (as_ifn (t_gt (c_mul (nm 1 rfl (nm 1 rfl (And.intro ?h28 (c_mul (c_mul (nm 0 rfl (nm 2 rfl (And.intro ?h29 (nm 2 rfl (And.intro ?h30 (And.intro (fun b19 => (as_ret hQ (c_if (t_gt (nm 1 rfl (c_int (And.intro (fun b20 => (c_int (And.intro rfl ?h31))) (fun b20 => (c_neg (c_int (And.intro rfl ?h32))))))))))) (fun b19 => (as_ret hQ (c_if (t_gt (nm 2 rfl (c_int (And.intro (fun b21 => (c_int (And.intro rfl ?h33))) (fun b21 => (c_neg (c_int (And.intro rfl ?h34)))))))))))))))))))))))))))))))))))))))))))))))))) (fun b1 => (as_ifn (t_w (w_and (t_ge (nm 1 rfl (c_int (And.intro (fun b22 => (w_and1 (t_ge (nm 2 rfl (c_int (And.intro (fun b23 => (as_ret hQ (c_if (t_w (w_or (t_tru (nm 1 rfl (And.intro (fun b24 => (c_int (And.intro rfl ?h35))) (fun b24 => (w_or1 (t_tru (nm 2 rfl (And.intro (fun b25 => (c_int (And.intro rfl ?h36))) (fun b25 => (c_int (And.intro rfl ?h37)))))))))))))))) (fun b23 => (as_ifn (t_w (w_and (t_le (nm 1 rfl (c_int (And.intro (fun b26 => (w_and1 (t_le (nm 2 rfl (c_int (And.intro (fun b27 => (as_ret hQ (c_neg (c_int (And.intro rfl ?h38))))) (fun b27 => (as_ifn (t_gt (c_mul (nm 1 rfl (nm 1 rfl (And.intro ?h39 (c_mul (c_mul (nm 0 rfl (nm 2 rfl (And.intro ?h40 (nm 2 rfl (And.intro ?h41 (And.intro (fun b28 => (as_ret hQ (c_if (t_gt (nm 1 rfl (c_int (And.intro (fun b29 => (c_int (And.intro rfl ?h42))) (fun b29 => (c_neg (c_int (And.intro rfl ?h43))))))))))) (fun b28 => (as_ret hQ (c_if (t_gt (nm 2 rfl (c_int (And.intro (fun b30 => (c_int (And.intro rfl ?h44))) (fun b30 => (c_neg (c_int (And.intro rfl ?h45)))))))))))))))))))))))))))))))) (fun b26 => (as_ifn (t_gt (c_mul (nm 1 rfl (nm 1 rfl (And.intro ?h46 (c_mul (c_mul (nm 0 rfl (nm 2 rfl (And.intro ?h47 (nm 2 rfl (And.intro ?h48 (And.intro (fun b31 => (as_ret hQ (c_if (t_gt (nm 1 rfl (c_int (And.intro (fun b32 => (c_int (And.intro rfl ?h49))) (fun b32 => (c_neg (c_int (And.intro rfl ?h50))))))))))) (fun b31 => (as_ret hQ (c_if (t_gt (nm 2 rfl (c_int (And.intro (fun b33 => (c_int (And.intro rfl ?h51))) (fun b33 => (c_neg (c_int (And.intro rfl ?h52)))))))))))))))))))))))))))))))))))))))) (fun b22 => (as_ifn (t_w (w_and (t_le (nm 1 rfl (c_int (And.intro (fun b34 => (w_and1 (t_le (nm 2 rfl (c_int (And.intro (fun b35 => (as_ret hQ (c_neg (c_int (And.intro rfl ?h53))))) (fun b35 => (as_ifn (t_gt (c_mul (nm 1 rfl (nm 1 rfl (And.intro ?h54 (c_mul (c_mul (nm 0 rfl (nm 2 rfl (And.intro ?h55 (nm 2 rfl (And.intro ?h56 (And.intro (fun b36 => (as_ret hQ (c_if (t_gt (nm 1 rfl (c_int (And.intro (fun b37 => (c_int (And.intro rfl ?h57))) (fun b37 => (c_neg (c_int (And.intro rfl ?h58))))))))))) (fun b36 => (as_ret hQ (c_if (t_gt (nm 2 rfl (c_int (And.intro (fun b38 => (c_int (And.intro rfl ?h59))) (fun b38 => (c_neg (c_int (And.intro rfl ?h60)))))))))))))))))))))))))))))))) (fun b34 => (as_ifn (t_gt (c_mul (nm 1 rfl (nm 1 rfl (And.intro ?h61 (c_mul (c_mul (nm 0 rfl (nm 2 rfl (And.intro ?h62 (nm 2 rfl (And.intro ?h63 (And.intro (fun b39 => (as_ret hQ (c_if (t_gt (nm 1 rfl (c_int (And.intro (fun b40 => (c_int (And.intro rfl ?h64))) (fun b40 => (c_neg (c_int (And.intro rfl ?h65))))))))))) (fun b39 => (as_ret hQ (c_if (t_gt (nm 2 rfl (c_int (And.intro (fun b41 => (c_int (And.intro rfl ?h66))) (fun b41 => (c_neg (c_int (And.intro rfl ?h67)))))))))))))))))))))))))))))))))))))))))))))))
    case h1 =>
      exact sc_whole_sign.nd
    case h2 =>
      first
        | (refine hG _ ?_; unfold psD sgP; rw [if_pos b1]; (repeat' split) <;> omega)
        | (refine hG _ ?_; unfold psD sgP; rw [if_neg b1]; (repeat' split) <;> omega)
    case h3 =>
      first
        | (refine hG _ ?_; unfold psD sgP; rw [if_pos b1]; (repeat' split) <;> omega)
        | (refine hG _ ?_; unfold psD sgP; rw [if_neg b1]; (repeat' split) <;> omega)
    case h4 =>
      first
        | (refine hG _ ?_; unfold psD sgP; rw [if_pos b1]; (repeat' split) <;> omega)
        | (refine hG _ ?_; unfold psD sgP; rw [if_neg b1]; (repeat' split) <;> omega)
    case h5 =>
      first
        | (refine hG _ ?_; unfold psD sgP; rw [if_pos b1]; (repeat' split) <;> omega)
        | (refine hG _ ?_; unfold psD sgP; rw [if_neg b1]; (repeat' split) <;> omega)
    case h6 =>
      exact cm (by walk_at "bd") (by walk_at "bd") (by decide)
    case h7 =>
      exact cm (by walk_at "bd") (by walk_at "bd") (by decide)
    case h8 =>
      exact cm (by walk_at "bd") (by walk_at "bd") (by decide)
    case h9 =>
      first
        | (refine hG _ ?_; unfold psD sgP; rw [if_pos b1]; (repeat' split) <;> omega)
        | (refine hG _ ?_; unfold psD sgP; rw [if_neg b1]; (repeat' split) <;> omega)
    case h10 =>
      first
        | (refine hG _ ?_; unfold psD sgP; rw [if_pos b1]; (repeat' split) <;> omega)
        | (refine hG _ ?_; unfold psD sgP; rw [if_neg b1]; (repeat' split) <;> omega)
    case h11 =>
      first
        | (refine hG _ ?_; unfold psD sgP; rw [if_pos b1]; (repeat' split) <;> omega)
        | (refine hG _ ?_; unfold psD sgP; rw [if_neg b1]; (repeat' split) <;> omega)
    case h12 =>
      first
        | (refine hG _ ?_; unfold psD sgP; rw [if_pos b1]; (repeat' split) <;> omega)
        | (refine hG _ ?_; unfold psD sgP; rw [if_neg b1]; (repeat' split) <;> omega)
    case h13 =>
      exact cm (by walk_at "bd") (by walk_at "bd") (by decide)
    case h14 =>
      exact cm (by walk_at "bd") (by walk_at "bd") (by decide)
    case h15 =>
      exact cm (by walk_at "bd") (by walk_at "bd") (by decide)
    case h16 =>
      first
        | (refine hG _ ?_; unfold psD sgP; rw [if_pos b1]; (repeat' split) <;> omega)
        | (refine hG _ ?_; unfold psD sgP; rw [if_neg b1]; (repeat' split) <;> omega)
    case h17 =>
      first
        | (refine hG _ ?_; unfold psD sgP; rw [if_pos b1]; (repeat' split) <;> omega)
        | (refine hG _ ?_; unfold psD sgP; rw [if_neg b1]; (repeat' split) <;> omega)
    case h18 =>
      first
        | (refine hG _ ?_; unfold psD sgP; rw [if_pos b1]; (repeat' split) <;> omega)
        | (refine hG _ ?_; unfold psD sgP; rw [if_neg b1]; (repeat' split) <;> omega)
    case h19 =>
      first
        | (refine hG _ ?_; unfold psD sgP; rw [if_pos b1]; (repeat' split) <;> omega)
        | (refine hG _ ?_; unfold psD sgP; rw [if_neg b1]; (repeat' split) <;> omega)
    case h20 =>
      first
        | (refine hG _ ?_; unfold psD sgP; rw [if_pos b1]; (repeat' split) <;> omega)
        | (refine hG _ ?_; unfold psD sgP; rw [if_neg b1]; (repeat' split) <;> omega)
    case h21 =>
      exact cm (by walk_at "bd") (by walk_at "bd") (by decide)
    case h22 =>
      exact cm (by walk_at "bd") (by walk_at "bd") (by decide)
    case h23 =>
      exact cm (by walk_at "bd") (by walk_at "bd") (by decide)
    case h24 =>
      first
        | (refine hG _ ?_; unfold psD sgP; rw [if_pos b1]; (repeat' split) <;> omega)
        | (refine hG _ ?_; unfold psD sgP; rw [if_neg b1]; (repeat' split) <;> omega)
    case h25 =>
      first
        | (refine hG _ ?_; unfold psD sgP; rw [if_pos b1]; (repeat' split) <;> omega)
        | (refine hG _ ?_; unfold psD sgP; rw [if_neg b1]; (repeat' split) <;> omega)
    case h26 =>
      first
        | (refine hG _ ?_; unfold psD sgP; rw [if_pos b1]; (repeat' split) <;> omega)
        | (refine hG _ ?_; unfold psD sgP; rw [if_neg b1]; (repeat' split) <;> omega)
    case h27 =>
      first
        | (refine hG _ ?_; unfold psD sgP; rw [if_pos b1]; (repeat' split) <;> omega)
        | (refine hG _ ?_; unfold psD sgP; rw [if_neg b1]; (repeat' split) <;> omega)
    case h28 =>
      exact cm (by walk_at "bd") (by walk_at "bd") (by decide)
    case h29 =>
      exact cm (by walk_at "bd") (by walk_at "bd") (by decide)
    case h30 =>
      exact cm (by walk_at "bd") (by walk_at "bd") (by decide)
    case h31 =>
      first
        | (refine hG _ ?_; unfold psD sgP; rw [if_pos b1]; (repeat' split) <;> omega)
        | (refine hG _ ?_; unfold psD sgP; rw [if_neg b1]; (repeat' split) <;> omega)
    case h32 =>
      first
        | (refine hG _ ?_; unfold psD sgP; rw [if_pos b1]; (repeat' split) <;> omega)
        | (refine hG _ ?_; unfold psD sgP; rw [if_neg b1]; (repeat' split) <;> omega)
    case h33 =>
      first
        | (refine hG _ ?_; unfold psD sgP; rw [if_pos b1]; (repeat' split) <;> omega)
        | (refine hG _ ?_; unfold psD sgP; rw [if_neg b1]; (repeat' split) <;> omega)
    case h34 =>
      first
        | (refine hG _ ?_; unfold psD sgP; rw [if_pos b1]; (repeat' split) <;> omega)
        | (refine hG _ ?_; unfold psD sgP; rw [if_neg b1]; (repeat' split) <;> omega)
    case h35 =>
      first
        | (refine hG _ ?_; unfold psD sgP; rw [if_pos b1]; (repeat' split) <;> omega)
        | (refine hG _ ?_; unfold psD sgP; rw [if_neg b1]; (repeat' split) <;> omega)
    case h36 =>
      first
        | (refine hG _ ?_; unfold psD sgP; rw [if_pos b1]; (repeat' split) <;> omega)
        | (refine hG _ ?_; unfold psD sgP; rw [if_neg b1]; (repeat' split) <;> omega)
    case h37 =>
      first
        | (refine hG _ ?_; unfold psD sgP; rw [if_pos b1]; (repeat' split) <;> omega)
        | (refine hG _ ?_; unfold psD sgP; rw [if_neg b1]; (repeat' split) <;> omega)
    case h38 =>
      first
        | (refine hG _ ?_; unfold psD sgP; rw [if_pos b1]; (repeat' split) <;> omega)
        | (refine hG _ ?_; unfold psD sgP; rw [if_neg b1]; (repeat' split) <;> omega)
    case h39 =>
      exact cm (by walk_at "bd") (by walk_at "bd") (by decide)
    case h40 =>
      exact cm (by walk_at "bd") (by walk_at "bd") (by decide)
    case h41 =>
      exact cm (by walk_at "bd") (by walk_at "bd") (by decide)
    case h42 =>
      first
        | (refine hG _ ?_; unfold psD sgP; rw [if_pos b1]; (repeat' split) <;> omega)
        | (refine hG _ ?_; unfold psD sgP; rw [if_neg b1]; (repeat' split) <;> omega)
    case h43 =>
      first
        | (refine hG _ ?_; unfold psD sgP; rw [if_pos b1]; (repeat' split) <;> omega)
        | (refine hG _ ?_; unfold psD sgP; rw [if_neg b1]; (repeat' split) <;> omega)
    case h44 =>
      first
        | (refine hG _ ?_; unfold psD sgP; rw [if_pos b1]; (repeat' split) <;> omega)
        | (refine hG _ ?_; unfold psD sgP; rw [if_neg b1]; (repeat' split) <;> omega)
    case h45 =>
      first
        | (refine hG _ ?_; unfold psD sgP; rw [if_pos b1]; (repeat' split) <;> omega)
        | (refine hG _ ?_; unfold psD sgP; rw [if_neg b1]; (repeat' split) <;> omega)
    case h46 =>
      exact cm (by walk_at "bd") (by walk_at "bd") (by decide)
    case h47 =>
      exact cm (by walk_at "bd") (by walk_at "bd") (by decide)
    case h48 =>
      exact cm (by walk_at "bd") (by walk_at "bd") (by decide)
    case h49 =>
      first
        | (refine hG _ ?_; unfold psD sgP; rw [if_pos b1]; (repeat' split) <;> omega)
        | (refine hG _ ?_; unfold psD sgP; rw [if_neg b1]; (repeat' split) <;> omega)
    case h50 =>
      first
        | (refine hG _ ?_; unfold psD sgP; rw [if_pos b1]; (repeat' split) <;> omega)
        | (refine hG _ ?_; unfold psD sgP; rw [if_neg b1]; (repeat' split) <;> omega)
    case h51 =>
      first
        | (refine hG _ ?_; unfold psD sgP; rw [if_pos b1]; (repeat' split) <;> omega)
        | (refine hG _ ?_; unfold psD sgP; rw [if_neg b1]; (repeat' split) <;> omega)
    case h52 =>
      first
        | (refine hG _ ?_; unfold psD sgP; rw [if_pos b1]; (repeat' split) <;> omega)
        | (refine hG _ ?_; unfold psD sgP; rw [if_neg b1]; (repeat' split) <;> omega)
    case h53 =>
      first
        | (refine hG _ ?_; unfold psD sgP; rw [if_pos b1]; (repeat' split) <;> omega)
        | (refine hG _ ?_; unfold psD sgP; rw [if_neg b1]; (repeat' split) <;> omega)
    case h54 =>
      exact cm (by walk_at "bd") (by walk_at "bd") (by decide)
    case h55 =>
      exact cm (by walk_at "bd") (by walk_at "bd") (by decide)
    case h56 =>
      exact cm (by walk_at "bd") (by walk_at "bd") (by decide)
    case h57 =>
      first
        | (refine hG _ ?_; unfold psD sgP; rw [if_pos b1]; (repeat' split) <;> omega)
        | (refine hG _ ?_; unfold psD sgP; rw [if_neg b1]; (repeat' split) <;> omega)
    case h58 =>
      first
        | (refine hG _ ?_; unfold psD sgP; rw [if_pos b1]; (repeat' split) <;> omega)
        | (refine hG _ ?_; unfold psD sgP; rw [if_neg b1]; (repeat' split) <;> omega)
    case h59 =>
      first
        | (refine hG _ ?_; unfold psD sgP; rw [if_pos b1]; (repeat' split) <;> omega)
        | (refine hG _ ?_; unfold psD sgP; rw [if_neg b1]; (repeat' split) <;> omega)
    case h60 =>
      first
        | (refine hG _ ?_; unfold psD sgP; rw [if_pos b1]; (repeat' split) <;> omega)
        | (refine hG _ ?_; unfold psD sgP; rw [if_neg b1]; (repeat' split) <;> omega)
    case h61 =>
      exact cm (by walk_at "bd") (by walk_at "bd") (by decide)
    case h62 =>
      exact cm (by walk_at "bd") (by walk_at "bd") (by decide)
    case h63 =>
      exact cm (by walk_at "bd") (by walk_at "bd") (by decide)
    case h64 =>
      first
        | (refine hG _ ?_; unfold psD sgP; rw [if_pos b1]; (repeat' split) <;> omega)
        | (refine hG _ ?_; unfold psD sgP; rw [if_neg b1]; (repeat' split) <;> omega)
    case h65 =>
      first
        | (refine hG _ ?_; unfold psD sgP; rw [if_pos b1]; (repeat' split) <;> omega)
        | (refine hG _ ?_; unfold psD sgP; rw [if_neg b1]; (repeat' split) <;> omega)
    case h66 =>
      first
        | (refine hG _ ?_; unfold psD sgP; rw [if_pos b1]; (repeat' split) <;> omega)
        | (refine hG _ ?_; unfold psD sgP; rw [if_neg b1]; (repeat' split) <;> omega)
    case h67 =>
      first
        | (refine hG _ ?_; unfold psD sgP; rw [if_pos b1]; (repeat' split) <;> omega)
        | (refine hG _ ?_; unfold psD sgP; rw [if_neg b1]; (repeat' split) <;> omega)

/-! ### whole_floor -/
abbrev s_whole_floor : Stmt := topS 16
theorem sc_whole_floor : FnScope ["kind", "a", "b", "n", "root"] ["kind", "a", "b", "n"] (defScope s_whole_floor) := ⟨rfl, rfl, rfl, by decide +kernel, rfl, by decide +kernel, by decide +kernel⟩
def F_whole_floor : FP := fun ds Q => ∃ k a b n, ds = [.int k, .int a, .int b, .int n] ∧ (Kd k ∧ Bd 4000 a ∧ Bd 4000 b ∧ Bd 4000 n ∧ 0 < n) ∧ ∀ s, s = flQ k a b n (rtI (k * b * b)) → Q (.int s)
theorem ok_whole_floor {f : Addr} {fd : FuncData} (Fn : Fun K "whole_floor" "whole_floor" s_whole_floor f fd) (m_isqrt : mg "isqrt" = some (.builtin "math.isqrt")) : FnOk P w K mg base CX0 1 f fd ["kind", "a", "b", "n"] (spP K F_whole_floor) := by
  refine fn_P Fn sc_whole_floor (fun ds G h => ?_) (fun cdv A outer s H Q E ds G hr hF hQ => ?_)
  · obtain ⟨k, a, b, n, rfl, ⟨hk, ha, hb, hn, h0⟩, hG⟩ := h
    rfl
  · obtain ⟨k, a, b, n, rfl, ⟨hk, ha, hb, hn, h0⟩, hG⟩ := hF
    have hkb := hk.bd
    refine (as_ifn (t_eqI (nm 0 rfl (c_int (And.intro (fun b1 => (as_par (i := 1) (j := 3) ?h1 rfl (ca_cons (c_add (c_mulS (c_int (nm 1 rfl (And.intro (.inl (And.intro (by decide) (by decide))) (nm 2 rfl (ca_cons (c_mulS (c_int (nm 3 rfl (And.intro (.inl (And.intro (by decide) (by decide))) (ca_nil ⟨_, _, rfl, (as_go (as_asg (i := 4) ?h2 (c_isq m_isqrt (ca_cons (c_mul (c_mul (nm 0 rfl (nm 2 rfl (And.intro ?h3 (nm 2 rfl (And.intro ?h4 (ca_nil (And.intro ?h5 (as_ifn (t_lt (nm 2 rfl (c_int (And.intro (fun b2 => (as_asg (i := 4) ?h6 (c_sub (c_neg (nm 4 rfl (c_int (as_go (as_ret hQ (c_fdiv (c_add (nm 1 rfl (nm 4 rfl (nm 3 rfl (And.intro ?h7 (And.intro rfl ?h8))))))))))))))) (fun b2 => (as_ret hQ (c_fdiv (c_add (nm 1 rfl (nm 4 rfl (nm 3 rfl (And.intro ?h9 (And.intro rfl ?h10)))))))))))))))))))))))))))⟩))))))))))))))) (fun b1 => (as_asg (i := 4) ?h11 (c_isq m_isqrt (ca_cons (c_mul (c_mul (nm 0 rfl (nm 2 rfl (And.intro ?h12 (nm 2 rfl (And.intro ?h13 (ca_nil (And.intro ?h14 (as_ifn (t_lt (nm 2 rfl (c_int (And.intro (fun b3 => (as_asg (i := 4) ?h15 (c_sub (c_neg (nm 4 rfl (c_int (as_go (as_ret hQ (c_fdiv (c_add (nm 1 rfl (nm 4 rfl (nm 3 rfl (And.intro ?h16 (And.intro rfl ?h17))))))))))))))) (fun b3 => (as_ret hQ (c_fdiv (c_add (nm 1 rfl (nm 4 rfl (nm 3 rfl (And.intro ?h18 (And.intro rfl ?h19))))))))))))))))))))))))))))))))
    case h1 =>
      exact sc_whole_floor.nd
    case h2 =>
      exact sc_whole_floor.nd
    case h3 =>
      exact cm (by walk_at "bd") (by walk_at "bd") (by decide)
    case h4 =>
      exact cm (by walk_at "bd") (by walk_at "bd") (by decide)
    case h5 =>
      exact ⟨sq_nn hk, Bd.mono (by walk_at "bd") (by decide)⟩
    case h6 =>
      exact sc_whole_floor.nd
    case h7 =>
      exact cdw (by omega) (by walk_at "bd") (by decide)
    case h8 =>
      first
        | (refine hG _ ?_; unfold flQ flA flN rtF; rw [if_pos b1, if_pos b1, if_pos b2])
        | (refine hG _ ?_; unfold flQ flA flN rtF; rw [if_pos b1, if_pos b1, if_neg b2])
        | (refine hG _ ?_; unfold flQ flA flN rtF; rw [if_neg b1, if_neg b1, if_pos (by assumption)])
        | (refine hG _ ?_; unfold flQ flA flN rtF; rw [if_neg b1, if_neg b1, if_neg (by assumption)])
    case h9 =>
      exact cdw (by omega) (by walk_at "bd") (by decide)
    case h10 =>
      first
        | (refine hG _ ?_; unfold flQ flA flN rtF; rw [if_pos b1, if_pos b1, if_pos b2])
        | (refine hG _ ?_; unfold flQ flA flN rtF; rw [if_pos b1, if_pos b1, if_neg b2])
        | (refine hG _ ?_; unfold flQ flA flN rtF; rw [if_neg b1, if_neg b1, if_pos (by assumption)])
        | (refine hG _ ?_; unfold flQ flA flN rtF; rw [if_neg b1, if_neg b1, if_neg (by assumption)])
    case h11 =>
      exact sc_whole_floor.nd
    case h12 =>
      exact cm (by walk_at "bd") (by walk_at "bd") (by decide)
    case h13 =>
      exact cm (by walk_at "bd") (by walk_at "bd") (by decide)
    case h14 =>
      exact ⟨sq_nn hk, Bd.mono (by walk_at "bd") (by decide)⟩
    case h15 =>
      exact sc_whole_floor.nd
    case h16 =>
      exact cdw (by omega) (by walk_at "bd") (by decide)
    case h17 =>
      first
        | (refine hG _ ?_; unfold flQ flA flN rtF; rw [if_pos b1, if_pos b1, if_pos b2])
        | (refine hG _ ?_; unfold flQ flA flN rtF; rw [if_pos b1, if_pos b1, if_neg b2])
        | (refine hG _ ?_; unfold flQ flA flN rtF; rw [if_neg b1, if_neg b1, if_pos (by assumption)])
        | (refine hG _ ?_; unfold flQ flA flN rtF; rw [if_neg b1, if_neg b1, if_neg (by assumption)])
    case h18 =>
      exact cdw (by omega) (by walk_at "bd") (by decide)
    case h19 =>
      first
        | (refine hG _ ?_; unfold flQ flA flN rtF; rw [if_pos b1, if_pos b1, if_pos b2])
        | (refine hG _ ?_; unfold flQ flA flN rtF; rw [if_pos b1, if_pos b1, if_neg b2])
        | (refine hG _ ?_; unfold flQ flA flN rtF; rw [if_neg b1, if_neg b1, if_pos (by assumption)])
        | (refine hG _ ?_; unfold flQ flA flN rtF; rw [if_neg b1, if_neg b1, if_neg (by assumption)])

/-- the floor and the ceiling of (a + b*w) / n -/
def flI (k a b n : Int) : Int := flQ k a b n (rtI (k * b * b))
def ceI (k a b n : Int) : Int := -(flI k (-a) (-b) n)
/-! ### whole_ceiling -/
abbrev s_whole_ceiling : Stmt := topS 17
theorem sc_whole_ceiling : FnScope ["kind", "a", "b", "n"] ["kind", "a", "b", "n"] (defScope s_whole_ceiling) := ⟨rfl, rfl, rfl, by decide +kernel, rfl, by decide +kernel, by decide +kernel⟩
def F_whole_ceiling : FP := fun ds Q => ∃ k a b n, ds = [.int k, .int a, .int b, .int n] ∧ (Kd k ∧ Bd 4000 a ∧ Bd 4000 b ∧ Bd 4000 n ∧ 0 < n) ∧ Q (.int (ceI k a b n))
theorem ok_whole_ceiling {f : Addr} {fd : FuncData} (Fn : Fun K "whole_ceiling" "whole_ceiling" s_whole_ceiling f fd) (c_whole_floor : Cl P w K mg base 1 "whole_floor" ["kind", "a", "b", "n"] (spP K F_whole_floor)) : FnOk P w K mg base CX0 2 f fd ["kind", "a", "b", "n"] (spP K F_whole_ceiling) := by
  refine fn_P Fn sc_whole_ceiling (fun ds G h => ?_) (fun cdv A outer s H Q E ds G hr hF hQ => ?_)
  · obtain ⟨k, a, b, n, rfl, ⟨hk, ha, hb, hn, h0⟩, hG⟩ := h
    rfl
  · obtain ⟨k, a, b, n, rfl, ⟨hk, ha, hb, hn, h0⟩, hG⟩ := hF
    refine (as_ret hQ (c_neg (c_call c_whole_floor (hr.mono (by decide)) (ca_cons (nm 0 rfl (ca_cons (c_neg (nm 1 rfl (ca_cons (c_neg (nm 2 rfl (ca_cons (nm 3 rfl (ca_nil ⟨_, _, _, _, rfl, ?h1, fun wf1 hwf1 => And.intro rfl (And.intro rfl ?h2)⟩))))))))))))))
    case h1 =>
      exact ⟨hk, ha.neg, hb.neg, hn, h0⟩
    case h2 =>
      unfold ceI flI at hG
      rw [hwf1]
      exact hG

/-! ### number_less -/
abbrev s_number_less : Stmt := topS 18
theorem sc_number_less : FnScope ["p", "q", "a", "b", "n", "c", "d", "m"] ["p", "q"] (defScope s_number_less) := ⟨rfl, rfl, rfl, by decide +kernel, rfl, by decide +kernel, by decide +kernel⟩
def F_number_less : FP := fun ds Q => ∃ a b n c e q l, ds = [nD a b n, nD c e q] ∧ (Nb l a b n ∧ Nb l c e q ∧ l ≤ 1500) ∧ ∀ x y z, LO (a * q - c * n) (b * q - e * n) (n * q) x y z → Nb (2 * l + 1) x y z → Q (nD x y z)
theorem ok_number_less {f : Addr} {fd : FuncData} (Fn : Fun K "number_less" "number_less" s_number_less f fd) (c_lowest : Cl P w K mg base 1 "lowest" ["a", "b", "n"] (spP K F_lowest)) : FnOk P w K mg base CX0 2 f fd ["p", "q"] (spP K F_number_less) := by
  refine fn_P Fn sc_number_less (fun ds G h => ?_) (fun cdv A outer s H Q E ds G hr hF hQ => ?_)
  · obtain ⟨a, b, n, c, e, q, l, rfl, ⟨h1, h2, hl⟩, hG⟩ := h
    rfl
  · obtain ⟨a, b, n, c, e, q, l, rfl, ⟨h1, h2, hl⟩, hG⟩ := hF
    have ha := h1.a
    have hb := h1.b
    have hn := h1.n
    have hc := h2.a
    have he := h2.b
    have hq := h2.n
    have hnb : Nb (2 * l + 1) (a * q - c * n) (b * q - e * n) (n * q) := ⟨Int.mul_pos h1.p h2.p, ((ha.mul hq).sub (hc.mul hn)).mono (by omega), ((hb.mul hq).sub (he.mul hn)).mono (by omega), (hn.mul hq).mono (by omega)⟩
    have hk2 : ∀ {i j : Int}, Bd l i → Bd l j → CMulW i j := fun x y => cm x y (by omega)
    refine (as_unp3 (i := 2) (j := 3) (l := 4) ?h1 rfl (nm 0 rfl ⟨_, _, _, rfl, (as_unp3 (i := 5) (j := 6) (l := 7) ?h2 rfl (nm 1 rfl ⟨_, _, _, rfl, (as_ret hQ (c_call c_lowest (hr.mono (by decide)) (ca_cons (c_sub (c_mul (nm 2 rfl (nm 7 rfl (And.intro ?h3 (c_mul (nm 5 rfl (nm 4 rfl (And.intro ?h4 (ca_cons (c_sub (c_mul (nm 3 rfl (nm 7 rfl (And.intro ?h5 (c_mul (nm 6 rfl (nm 4 rfl (And.intro ?h6 (ca_cons (c_mul (nm 4 rfl (nm 7 rfl (And.intro ?h7 (ca_nil ⟨_, _, _, 2 * l + 1, rfl, ?h8, fun x1 y1 z1 lo1 nb1 => And.intro rfl (And.intro rfl ?h9)⟩))))))))))))))))))))))))))))⟩))⟩))
    case h1 =>
      exact sc_number_less.nd
    case h2 =>
      exact sc_number_less.nd
    case h3 =>
      exact hk2 (by assumption) (by assumption)
    case h4 =>
      exact hk2 (by assumption) (by assumption)
    case h5 =>
      exact hk2 (by assumption) (by assumption)
    case h6 =>
      exact hk2 (by assumption) (by assumption)
    case h7 =>
      exact hk2 (by assumption) (by assumption)
    case h8 =>
      exact ⟨hnb, by omega⟩
    case h9 =>
      exact hG _ _ _ lo1 nb1

/-! ### number_order -/
abbrev s_number_order : Stmt := topS 19
theorem sc_number_order : FnScope ["kind", "p", "q", "a", "b", "n", "c", "d", "m"] ["kind", "p", "q"] (defScope s_number_order) := ⟨rfl, rfl, rfl, by decide +kernel, rfl, by decide +kernel, by decide +kernel⟩
def F_number_order : FP := fun ds Q => ∃ k a b n c e q, ds = [.int k, nD a b n, nD c e q] ∧ (Kd k ∧ Nb 1900 a b n ∧ Nb 1900 c e q) ∧ ∀ s, s = psD k (a * q - c * n) (b * q - e * n) → Q (.int s)
theorem ok_number_order {f : Addr} {fd : FuncData} (Fn : Fun K "number_order" "number_order" s_number_order f fd) (c_whole_sign : Cl P w K mg base 1 "whole_sign" ["kind", "a", "b"] (spP K F_whole_sign)) : FnOk P w K mg base CX0 2 f fd ["kind", "p", "q"] (spP K F_number_order) := by
  refine fn_P Fn sc_number_order (fun ds G h => ?_) (fun cdv A outer s H Q E ds G hr hF hQ => ?_)
  · obtain ⟨k, a, b, n, c, e, q, rfl, ⟨hk, h1, h2⟩, hG⟩ := h
    rfl
  · obtain ⟨k, a, b, n, c, e, q, rfl, ⟨hk, h1, h2⟩, hG⟩ := hF
    have ha := h1.a
    have hb := h1.b
    have hn := h1.n
    have hc := h2.a
    have he := h2.b
    have hq := h2.n
    refine (as_unp3 (i := 3) (j := 4) (l := 5) ?h1 rfl (nm 1 rfl ⟨_, _, _, rfl, (as_unp3 (i := 6) (j := 7) (l := 8) ?h2 rfl (nm 2 rfl ⟨_, _, _, rfl, (as_ret hQ (c_call c_whole_sign (hr.mono (by decide)) (ca_cons (nm 0 rfl (ca_cons (c_sub (c_mul (nm 3 rfl (nm 8 rfl (And.intro ?h3 (c_mul (nm 6 rfl (nm 5 rfl (And.intro ?h4 (ca_cons (c_sub (c_mul (nm 4 rfl (nm 8 rfl (And.intro ?h5 (c_mul (nm 7 rfl (nm 5 rfl (And.intro ?h6 (ca_nil ⟨_, _, _, rfl, ?h7, fun ws1 hws1 => And.intro rfl (And.intro rfl ?h8)⟩)))))))))))))))))))))))))⟩))⟩))
    case h1 =>
      exact sc_number_order.nd
    case h2 =>
      exact sc_number_order.nd
    case h3 =>
      exact cm (by walk_at "bd") (by walk_at "bd") (by decide)
    case h4 =>
      exact cm (by walk_at "bd") (by walk_at "bd") (by decide)
    case h5 =>
      exact cm (by walk_at "bd") (by walk_at "bd") (by decide)
    case h6 =>
      exact cm (by walk_at "bd") (by walk_at "bd") (by decide)
    case h7 =>
      walk_at "b2"
    case h8 =>
      exact hG _ hws1

/-! ### is_number -/
abbrev s_is_number : Stmt := topS 22
theorem sc_is_number : FnScope ["told", "a", "b", "n"] ["told"] (defScope s_is_number) := ⟨rfl, rfl, rfl, by decide +kernel, rfl, by decide +kernel, by decide +kernel⟩
def F_is_number : FP := fun ds Q => ∃ a b n, ds = [nD a b n] ∧ Nm a b n ∧ Q (.bl true)
theorem ok_is_number {f : Addr} {fd : FuncData} (Fn : Fun K "is_number" "is_number" s_is_number f fd) (c_is_integer : Cl P w K mg base 1 "is_integer" ["told"] (spP K F_is_integer)) (m_isinstance : mg "isinstance" = none) (m_tuple : mg "tuple" = none) (m_len : mg "len" = none) (m_gcd : mg "gcd" = some (.builtin "math.gcd")) : FnOk P w K mg base CX0 2 f fd ["told"] (spP K F_is_number) := by
  refine fn_P Fn sc_is_number (fun ds G h => ?_) (fun cdv A outer s H Q E ds G hr hF hQ => ?_)
  · obtain ⟨a, b, n, rfl, hn, hG⟩ := h
    rfl
  · obtain ⟨a, b, n, rfl, hn, hG⟩ := hF
    refine (as_ifn (t_w (w_or (t_not (t_val (c_isi (U := "tuple") m_isinstance (ca_cons (nm 0 rfl (ca_cons (c_ty (T := "tuple") m_tuple (by decide +kernel) (ca_nil ⟨rfl, _, true, rfl, (by decide +kernel), (w_or1 (t_neI (c_lenT m_len (ca_cons (nm 0 rfl (ca_nil (c_int (And.intro (fun h => absurd rfl h) (fun _ => (as_unp3 (i := 1) (j := 2) (l := 3) ?h1 rfl (nm 0 rfl ⟨_, _, _, rfl, (as_ifn (t_not (t_w (w_and (t_val (c_call c_is_integer (hr.mono (by decide)) (ca_cons (nm 1 rfl (ca_nil ⟨_, rfl, And.intro rfl (w_and (t_val (c_call c_is_integer (hr.mono (by decide)) (ca_cons (nm 2 rfl (ca_nil ⟨_, rfl, And.intro rfl (w_and1 (t_val (c_call c_is_integer (hr.mono (by decide)) (ca_cons (nm 3 rfl (ca_nil ⟨_, rfl, And.intro rfl (as_ret hQ (c_andB (c_ge (nm 3 rfl (c_int (And.intro (fun b1 => (c_one (c_eqI (c_gcd3 m_gcd (ca_cons (nm 1 rfl (ca_cons (nm 2 rfl (ca_cons (nm 3 rfl (ca_nil (c_int (And.intro rfl ?h2))))))))))))) (fun b2 => (And.intro rfl ?h3))))))))⟩))))))⟩))))))⟩)))))))))⟩)))))))))))⟩)))))))))))
    case h1 =>
      exact sc_is_number.nd
    case h2 =>
      first
        | (rw [show decide ((((a.natAbs.gcd b.natAbs).gcd n.natAbs : Nat) : Int) = 1) = true from decide_eq_true hn.g]; exact hG)
        | (exact absurd (b2.symm.trans (decide_eq_true hn.pos)) Bool.false_ne_true)
        | (exact absurd (b1.symm.trans (decide_eq_true hn.pos)) Bool.false_ne_true)
    case h3 =>
      first
        | (rw [show decide ((((a.natAbs.gcd b.natAbs).gcd n.natAbs : Nat) : Int) = 1) = true from decide_eq_true hn.g]; exact hG)
        | (exact absurd (b2.symm.trans (decide_eq_true hn.pos)) Bool.false_ne_true)
        | (exact absurd (b1.symm.trans (decide_eq_true hn.pos)) Bool.false_ne_true)

/-! ### check_number -/
abbrev s_check_number : Stmt := topS 23
theorem sc_check_number : FnScope ["told"] ["told"] (defScope s_check_number) := ⟨rfl, rfl, rfl, by decide +kernel, rfl, by decide +kernel, by decide +kernel⟩
def F_check_number : FP := fun ds Q => ∃ a b n, ds = [nD a b n] ∧ Nm a b n ∧ Q .non
theorem ok_check_number {f : Addr} {fd : FuncData} (Fn : Fun K "check_number" "check_number" s_check_number f fd) (c_is_number : Cl P w K mg base 2 "is_number" ["told"] (spP K F_is_number)) : FnOk P w K mg base CX0 3 f fd ["told"] (spP K F_check_number) := by
  refine fn_P Fn sc_check_number (fun ds G h => ?_) (fun cdv A outer s H Q E ds G hr hF hQ => ?_)
  · obtain ⟨a, b, n, rfl, hn, hG⟩ := h
    rfl
  · obtain ⟨a, b, n, rfl, hn, hG⟩ := hF
    refine (as_ifn (t_not (t_val (c_call c_is_number (hr.mono (by decide)) (ca_cons (nm 0 rfl (ca_nil ⟨_, _, _, rfl, ?h1, And.intro rfl (as_nil fun _ H1 _ hk e0 _ => hQ .non _ .non H1 hG e0 hk .non)⟩)))))))
    case h1 =>
      assumption

end
end Y37

set_option Elab.async false
set_option linter.all false
set_option maxRecDepth 100000
set_option maxHeartbeats 8000000
namespace Y37
open PySem PySem.Spec PyProof.Rows L2 Evl Wz
open Y02 (Kd Nm psD sgP flQ flA flN rtF g3 sg sq_nn lsD)
open Y75 (Z2 mul mate add sub B2 LO mul_b mate_b B2.mono)
local macro_rules | `(tactic| walk_at "bd") => `(tactic| (repeat (first | assumption | apply Bd.mul | apply Bd.add | apply Bd.sub | apply Bd.neg | exact Bd.z | exact Bd.of _)))
local macro_rules | `(tactic| walk_at "bm") => `(tactic| (first | assumption | exact Bd.mono (by walk_at "bd") (by decide)))
local macro_rules | `(tactic| walk_at "b2") => `(tactic| (repeat (first | assumption | apply And.intro | walk_at "bm" | decide | omega)))
abbrev n2D (a b n c e q : Int) : Dat := .tup [nD a b n, nD c e q]
set_option exponentiation.threshold 1000000
section
variable {P : Program} {w : World} {K : PySem.W.Frag} {mg : Str → Option Value} {base : Heap}

/-! ### _above -/
abbrev s__above : Stmt := topS 28
theorem sc__above : FnScope ["kind", "p", "back", "a", "b", "n"] ["kind", "p", "back"] (defScope s__above) := ⟨rfl, rfl, rfl, by decide +kernel, rfl, by decide +kernel, by decide +kernel⟩
def F__above : FP := fun ds Q => ∃ k a b n q, ds = [.int k, nD a b n, pD q] ∧ (Kd k ∧ Nb 1500 a b n ∧ B2 1000 q) ∧ Q (.int (ceI k (a - q.1 * n) (b - q.2 * n) n))
theorem ok__above {f : Addr} {fd : FuncData} (Fn : Fun K "_above" "_above" s__above f fd) (c_whole_ceiling : Cl P w K mg base 2 "whole_ceiling" ["kind", "a", "b", "n"] (spP K F_whole_ceiling)) : FnOk P w K mg base CX0 3 f fd ["kind", "p", "back"] (spP K F__above) := by
  refine fn_P Fn sc__above (fun ds G h => ?_) (fun cdv A outer s H Q E ds G hr hF hQ => ?_)
  · obtain ⟨k, a, b, n, q, rfl, ⟨hk, hnb, hq⟩, hG⟩ := h
    rfl
  · obtain ⟨k, a, b, n, q, rfl, ⟨hk, hnb, hq⟩, hG⟩ := hF
    obtain ⟨hp, ha, hb, hn⟩ := hnb
    obtain ⟨hq1, hq2⟩ := hq
    refine (as_unp3 (i := 3) (j := 4) (l := 5) ?h1 rfl (nm 1 rfl ⟨_, _, _, rfl, (as_ret hQ (c_call c_whole_ceiling (hr.mono (by decide)) (ca_cons (nm 0 rfl (ca_cons (c_sub (nm 3 rfl (c_mul (c_ixTn (nm 2 rfl (c_int (And.intro (by decide) (nm 5 rfl (And.intro ?h2 (ca_cons (c_sub (nm 4 rfl (c_mul (c_ixTn (nm 2 rfl (c_int (And.intro (by decide) (nm 5 rfl (And.intro ?h3 (ca_cons (nm 5 rfl (ca_nil ⟨_, _, _, _, rfl, ?h4, And.intro rfl (And.intro rfl ?h5)⟩)))))))))))))))))))))))))))⟩))
    case h1 =>
      exact sc__above.nd
    case h2 =>
      exact cm (by walk_at "bd") (by walk_at "bd") (by decide)
    case h3 =>
      exact cm (by walk_at "bd") (by walk_at "bd") (by decide)
    case h4 =>
      exact ⟨hk, (ha.sub (hq1.mul hn)).mono (by decide), (hb.sub (hq2.mul hn)).mono (by decide), hn.mono (by decide), hp⟩
    case h5 =>
      exact hG

/-! ### _below -/
abbrev s__below : Stmt := topS 29
theorem sc__below : FnScope ["kind", "p", "back", "a", "b", "n"] ["kind", "p", "back"] (defScope s__below) := ⟨rfl, rfl, rfl, by decide +kernel, rfl, by decide +kernel, by decide +kernel⟩
def F__below : FP := fun ds Q => ∃ k a b n q, ds = [.int k, nD a b n, pD q] ∧ (Kd k ∧ Nb 1500 a b n ∧ B2 1000 q) ∧ Q (.int (flI k (a - q.1 * n) (b - q.2 * n) n))
theorem ok__below {f : Addr} {fd : FuncData} (Fn : Fun K "_below" "_below" s__below f fd) (c_whole_floor : Cl P w K mg base 1 "whole_floor" ["kind", "a", "b", "n"] (spP K F_whole_floor)) : FnOk P w K mg base CX0 2 f fd ["kind", "p", "back"] (spP K F__below) := by
  refine fn_P Fn sc__below (fun ds G h => ?_) (fun cdv A outer s H Q E ds G hr hF hQ => ?_)
  · obtain ⟨k, a, b, n, q, rfl, ⟨hk, hnb, hq⟩, hG⟩ := h
    rfl
  · obtain ⟨k, a, b, n, q, rfl, ⟨hk, hnb, hq⟩, hG⟩ := hF
    obtain ⟨hp, ha, hb, hn⟩ := hnb
    obtain ⟨hq1, hq2⟩ := hq
    refine (as_unp3 (i := 3) (j := 4) (l := 5) ?h1 rfl (nm 1 rfl ⟨_, _, _, rfl, (as_ret hQ (c_call c_whole_floor (hr.mono (by decide)) (ca_cons (nm 0 rfl (ca_cons (c_sub (nm 3 rfl (c_mul (c_ixTn (nm 2 rfl (c_int (And.intro (by decide) (nm 5 rfl (And.intro ?h2 (ca_cons (c_sub (nm 4 rfl (c_mul (c_ixTn (nm 2 rfl (c_int (And.intro (by decide) (nm 5 rfl (And.intro ?h3 (ca_cons (nm 5 rfl (ca_nil ⟨_, _, _, _, rfl, ?h4, fun wf1 hwf1 => And.intro rfl (And.intro rfl ?h5)⟩)))))))))))))))))))))))))))⟩))
    case h1 =>
      exact sc__below.nd
    case h2 =>
      exact cm (by walk_at "bd") (by walk_at "bd") (by decide)
    case h3 =>
      exact cm (by walk_at "bd") (by walk_at "bd") (by decide)
    case h4 =>
      exact ⟨hk, (ha.sub (hq1.mul hn)).mono (by decide), (hb.sub (hq2.mul hn)).mono (by decide), hn.mono (by decide), hp⟩
    case h5 =>
      unfold flI at hG
      rw [hwf1]
      exact hG

/-- what _by_mate sorts by -/
def mtI (k : Int) (q : Z2) : Int := flI k ((mate k q).1 * 2 ^ (96 : Int).toNat) ((mate k q).2 * 2 ^ (96 : Int).toNat) 1
/-! ### _by_mate -/
abbrev s__by_mate : Stmt := topS 30
theorem sc__by_mate : FnScope ["kind", "pair", "a", "b"] ["kind", "pair"] (defScope s__by_mate) := ⟨rfl, rfl, rfl, by decide +kernel, rfl, by decide +kernel, by decide +kernel⟩
def F__by_mate : FP := fun ds Q => ∃ k q, ds = [.int k, pD q] ∧ (Kd k ∧ B2 1000 q) ∧ Q (n3D (mtI k q, q.1, q.2))
theorem ok__by_mate {f : Addr} {fd : FuncData} (Fn : Fun K "_by_mate" "_by_mate" s__by_mate f fd) (c_pair_mate : Cl P w K mg base 1 "pair_mate" ["kind", "p"] (spP K F_pair_mate)) (c_whole_floor : Cl P w K mg base 1 "whole_floor" ["kind", "a", "b", "n"] (spP K F_whole_floor)) (t_FINE_windows : KI mg "FINE_windows" 96) : FnOk P w K mg base CX0 2 f fd ["kind", "pair"] (spP K F__by_mate) := by
  refine fn_P Fn sc__by_mate (fun ds G h => ?_) (fun cdv A outer s H Q E ds G hr hF hQ => ?_)
  · obtain ⟨k, q, rfl, ⟨hk, hq⟩, hG⟩ := h
    rfl
  · obtain ⟨k, q, rfl, ⟨hk, hq⟩, hG⟩ := hF
    obtain ⟨hm1, hm2⟩ := mate_b (k := k) hq
    have h96 : Bd 97 ((2 : Int) ^ (96 : Int).toNat) := by
      show Int.natAbs _ < 2 ^ 97
      decide
    refine (as_unp2 (i := 2) (j := 3) ?h1 rfl (c_call c_pair_mate (hr.mono (by decide)) (ca_cons (nm 0 rfl (ca_cons (nm 1 rfl (ca_nil ⟨_, q, rfl, And.intro rfl ⟨_, _, rfl, (as_ret hQ (c_tup (ca_cons (c_call c_whole_floor (hr.mono (by decide)) (ca_cons (nm 0 rfl (ca_cons (c_shl (nm 2 rfl (c_ki t_FINE_windows (And.intro ?h2 (ca_cons (c_shl (nm 3 rfl (c_ki t_FINE_windows (And.intro ?h3 (ca_cons (c_int (ca_nil ⟨_, _, _, _, rfl, ?h4, fun wf1 hwf1 => And.intro rfl (ca_cons (nm 1 rfl (ca_nil (And.intro (And.intro rfl (Nat.le_of_ble_eq_true rfl)) (And.intro rfl ?h5)))))⟩)))))))))))))))))))⟩⟩)))))))
    case h1 =>
      exact sc__by_mate.nd
    case h2 =>
      first | exact shl_ok hm1 (by decide) | exact shl_ok hm2 (by decide)
    case h3 =>
      first | exact shl_ok hm1 (by decide) | exact shl_ok hm2 (by decide)
    case h4 =>
      exact ⟨hk, (hm1.mul h96).mono (by decide), (hm2.mul h96).mono (by decide), (by show Int.natAbs 1 < 2 ^ 4000; decide), by decide⟩
    case h5 =>
      unfold mtI flI at hG
      rw [hwf1]
      exact hG

/-! ### number_times -/
abbrev s_number_times : Stmt := topS 33
theorem sc_number_times : FnScope ["kind", "p", "pair", "a", "b"] ["kind", "p", "pair"] (defScope s_number_times) := ⟨rfl, rfl, rfl, by decide +kernel, rfl, by decide +kernel, by decide +kernel⟩
def F_number_times : FP := fun ds Q => ∃ (k a b n : Int) (q : Z2) (l j : Nat), ds = [.int k, nD a b n, pD q] ∧ (Kd k ∧ Nb l a b n ∧ B2 j q ∧ l + j ≤ 1400) ∧ ∀ x y z, LO (mul k (a, b) q).1 (mul k (a, b) q).2 n x y z → Nb (l + j + 4) x y z → Q (nD x y z)
theorem ok_number_times {f : Addr} {fd : FuncData} (Fn : Fun K "number_times" "number_times" s_number_times f fd) (c_pair_times : Cl P w K mg base 1 "pair_times" ["kind", "p", "q"] (spP K F_pair_times)) (c_lowest : Cl P w K mg base 1 "lowest" ["a", "b", "n"] (spP K F_lowest)) : FnOk P w K mg base CX0 2 f fd ["kind", "p", "pair"] (spP K F_number_times) := by
  refine fn_P Fn sc_number_times (fun ds G h => ?_) (fun cdv A outer s H Q E ds G hr hF hQ => ?_)
  · obtain ⟨k, a, b, n, q, l, j, rfl, ⟨hk, hnb, hq, hlj⟩, hG⟩ := h
    rfl
  · obtain ⟨k, a, b, n, q, l, j, rfl, ⟨hk, hnb, hq, hlj⟩, hG⟩ := hF
    have hp : B2 l (a, b) := ⟨hnb.a, hnb.b⟩
    obtain ⟨t1, t2⟩ := mul_b hk hp hq
    have hnb2 : Nb (l + j + 4) (mul k (a, b) q).1 (mul k (a, b) q).2 n := ⟨hnb.p, t1, t2, hnb.n.mono (by omega)⟩
    refine (as_unp2 (i := 3) (j := 4) ?h1 rfl (c_call c_pair_times (hr.mono (by decide)) (ca_cons (nm 0 rfl (ca_cons (c_cutT (nm 1 rfl (o_none (o_some (c_int (ca_cons (nm 2 rfl (ca_nil ⟨_, (a, b), q, rfl, ⟨hk, hp.mono (by omega), hq.mono (by omega)⟩, And.intro rfl ⟨_, _, rfl, (as_ret hQ (c_call c_lowest (hr.mono (by decide)) (ca_cons (nm 3 rfl (ca_cons (nm 4 rfl (ca_cons (c_ixTn (nm 1 rfl (c_int (And.intro (by decide) (ca_nil ⟨_, _, _, l + j + 4, rfl, ?h2, fun x1 y1 z1 lo1 nb1 => And.intro rfl (And.intro rfl ?h3)⟩))))))))))))⟩⟩)))))))))))))
    case h1 =>
      exact sc_number_times.nd
    case h2 =>
      exact ⟨hnb2, by omega⟩
    case h3 =>
      exact hG _ _ _ lo1 nb1

/-! ### stretch_times -/
abbrev s_stretch_times : Stmt := topS 34
theorem sc_stretch_times : FnScope ["kind", "stretch", "pair"] ["kind", "stretch", "pair"] (defScope s_stretch_times) := ⟨rfl, rfl, rfl, by decide +kernel, rfl, by decide +kernel, by decide +kernel⟩
def F_stretch_times : FP := fun ds Q => ∃ (k a b n c e u : Int) (q : Z2) (l j : Nat), ds = [.int k, n2D a b n c e u, pD q] ∧ (Kd k ∧ Nb l a b n ∧ Nb l c e u ∧ B2 j q ∧ l + j ≤ 1400) ∧ ∀ x y z x2 y2 z2, LO (mul k (a, b) q).1 (mul k (a, b) q).2 n x y z → Nb (l + j + 4) x y z → LO (mul k (c, e) q).1 (mul k (c, e) q).2 u x2 y2 z2 → Nb (l + j + 4) x2 y2 z2 → Q (n2D x y z x2 y2 z2)
theorem ok_stretch_times {f : Addr} {fd : FuncData} (Fn : Fun K "stretch_times" "stretch_times" s_stretch_times f fd) (c_number_times : Cl P w K mg base 2 "number_times" ["kind", "p", "pair"] (spP K F_number_times)) : FnOk P w K mg base CX0 3 f fd ["kind", "stretch", "pair"] (spP K F_stretch_times) := by
  refine fn_P Fn sc_stretch_times (fun ds G h => ?_) (fun cdv A outer s H Q E ds G hr hF hQ => ?_)
  · obtain ⟨k, a, b, n, c, e, u, q, l, j, rfl, ⟨hk, h1, h2, hq, hlj⟩, hG⟩ := h
    rfl
  · obtain ⟨k, a, b, n, c, e, u, q, l, j, rfl, ⟨hk, h1, h2, hq, hlj⟩, hG⟩ := hF
    refine (as_ret hQ (c_tup (ca_cons (c_call c_number_times (hr.mono (by decide)) (ca_cons (nm 0 rfl (ca_cons (c_ixTn (nm 1 rfl (c_int (And.intro (by decide) (ca_cons (nm 2 rfl (ca_nil ⟨_, _, _, _, (_, _), l, j, rfl, ?h1, fun tx1 ty1 tz1 tl1 tn1 => And.intro rfl (ca_cons (c_call c_number_times (hr.mono (by decide)) (ca_cons (nm 0 rfl (ca_cons (c_ixTn (nm 1 rfl (c_int (And.intro (by decide) (ca_cons (nm 2 rfl (ca_nil ⟨_, _, _, _, (_, _), l, j, rfl, ?h2, fun tx2 ty2 tz2 tl2 tn2 => And.intro rfl (ca_nil (And.intro (And.intro rfl (Nat.le_of_ble_eq_true rfl)) (And.intro rfl ?h3)))⟩))))))))))))⟩))))))))))))))
    case h1 =>
      first | exact ⟨hk, h1, hq, hlj⟩ | exact ⟨hk, h2, hq, hlj⟩
    case h2 =>
      first | exact ⟨hk, h1, hq, hlj⟩ | exact ⟨hk, h2, hq, hlj⟩
    case h3 =>
      exact hG _ _ _ _ _ _ tl1 tn1 tl2 tn2

/-! ### length_of -/
abbrev s_length_of : Stmt := topS 35
theorem sc_length_of : FnScope ["stretch"] ["stretch"] (defScope s_length_of) := ⟨rfl, rfl, rfl, by decide +kernel, rfl, by decide +kernel, by decide +kernel⟩
def F_length_of : FP := fun ds Q => ∃ a b n c e u l, ds = [n2D a b n c e u] ∧ (Nb l a b n ∧ Nb l c e u ∧ l ≤ 1500) ∧ ∀ x y z, LO (c * n - a * u) (e * n - b * u) (u * n) x y z → Nb (2 * l + 1) x y z → Q (nD x y z)
theorem ok_length_of {f : Addr} {fd : FuncData} (Fn : Fun K "length_of" "length_of" s_length_of f fd) (c_number_less : Cl P w K mg base 2 "number_less" ["p", "q"] (spP K F_number_less)) : FnOk P w K mg base CX0 3 f fd ["stretch"] (spP K F_length_of) := by
  refine fn_P Fn sc_length_of (fun ds G h => ?_) (fun cdv A outer s H Q E ds G hr hF hQ => ?_)
  · obtain ⟨a, b, n, c, e, u, l, rfl, ⟨h1, h2, hl⟩, hG⟩ := h
    rfl
  · obtain ⟨a, b, n, c, e, u, l, rfl, ⟨h1, h2, hl⟩, hG⟩ := hF
    refine (as_ret hQ (c_call c_number_less (hr.mono (by decide)) (ca_cons (c_ixTn (nm 0 rfl (c_int (And.intro (by decide) (ca_cons (c_ixTn (nm 0 rfl (c_int (And.intro (by decide) (ca_nil ⟨_, _, _, _, _, _, l, rfl, ?h1, fun lx1 ly1 lz1 ll1 ln1 => And.intro rfl (And.intro rfl ?h2)⟩)))))))))))))
    case h1 =>
      exact ⟨h2, h1, hl⟩
    case h2 =>
      exact hG _ _ _ ll1 ln1

/-! ### mate_number -/
abbrev s_mate_number : Stmt := topS 38
theorem sc_mate_number : FnScope ["kind", "pair", "a", "b"] ["kind", "pair"] (defScope s_mate_number) := ⟨rfl, rfl, rfl, by decide +kernel, rfl, by decide +kernel, by decide +kernel⟩
def F_mate_number : FP := fun ds Q => ∃ k q, ds = [.int k, pD q] ∧ Q (nD (mate k q).1 (mate k q).2 1)
theorem ok_mate_number {f : Addr} {fd : FuncData} (Fn : Fun K "mate_number" "mate_number" s_mate_number f fd) (c_pair_mate : Cl P w K mg base 1 "pair_mate" ["kind", "p"] (spP K F_pair_mate)) : FnOk P w K mg base CX0 2 f fd ["kind", "pair"] (spP K F_mate_number) := by
  refine fn_P Fn sc_mate_number (fun ds G h => ?_) (fun cdv A outer s H Q E ds G hr hF hQ => ?_)
  · obtain ⟨k, q, rfl, hG⟩ := h
    rfl
  · obtain ⟨k, q, rfl, hG⟩ := hF
    refine (as_unp2 (i := 2) (j := 3) ?h1 rfl (c_call c_pair_mate (hr.mono (by decide)) (ca_cons (nm 0 rfl (ca_cons (nm 1 rfl (ca_nil ⟨_, q, rfl, And.intro rfl ⟨_, _, rfl, (as_ret hQ (c_tup (ca_cons (nm 2 rfl (ca_cons (nm 3 rfl (ca_cons (c_int (ca_nil (And.intro (And.intro rfl (Nat.le_of_ble_eq_true rfl)) (And.intro rfl ?h2)))))))))))⟩⟩)))))))
    case h1 =>
      exact sc_mate_number.nd
    case h2 =>
      exact hG

/-- low at most the mate, which is less than high -/
def inS (k : Int) (q : Z2) (a b n c e u : Int) : Prop := psD k (a * 1 - (mate k q).1 * n) (b * 1 - (mate k q).2 * n) ≤ 0 ∧ psD k ((mate k q).1 * u - c * 1) ((mate k q).2 * u - e * 1) < 0
instance {k : Int} {q : Z2} {a b n c e u : Int} : Decidable (inS k q a b n c e u) := by unfold inS; exact inferInstance
/-! ### is_mate_in -/
abbrev s_is_mate_in : Stmt := topS 39
theorem sc_is_mate_in : FnScope ["kind", "pair", "stretch", "told"] ["kind", "pair", "stretch"] (defScope s_is_mate_in) := ⟨rfl, rfl, rfl, by decide +kernel, rfl, by decide +kernel, by decide +kernel⟩
def F_is_mate_in : FP := fun ds Q => ∃ k q a b n c e u, ds = [.int k, pD q, n2D a b n c e u] ∧ (Kd k ∧ B2 1000 q ∧ Nb 1500 a b n ∧ Nb 1500 c e u) ∧ Q (.bl (decide (inS k q a b n c e u)))
theorem ok_is_mate_in {f : Addr} {fd : FuncData} (Fn : Fun K "is_mate_in" "is_mate_in" s_is_mate_in f fd) (c_mate_number : Cl P w K mg base 2 "mate_number" ["kind", "pair"] (spP K F_mate_number)) (c_number_order : Cl P w K mg base 2 "number_order" ["kind", "p", "q"] (spP K F_number_order)) : FnOk P w K mg base CX0 3 f fd ["kind", "pair", "stretch"] (spP K F_is_mate_in) := by
  refine fn_P Fn sc_is_mate_in (fun ds G h => ?_) (fun cdv A outer s H Q E ds G hr hF hQ => ?_)
  · obtain ⟨k, q, a, b, n, c, e, u, rfl, ⟨hk, hq, h1, h2⟩, hG⟩ := h
    rfl
  · obtain ⟨k, q, a, b, n, c, e, u, rfl, ⟨hk, hq, h1, h2⟩, hG⟩ := hF
    obtain ⟨hm1, hm2⟩ := mate_b (k := k) hq
    have hmn : Nb 1900 (mate k q).1 (mate k q).2 1 := ⟨by decide, hm1.mono (by decide), hm2.mono (by decide), by show Int.natAbs 1 < 2 ^ 1900; decide⟩
    refine (as_asg (i := 3) ?h1 (c_call c_mate_number (hr.mono (by decide)) (ca_cons (nm 0 rfl (ca_cons (nm 1 rfl (ca_nil ⟨_, q, rfl, And.intro rfl (as_ret hQ (c_andB (c_le (c_call c_number_order (hr.mono (by decide)) (ca_cons (nm 0 rfl (ca_cons (c_ixTn (nm 2 rfl (c_int (And.intro (by decide) (ca_cons (nm 3 rfl (ca_nil ⟨_, _, _, _, _, _, _, rfl, ?h2, fun no1 hno1 => And.intro rfl (c_int (And.intro (fun b1 => (c_one (c_lt (c_call c_number_order (hr.mono (by decide)) (ca_cons (nm 0 rfl (ca_cons (nm 3 rfl (ca_cons (c_ixTn (nm 2 rfl (c_int (And.intro (by decide) (ca_nil ⟨_, _, _, _, _, _, _, rfl, ?h3, fun no2 hno2 => And.intro rfl (c_int (And.intro rfl ?h4))⟩)))))))))))))) (fun b2 => (And.intro rfl ?h5))))⟩))))))))))))))⟩)))))))
    case h1 =>
      exact sc_is_mate_in.nd
    case h2 =>
      first | exact ⟨hk, h1.mono (by decide), hmn⟩ | exact ⟨hk, hmn, h2.mono (by decide)⟩
    case h3 =>
      first | exact ⟨hk, h1.mono (by decide), hmn⟩ | exact ⟨hk, hmn, h2.mono (by decide)⟩
    case h4 =>
      subst hno1
      first
        | (subst hno2
           rw [show decide (inS k q a b n c e u) = decide (psD k ((mate k q).1 * u - c * 1) ((mate k q).2 * u - e * 1) < 0) from decide_eq_decide.mpr ⟨fun z => z.2, fun z => ⟨of_decide_eq_true b1, z⟩⟩] at hG
           exact hG)
        | (rw [show decide (inS k q a b n c e u) = false from decide_eq_false (fun z => absurd (decide_eq_true z.1) (by rw [b2]; decide))] at hG
           exact hG)
    case h5 =>
      subst hno1
      first
        | (subst hno2
           rw [show decide (inS k q a b n c e u) = decide (psD k ((mate k q).1 * u - c * 1) ((mate k q).2 * u - e * 1) < 0) from decide_eq_decide.mpr ⟨fun z => z.2, fun z => ⟨of_decide_eq_true b1, z⟩⟩] at hG
           exact hG)
        | (rw [show decide (inS k q a b n c e u) = false from decide_eq_false (fun z => absurd (decide_eq_true z.1) (by rw [b2]; decide))] at hG
           exact hG)

/-- a row: low below high, both in lowest terms -/
structure Rw (k a b n c e u : Int) : Prop where
  kd : Kd k
  l : Nm a b n
  h : Nm c e u
  lb : Nb 1000 a b n
  hb : Nb 1000 c e u
  o : psD k (a * u - c * n) (b * u - e * n) < 0
abbrev rwD (k a b n c e u : Int) : Dat := .tup [.int k, nD a b n, nD c e u]
/-! ### is_row -/
abbrev s_is_row : Stmt := topS 41
theorem sc_is_row : FnScope ["told", "kind", "low", "high"] ["told"] (defScope s_is_row) := ⟨rfl, rfl, rfl, by decide +kernel, rfl, by decide +kernel, by decide +kernel⟩
def F_is_row : FP := fun ds Q => ∃ k a b n c e u, ds = [rwD k a b n c e u] ∧ Rw k a b n c e u ∧ Q (.bl true)
theorem ok_is_row {f : Addr} {fd : FuncData} (Fn : Fun K "is_row" "is_row" s_is_row f fd) (c_is_kind : Cl P w K mg base 2 "is_kind" ["told"] (spP K F_is_kind)) (c_is_number : Cl P w K mg base 2 "is_number" ["told"] (spP K F_is_number)) (c_number_order : Cl P w K mg base 2 "number_order" ["kind", "p", "q"] (spP K F_number_order)) (m_isinstance : mg "isinstance" = none) (m_tuple : mg "tuple" = none) (m_len : mg "len" = none) : FnOk P w K mg base CX0 3 f fd ["told"] (spP K F_is_row) := by
  refine fn_P Fn sc_is_row (fun ds G h => ?_) (fun cdv A outer s H Q E ds G hr hF hQ => ?_)
  · obtain ⟨k, a, b, n, c, e, u, rfl, hr0, hG⟩ := h
    rfl
  · obtain ⟨k, a, b, n, c, e, u, rfl, hr0, hG⟩ := hF
    refine (as_ifn (t_w (w_or (t_not (t_val (c_isi (U := "tuple") m_isinstance (ca_cons (nm 0 rfl (ca_cons (c_ty (T := "tuple") m_tuple (by decide +kernel) (ca_nil ⟨rfl, _, true, rfl, (by decide +kernel), (w_or1 (t_neI (c_lenT m_len (ca_cons (nm 0 rfl (ca_nil (c_int (And.intro (fun h => absurd rfl h) (fun _ => (as_unp3 (i := 1) (j := 2) (l := 3) ?h1 rfl (nm 0 rfl ⟨_, _, _, rfl, (as_ret hQ (c_and (c_call c_is_kind (hr.mono (by decide)) (ca_cons (nm 1 rfl (ca_nil ⟨_, rfl, ?h2, And.intro rfl (c_and (c_call c_is_number (hr.mono (by decide)) (ca_cons (nm 2 rfl (ca_nil ⟨_, _, _, rfl, ?h3, And.intro rfl (c_and (c_call c_is_number (hr.mono (by decide)) (ca_cons (nm 3 rfl (ca_nil ⟨_, _, _, rfl, ?h4, And.intro rfl (c_one (c_lt (c_call c_number_order (hr.mono (by decide)) (ca_cons (nm 1 rfl (ca_cons (nm 2 rfl (ca_cons (nm 3 rfl (ca_nil ⟨_, _, _, _, _, _, _, rfl, ?h5, fun no1 hno1 => And.intro rfl (c_int (And.intro rfl ?h6))⟩))))))))))⟩)))))⟩)))))⟩))))))⟩)))))))))))⟩)))))))))))
    case h1 =>
      exact sc_is_row.nd
    case h2 =>
      exact hr0.kd
    case h3 =>
      first | exact hr0.l | exact hr0.h
    case h4 =>
      first | exact hr0.l | exact hr0.h
    case h5 =>
      exact ⟨hr0.kd, hr0.lb.mono (by decide), hr0.hb.mono (by decide)⟩
    case h6 =>
      subst hno1
      rw [show decide (psD k (a * u - c * n) (b * u - e * n) < 0) = true from decide_eq_true hr0.o]
      exact hG

/-! ### check_row -/
abbrev s_check_row : Stmt := topS 42
theorem sc_check_row : FnScope ["told"] ["told"] (defScope s_check_row) := ⟨rfl, rfl, rfl, by decide +kernel, rfl, by decide +kernel, by decide +kernel⟩
def F_check_row : FP := fun ds Q => ∃ k a b n c e u, ds = [rwD k a b n c e u] ∧ Rw k a b n c e u ∧ Q .non
theorem ok_check_row {f : Addr} {fd : FuncData} (Fn : Fun K "check_row" "check_row" s_check_row f fd) (c_is_row : Cl P w K mg base 3 "is_row" ["told"] (spP K F_is_row)) : FnOk P w K mg base CX0 4 f fd ["told"] (spP K F_check_row) := by
  refine fn_P Fn sc_check_row (fun ds G h => ?_) (fun cdv A outer s H Q E ds G hr hF hQ => ?_)
  · obtain ⟨k, a, b, n, c, e, u, rfl, hr0, hG⟩ := h
    rfl
  · obtain ⟨k, a, b, n, c, e, u, rfl, hr0, hG⟩ := hF
    refine (as_ifn (t_not (t_val (c_call c_is_row (hr.mono (by decide)) (ca_cons (nm 0 rfl (ca_nil ⟨_, _, _, _, _, _, _, rfl, ?h1, And.intro rfl (as_nil fun _ H1 _ hk e0 _ => hQ .non _ .non H1 hG e0 hk .non)⟩)))))))
    case h1 =>
      assumption

/-! ### is_member -/
abbrev s_is_member : Stmt := topS 43
theorem sc_is_member : FnScope ["row", "member"] ["row", "member"] (defScope s_is_member) := ⟨rfl, rfl, rfl, by decide +kernel, rfl, by decide +kernel, by decide +kernel⟩
def F_is_member : FP := fun ds Q => ∃ k a b n c e u q, ds = [rwD k a b n c e u, pD q] ∧ (Rw k a b n c e u ∧ B2 1000 q) ∧ Q (.bl (decide (inS k q a b n c e u)))
theorem ok_is_member {f : Addr} {fd : FuncData} (Fn : Fun K "is_member" "is_member" s_is_member f fd) (c_check_row : Cl P w K mg base 4 "check_row" ["told"] (spP K F_check_row)) (c_is_whole : Cl P w K mg base 2 "is_whole" ["told"] (spP K F_is_whole)) (c_is_mate_in : Cl P w K mg base 3 "is_mate_in" ["kind", "pair", "stretch"] (spP K F_is_mate_in)) : FnOk P w K mg base CX0 5 f fd ["row", "member"] (spP K F_is_member) := by
  refine fn_P Fn sc_is_member (fun ds G h => ?_) (fun cdv A outer s H Q E ds G hr hF hQ => ?_)
  · obtain ⟨k, a, b, n, c, e, u, q, rfl, ⟨hr0, hq⟩, hG⟩ := h
    rfl
  · obtain ⟨k, a, b, n, c, e, u, q, rfl, ⟨hr0, hq⟩, hG⟩ := hF
    refine (as_drop (c_call c_check_row (hr.mono (by decide)) (ca_cons (nm 0 rfl (ca_nil ⟨_, _, _, _, _, _, _, rfl, ?h1, And.intro rfl (as_ret hQ (c_and (c_call c_is_whole (hr.mono (by decide)) (ca_cons (nm 1 rfl (ca_nil ⟨(_, _), rfl, And.intro rfl (c_one (c_call c_is_mate_in (hr.mono (by decide)) (ca_cons (c_ixTn (nm 0 rfl (c_int (And.intro (by decide) (ca_cons (nm 1 rfl (ca_cons (c_cutT (nm 0 rfl (o_some (c_int (o_none (ca_nil ⟨_, (_, _), _, _, _, _, _, _, rfl, ?h2, And.intro rfl (And.intro rfl ?h3)⟩))))))))))))))))⟩))))))⟩)))))
    case h1 =>
      assumption
    case h2 =>
      exact ⟨hr0.kd, hq, hr0.lb.mono (by decide), hr0.hb.mono (by decide)⟩
    case h3 =>
      exact hG

end
end Y37

set_option Elab.async false
set_option linter.all false
set_option maxRecDepth 100000
set_option maxHeartbeats 8000000
namespace Y37
open PySem PySem.Spec PyProof.Rows L2 Evl Wz
open Y02 (Kd Nm psD sgP flQ flA flN rtF g3 sg sq_nn lsD)
open Y75 (Z2 mul mate add sub B2 LO mul_b mate_b B2.mono)
local macro_rules | `(tactic| walk_at "bd") => `(tactic| (repeat (first | assumption | apply Bd.mul | apply Bd.add | apply Bd.sub | apply Bd.neg | exact Bd.z | exact Bd.of _)))
local macro_rules | `(tactic| walk_at "bm") => `(tactic| (first | assumption | exact Bd.mono (by walk_at "bd") (by decide)))
local macro_rules | `(tactic| walk_at "b2") => `(tactic| (repeat (first | assumption | apply And.intro | walk_at "bm" | decide | omega)))
def absI (a : Int) : Int := if a < 0 then -a else a
theorem absI_nn (a : Int) : 0 ≤ absI a := by unfold absI; split <;> omega
theorem absI_na (a : Int) : (absI a).natAbs = a.natAbs := by unfold absI; split <;> omega
theorem gcd_step {h e : Int} (h0 : 0 ≤ h) (he : 0 < e) : Nat.gcd e.natAbs (h % e).natAbs = Nat.gcd h.natAbs e.natAbs := by
  obtain ⟨x, rfl⟩ := Int.eq_ofNat_of_zero_le h0
  obtain ⟨y, rfl⟩ := Int.eq_ofNat_of_zero_le (Int.le_of_lt he)
  rw [← Int.natCast_emod, Int.natAbs_natCast, Int.natAbs_natCast, Int.natAbs_natCast, Nat.gcd_comm x y, Nat.gcd_rec y x, Nat.gcd_comm]
theorem wl {h e : Int} {m : Nat} (h1 : 0 ≤ e) (ne : ¬ e = 0) (hm : e.toNat ≤ m) : (h % e).toNat < m := by
  have := Int.emod_lt_of_pos h (show 0 < e by omega)
  have := Int.emod_nonneg h ne
  omega
def pX (k a b : Int) : Int := if k = 5 then 2 * a + b else a
def pM (k n : Int) : Int := if k = 5 then 2 * n else n
theorem root_is {z s : Int} (h0 : 0 ≤ s) (h1 : s * s ≤ z) (h2 : z < (s + 1) * (s + 1)) : s = rtI z := by
  have hz : 0 ≤ z := Int.le_trans (Int.mul_nonneg h0 h0) h1
  obtain ⟨g0, g1, g2⟩ := rtI_ok hz
  refine Int.le_antisymm (Int.not_lt.mp fun l => ?_) (Int.not_lt.mp fun l => ?_)
  · have := Int.mul_le_mul (show rtI z + 1 ≤ s by omega) (show rtI z + 1 ≤ s by omega) (by omega) h0
    omega
  · have := Int.mul_le_mul (show s + 1 ≤ rtI z by omega) (show s + 1 ≤ rtI z by omega) (by omega) g0
    omega
theorem root_top {z : Int} (h : 0 ≤ z) : z < (z + 1) * (z + 1) := by
  have e : (z + 1) * (z + 1) = z * z + 2 * z + 1 := by grind
  have := Int.mul_nonneg h h
  omega
theorem mid_b {z lo hi : Int} (h0 : 0 ≤ lo) (h1 : lo < hi) (h2 : hi ≤ z + 1) (hz : Bd 8000 z) : Bd 8002 ((lo + hi) / 2) := by
  have h3 : z.natAbs < 2 ^ 8000 := hz
  show ((lo + hi) / 2).natAbs < 2 ^ 8002
  have e : 2 ^ 8002 = 4 * 2 ^ 8000 := by rw [show 8002 = 2 + 8000 by rfl, Nat.pow_add]
  rw [e]
  generalize 2 ^ 8000 = M at *
  omega
set_option exponentiation.threshold 1000000
section
variable {P : Program} {w : World} {K : PySem.W.Frag} {mg : Str → Option Value} {base : Heap}

/-! ### _law_parts -/
abbrev s__law_parts : Stmt := topS 50
theorem sc__law_parts : FnScope ["kind", "p", "a", "b", "n"] ["kind", "p"] (defScope s__law_parts) := ⟨rfl, rfl, rfl, by decide +kernel, rfl, by decide +kernel, by decide +kernel⟩
def F__law_parts : FP := fun ds Q => ∃ k a b n, ds = [.int k, nD a b n] ∧ Kd k ∧ Q (.tup [.int (pX k a b), .int b, .int (pM k n), .int k])
theorem ok__law_parts {f : Addr} {fd : FuncData} (Fn : Fun K "_law_parts" "_law_parts" s__law_parts f fd)  : FnOk P w K mg base CX0 1 f fd ["kind", "p"] (spP K F__law_parts) := by
  refine fn_P Fn sc__law_parts (fun ds G h => ?_) (fun cdv A outer s H Q E ds G hr hF hQ => ?_)
  · obtain ⟨k, a, b, n, rfl, hk, hG⟩ := h
    rfl
  · obtain ⟨k, a, b, n, rfl, hk, hG⟩ := hF
    refine (as_unp3 (i := 2) (j := 3) (l := 4) ?h1 rfl (nm 1 rfl ⟨_, _, _, rfl, (as_ret hQ (c_if (t_eqI (nm 0 rfl (c_int (And.intro (fun b1 => (c_tup (ca_cons (c_add (c_mulS (c_int (nm 2 rfl (And.intro (.inl (And.intro (by decide) (by decide))) (nm 3 rfl (ca_cons (nm 3 rfl (ca_cons (c_mulS (c_int (nm 4 rfl (And.intro (.inl (And.intro (by decide) (by decide))) (ca_cons (c_int (ca_nil (And.intro (And.intro rfl (Nat.le_of_ble_eq_true rfl)) (And.intro rfl ?h2))))))))))))))))))))) (fun b1 => (c_tup (ca_cons (nm 2 rfl (ca_cons (nm 3 rfl (ca_cons (nm 4 rfl (ca_cons (nm 0 rfl (ca_nil (And.intro (And.intro rfl (Nat.le_of_ble_eq_true rfl)) (And.intro rfl ?h3)))))))))))))))))))⟩))
    case h1 =>
      exact sc__law_parts.nd
    case h2 =>
      first
        | (rw [show pX k a b = _ from if_pos b1, show pM k n = _ from if_pos b1] at hG; have e : k = 5 := b1; subst e; exact hG)
        | (rw [show pX k a b = _ from if_neg b1, show pM k n = _ from if_neg b1] at hG; exact hG)
    case h3 =>
      first
        | (rw [show pX k a b = _ from if_pos b1, show pM k n = _ from if_pos b1] at hG; have e : k = 5 := b1; subst e; exact hG)
        | (rw [show pX k a b = _ from if_neg b1, show pM k n = _ from if_neg b1] at hG; exact hG)

/-! ### _law_sign -/
abbrev s__law_sign : Stmt := topS 51
theorem sc__law_sign : FnScope ["kind", "p", "x", "y", "m", "d"] ["kind", "p"] (defScope s__law_sign) := ⟨rfl, rfl, rfl, by decide +kernel, rfl, by decide +kernel, by decide +kernel⟩
def F__law_sign : FP := fun ds Q => ∃ k a b n, ds = [.int k, nD a b n] ∧ (Kd k ∧ Bd 3900 a ∧ Bd 3900 b) ∧ Q (.int (psD k a b))
theorem ok__law_sign {f : Addr} {fd : FuncData} (Fn : Fun K "_law_sign" "_law_sign" s__law_sign f fd) (c__law_parts : Cl P w K mg base 1 "_law_parts" ["kind", "p"] (spP K F__law_parts)) (m_int : mg "int" = none) : FnOk P w K mg base CX0 2 f fd ["kind", "p"] (spP K F__law_sign) := by
  refine fn_P Fn sc__law_sign (fun ds G h => ?_) (fun cdv A outer s H Q E ds G hr hF hQ => ?_)
  · obtain ⟨k, a, b, n, rfl, ⟨hk, ha, hb⟩, hG⟩ := h
    rfl
  · obtain ⟨k, a, b, n, rfl, ⟨hk, ha, hb⟩, hG⟩ := hF
    have hkb := hk.bd
    have hx : Bd 3903 (pX k a b) := by
      unfold pX
      split
      · exact ((two_b.mul ha).add hb).mono (by decide)
      · exact ha.mono (by decide)
    refine (as_unp4 (i := 2) (j := 3) (l := 4) (m := 5) ?h1 rfl (c_call c__law_parts (hr.mono (by decide)) (ca_cons (nm 0 rfl (ca_cons (nm 1 rfl (ca_nil ⟨_, _, _, _, rfl, ?h2, And.intro rfl ⟨_, _, _, _, rfl, (as_ifn (t_w (w_and (t_ge (nm 2 rfl (c_int (And.intro (fun b1 => (w_and1 (t_ge (nm 3 rfl (c_int (And.intro (fun b2 => (as_ret hQ (c_intB m_int (ca_cons (c_orB (c_gt (nm 2 rfl (c_int (And.intro (fun b3 => (c_one (c_gt (nm 3 rfl (c_int (ca_nil (And.intro rfl ?h3))))))) (fun b4 => (ca_nil (And.intro rfl ?h4)))))))))))) (fun b2 => (as_ifn (t_w (w_and (t_le (nm 2 rfl (c_int (And.intro (fun b5 => (w_and1 (t_le (nm 3 rfl (c_int (And.intro (fun b6 => (as_ret hQ (c_neg (c_int (And.intro rfl ?h5))))) (fun b6 => (as_ifn (t_gt (c_mul (nm 2 rfl (nm 2 rfl (And.intro ?h6 (c_mul (c_mul (nm 5 rfl (nm 3 rfl (And.intro ?h7 (nm 3 rfl (And.intro ?h8 (And.intro (fun b7 => (as_ret hQ (c_if (t_gt (nm 2 rfl (c_int (And.intro (fun b8 => (c_int (And.intro rfl ?h9))) (fun b8 => (c_neg (c_int (And.intro rfl ?h10))))))))))) (fun b7 => (as_ret hQ (c_if (t_gt (nm 3 rfl (c_int (And.intro (fun b9 => (c_int (And.intro rfl ?h11))) (fun b9 => (c_neg (c_int (And.intro rfl ?h12)))))))))))))))))))))))))))))))) (fun b5 => (as_ifn (t_gt (c_mul (nm 2 rfl (nm 2 rfl (And.intro ?h13 (c_mul (c_mul (nm 5 rfl (nm 3 rfl (And.intro ?h14 (nm 3 rfl (And.intro ?h15 (And.intro (fun b10 => (as_ret hQ (c_if (t_gt (nm 2 rfl (c_int (And.intro (fun b11 => (c_int (And.intro rfl ?h16))) (fun b11 => (c_neg (c_int (And.intro rfl ?h17))))))))))) (fun b10 => (as_ret hQ (c_if (t_gt (nm 3 rfl (c_int (And.intro (fun b12 => (c_int (And.intro rfl ?h18))) (fun b12 => (c_neg (c_int (And.intro rfl ?h19)))))))))))))))))))))))))))))))))))))))) (fun b1 => (as_ifn (t_w (w_and (t_le (nm 2 rfl (c_int (And.intro (fun b13 => (w_and1 (t_le (nm 3 rfl (c_int (And.intro (fun b14 => (as_ret hQ (c_neg (c_int (And.intro rfl ?h20))))) (fun b14 => (as_ifn (t_gt (c_mul (nm 2 rfl (nm 2 rfl (And.intro ?h21 (c_mul (c_mul (nm 5 rfl (nm 3 rfl (And.intro ?h22 (nm 3 rfl (And.intro ?h23 (And.intro (fun b15 => (as_ret hQ (c_if (t_gt (nm 2 rfl (c_int (And.intro (fun b16 => (c_int (And.intro rfl ?h24))) (fun b16 => (c_neg (c_int (And.intro rfl ?h25))))))))))) (fun b15 => (as_ret hQ (c_if (t_gt (nm 3 rfl (c_int (And.intro (fun b17 => (c_int (And.intro rfl ?h26))) (fun b17 => (c_neg (c_int (And.intro rfl ?h27)))))))))))))))))))))))))))))))) (fun b13 => (as_ifn (t_gt (c_mul (nm 2 rfl (nm 2 rfl (And.intro ?h28 (c_mul (c_mul (nm 5 rfl (nm 3 rfl (And.intro ?h29 (nm 3 rfl (And.intro ?h30 (And.intro (fun b18 => (as_ret hQ (c_if (t_gt (nm 2 rfl (c_int (And.intro (fun b19 => (c_int (And.intro rfl ?h31))) (fun b19 => (c_neg (c_int (And.intro rfl ?h32))))))))))) (fun b18 => (as_ret hQ (c_if (t_gt (nm 3 rfl (c_int (And.intro (fun b20 => (c_int (And.intro rfl ?h33))) (fun b20 => (c_neg (c_int (And.intro rfl ?h34)))))))))))))))))))))))))))))))))))))))))⟩⟩)))))))
    case h1 =>
      exact sc__law_sign.nd
    case h2 =>
      assumption
    case h3 =>
      subst_vars
      have e : psD k a b = sgP k (pX k a b) b := by
        unfold psD pX
        by_cases h5 : k = 5
        · rw [if_pos h5, if_pos h5, h5]
        · rw [if_neg h5, if_neg h5]
      rw [e] at hG
      unfold sgP at hG
      generalize pX k a b = X at *
      try simp only [decide_eq_true_eq, decide_eq_false_iff_not] at *
      refine Eq.mp (congrArg (fun z => G (.int z)) ?_) hG
      try simp only [decide_eq_true_eq, reduceIte]
      generalize X * X = U at *
      generalize k * b * b = V at *
      (repeat' split) <;> omega
    case h4 =>
      subst_vars
      have e : psD k a b = sgP k (pX k a b) b := by
        unfold psD pX
        by_cases h5 : k = 5
        · rw [if_pos h5, if_pos h5, h5]
        · rw [if_neg h5, if_neg h5]
      rw [e] at hG
      unfold sgP at hG
      generalize pX k a b = X at *
      try simp only [decide_eq_true_eq, decide_eq_false_iff_not] at *
      refine Eq.mp (congrArg (fun z => G (.int z)) ?_) hG
      try simp only [decide_eq_true_eq, reduceIte]
      generalize X * X = U at *
      generalize k * b * b = V at *
      (repeat' split) <;> omega
    case h5 =>
      subst_vars
      have e : psD k a b = sgP k (pX k a b) b := by
        unfold psD pX
        by_cases h5 : k = 5
        · rw [if_pos h5, if_pos h5, h5]
        · rw [if_neg h5, if_neg h5]
      rw [e] at hG
      unfold sgP at hG
      generalize pX k a b = X at *
      try simp only [decide_eq_true_eq, decide_eq_false_iff_not] at *
      refine Eq.mp (congrArg (fun z => G (.int z)) ?_) hG
      try simp only [decide_eq_true_eq, reduceIte]
      generalize X * X = U at *
      generalize k * b * b = V at *
      (repeat' split) <;> omega
    case h6 =>
      exact cm (by walk_at "bd") (by walk_at "bd") (by decide)
    case h7 =>
      exact cm (by walk_at "bd") (by walk_at "bd") (by decide)
    case h8 =>
      exact cm (by walk_at "bd") (by walk_at "bd") (by decide)
    case h9 =>
      subst_vars
      have e : psD k a b = sgP k (pX k a b) b := by
        unfold psD pX
        by_cases h5 : k = 5
        · rw [if_pos h5, if_pos h5, h5]
        · rw [if_neg h5, if_neg h5]
      rw [e] at hG
      unfold sgP at hG
      generalize pX k a b = X at *
      try simp only [decide_eq_true_eq, decide_eq_false_iff_not] at *
      refine Eq.mp (congrArg (fun z => G (.int z)) ?_) hG
      try simp only [decide_eq_true_eq, reduceIte]
      generalize X * X = U at *
      generalize k * b * b = V at *
      (repeat' split) <;> omega
    case h10 =>
      subst_vars
      have e : psD k a b = sgP k (pX k a b) b := by
        unfold psD pX
        by_cases h5 : k = 5
        · rw [if_pos h5, if_pos h5, h5]
        · rw [if_neg h5, if_neg h5]
      rw [e] at hG
      unfold sgP at hG
      generalize pX k a b = X at *
      try simp only [decide_eq_true_eq, decide_eq_false_iff_not] at *
      refine Eq.mp (congrArg (fun z => G (.int z)) ?_) hG
      try simp only [decide_eq_true_eq, reduceIte]
      generalize X * X = U at *
      generalize k * b * b = V at *
      (repeat' split) <;> omega
    case h11 =>
      subst_vars
      have e : psD k a b = sgP k (pX k a b) b := by
        unfold psD pX
        by_cases h5 : k = 5
        · rw [if_pos h5, if_pos h5, h5]
        · rw [if_neg h5, if_neg h5]
      rw [e] at hG
      unfold sgP at hG
      generalize pX k a b = X at *
      try simp only [decide_eq_true_eq, decide_eq_false_iff_not] at *
      refine Eq.mp (congrArg (fun z => G (.int z)) ?_) hG
      try simp only [decide_eq_true_eq, reduceIte]
      generalize X * X = U at *
      generalize k * b * b = V at *
      (repeat' split) <;> omega
    case h12 =>
      subst_vars
      have e : psD k a b = sgP k (pX k a b) b := by
        unfold psD pX
        by_cases h5 : k = 5
        · rw [if_pos h5, if_pos h5, h5]
        · rw [if_neg h5, if_neg h5]
      rw [e] at hG
      unfold sgP at hG
      generalize pX k a b = X at *
      try simp only [decide_eq_true_eq, decide_eq_false_iff_not] at *
      refine Eq.mp (congrArg (fun z => G (.int z)) ?_) hG
      try simp only [decide_eq_true_eq, reduceIte]
      generalize X * X = U at *
      generalize k * b * b = V at *
      (repeat' split) <;> omega
    case h13 =>
      exact cm (by walk_at "bd") (by walk_at "bd") (by decide)
    case h14 =>
      exact cm (by walk_at "bd") (by walk_at "bd") (by decide)
    case h15 =>
      exact cm (by walk_at "bd") (by walk_at "bd") (by decide)
    case h16 =>
      subst_vars
      have e : psD k a b = sgP k (pX k a b) b := by
        unfold psD pX
        by_cases h5 : k = 5
        · rw [if_pos h5, if_pos h5, h5]
        · rw [if_neg h5, if_neg h5]
      rw [e] at hG
      unfold sgP at hG
      generalize pX k a b = X at *
      try simp only [decide_eq_true_eq, decide_eq_false_iff_not] at *
      refine Eq.mp (congrArg (fun z => G (.int z)) ?_) hG
      try simp only [decide_eq_true_eq, reduceIte]
      generalize X * X = U at *
      generalize k * b * b = V at *
      (repeat' split) <;> omega
    case h17 =>
      subst_vars
      have e : psD k a b = sgP k (pX k a b) b := by
        unfold psD pX
        by_cases h5 : k = 5
        · rw [if_pos h5, if_pos h5, h5]
        · rw [if_neg h5, if_neg h5]
      rw [e] at hG
      unfold sgP at hG
      generalize pX k a b = X at *
      try simp only [decide_eq_true_eq, decide_eq_false_iff_not] at *
      refine Eq.mp (congrArg (fun z => G (.int z)) ?_) hG
      try simp only [decide_eq_true_eq, reduceIte]
      generalize X * X = U at *
      generalize k * b * b = V at *
      (repeat' split) <;> omega
    case h18 =>
      subst_vars
      have e : psD k a b = sgP k (pX k a b) b := by
        unfold psD pX
        by_cases h5 : k = 5
        · rw [if_pos h5, if_pos h5, h5]
        · rw [if_neg h5, if_neg h5]
      rw [e] at hG
      unfold sgP at hG
      generalize pX k a b = X at *
      try simp only [decide_eq_true_eq, decide_eq_false_iff_not] at *
      refine Eq.mp (congrArg (fun z => G (.int z)) ?_) hG
      try simp only [decide_eq_true_eq, reduceIte]
      generalize X * X = U at *
      generalize k * b * b = V at *
      (repeat' split) <;> omega
    case h19 =>
      subst_vars
      have e : psD k a b = sgP k (pX k a b) b := by
        unfold psD pX
        by_cases h5 : k = 5
        · rw [if_pos h5, if_pos h5, h5]
        · rw [if_neg h5, if_neg h5]
      rw [e] at hG
      unfold sgP at hG
      generalize pX k a b = X at *
      try simp only [decide_eq_true_eq, decide_eq_false_iff_not] at *
      refine Eq.mp (congrArg (fun z => G (.int z)) ?_) hG
      try simp only [decide_eq_true_eq, reduceIte]
      generalize X * X = U at *
      generalize k * b * b = V at *
      (repeat' split) <;> omega
    case h20 =>
      subst_vars
      have e : psD k a b = sgP k (pX k a b) b := by
        unfold psD pX
        by_cases h5 : k = 5
        · rw [if_pos h5, if_pos h5, h5]
        · rw [if_neg h5, if_neg h5]
      rw [e] at hG
      unfold sgP at hG
      generalize pX k a b = X at *
      try simp only [decide_eq_true_eq, decide_eq_false_iff_not] at *
      refine Eq.mp (congrArg (fun z => G (.int z)) ?_) hG
      try simp only [decide_eq_true_eq, reduceIte]
      generalize X * X = U at *
      generalize k * b * b = V at *
      (repeat' split) <;> omega
    case h21 =>
      exact cm (by walk_at "bd") (by walk_at "bd") (by decide)
    case h22 =>
      exact cm (by walk_at "bd") (by walk_at "bd") (by decide)
    case h23 =>
      exact cm (by walk_at "bd") (by walk_at "bd") (by decide)
    case h24 =>
      subst_vars
      have e : psD k a b = sgP k (pX k a b) b := by
        unfold psD pX
        by_cases h5 : k = 5
        · rw [if_pos h5, if_pos h5, h5]
        · rw [if_neg h5, if_neg h5]
      rw [e] at hG
      unfold sgP at hG
      generalize pX k a b = X at *
      try simp only [decide_eq_true_eq, decide_eq_false_iff_not] at *
      refine Eq.mp (congrArg (fun z => G (.int z)) ?_) hG
      try simp only [decide_eq_true_eq, reduceIte]
      generalize X * X = U at *
      generalize k * b * b = V at *
      (repeat' split) <;> omega
    case h25 =>
      subst_vars
      have e : psD k a b = sgP k (pX k a b) b := by
        unfold psD pX
        by_cases h5 : k = 5
        · rw [if_pos h5, if_pos h5, h5]
        · rw [if_neg h5, if_neg h5]
      rw [e] at hG
      unfold sgP at hG
      generalize pX k a b = X at *
      try simp only [decide_eq_true_eq, decide_eq_false_iff_not] at *
      refine Eq.mp (congrArg (fun z => G (.int z)) ?_) hG
      try simp only [decide_eq_true_eq, reduceIte]
      generalize X * X = U at *
      generalize k * b * b = V at *
      (repeat' split) <;> omega
    case h26 =>
      subst_vars
      have e : psD k a b = sgP k (pX k a b) b := by
        unfold psD pX
        by_cases h5 : k = 5
        · rw [if_pos h5, if_pos h5, h5]
        · rw [if_neg h5, if_neg h5]
      rw [e] at hG
      unfold sgP at hG
      generalize pX k a b = X at *
      try simp only [decide_eq_true_eq, decide_eq_false_iff_not] at *
      refine Eq.mp (congrArg (fun z => G (.int z)) ?_) hG
      try simp only [decide_eq_true_eq, reduceIte]
      generalize X * X = U at *
      generalize k * b * b = V at *
      (repeat' split) <;> omega
    case h27 =>
      subst_vars
      have e : psD k a b = sgP k (pX k a b) b := by
        unfold psD pX
        by_cases h5 : k = 5
        · rw [if_pos h5, if_pos h5, h5]
        · rw [if_neg h5, if_neg h5]
      rw [e] at hG
      unfold sgP at hG
      generalize pX k a b = X at *
      try simp only [decide_eq_true_eq, decide_eq_false_iff_not] at *
      refine Eq.mp (congrArg (fun z => G (.int z)) ?_) hG
      try simp only [decide_eq_true_eq, reduceIte]
      generalize X * X = U at *
      generalize k * b * b = V at *
      (repeat' split) <;> omega
    case h28 =>
      exact cm (by walk_at "bd") (by walk_at "bd") (by decide)
    case h29 =>
      exact cm (by walk_at "bd") (by walk_at "bd") (by decide)
    case h30 =>
      exact cm (by walk_at "bd") (by walk_at "bd") (by decide)
    case h31 =>
      subst_vars
      have e : psD k a b = sgP k (pX k a b) b := by
        unfold psD pX
        by_cases h5 : k = 5
        · rw [if_pos h5, if_pos h5, h5]
        · rw [if_neg h5, if_neg h5]
      rw [e] at hG
      unfold sgP at hG
      generalize pX k a b = X at *
      try simp only [decide_eq_true_eq, decide_eq_false_iff_not] at *
      refine Eq.mp (congrArg (fun z => G (.int z)) ?_) hG
      try simp only [decide_eq_true_eq, reduceIte]
      generalize X * X = U at *
      generalize k * b * b = V at *
      (repeat' split) <;> omega
    case h32 =>
      subst_vars
      have e : psD k a b = sgP k (pX k a b) b := by
        unfold psD pX
        by_cases h5 : k = 5
        · rw [if_pos h5, if_pos h5, h5]
        · rw [if_neg h5, if_neg h5]
      rw [e] at hG
      unfold sgP at hG
      generalize pX k a b = X at *
      try simp only [decide_eq_true_eq, decide_eq_false_iff_not] at *
      refine Eq.mp (congrArg (fun z => G (.int z)) ?_) hG
      try simp only [decide_eq_true_eq, reduceIte]
      generalize X * X = U at *
      generalize k * b * b = V at *
      (repeat' split) <;> omega
    case h33 =>
      subst_vars
      have e : psD k a b = sgP k (pX k a b) b := by
        unfold psD pX
        by_cases h5 : k = 5
        · rw [if_pos h5, if_pos h5, h5]
        · rw [if_neg h5, if_neg h5]
      rw [e] at hG
      unfold sgP at hG
      generalize pX k a b = X at *
      try simp only [decide_eq_true_eq, decide_eq_false_iff_not] at *
      refine Eq.mp (congrArg (fun z => G (.int z)) ?_) hG
      try simp only [decide_eq_true_eq, reduceIte]
      generalize X * X = U at *
      generalize k * b * b = V at *
      (repeat' split) <;> omega
    case h34 =>
      subst_vars
      have e : psD k a b = sgP k (pX k a b) b := by
        unfold psD pX
        by_cases h5 : k = 5
        · rw [if_pos h5, if_pos h5, h5]
        · rw [if_neg h5, if_neg h5]
      rw [e] at hG
      unfold sgP at hG
      generalize pX k a b = X at *
      try simp only [decide_eq_true_eq, decide_eq_false_iff_not] at *
      refine Eq.mp (congrArg (fun z => G (.int z)) ?_) hG
      try simp only [decide_eq_true_eq, reduceIte]
      generalize X * X = U at *
      generalize k * b * b = V at *
      (repeat' split) <;> omega

/-! ### _law_root -/
abbrev s__law_root : Stmt := topS 49
theorem sc__law_root : FnScope ["number", "low", "high", "middle"] ["number"] (defScope s__law_root) := ⟨rfl, rfl, rfl, by decide +kernel, rfl, by decide +kernel, by decide +kernel⟩
def F__law_root : FP := fun ds Q => ∃ z, ds = [.int z] ∧ (0 ≤ z ∧ Bd 8000 z) ∧ Q (.int (rtI z))
theorem ok__law_root {f : Addr} {fd : FuncData} (Fn : Fun K "_law_root" "_law_root" s__law_root f fd)  : FnOk P w K mg base CX0 1 f fd ["number"] (spP K F__law_root) := by
  refine fn_P Fn sc__law_root (fun ds G h => ?_) (fun cdv A outer s H Q E ds G hr hF hQ => ?_)
  · obtain ⟨z, rfl, ⟨hz, hbz⟩, hG⟩ := h
    rfl
  · obtain ⟨z, rfl, ⟨hz, hbz⟩, hG⟩ := hF
    refine (as_par (i := 1) (j := 2) ?h1 rfl (ca_cons (c_int (ca_cons (c_add (nm 0 rfl (c_int (ca_nil ⟨_, _, rfl, (as_while (W := fun m es q => ∃ (lo hi : Int) (x : Option Dat), es = [some (.int z), some (.int lo), some (.int hi), x] ∧ q = [] ∧ 0 ≤ lo ∧ lo < hi ∧ hi ≤ z + 1 ∧ lo * lo ≤ z ∧ z < hi * hi ∧ (hi - lo).toNat ≤ m) (B := fun _ _ => False) PassesOwn.never ((z + 1).toNat) ⟨_, _, _, rfl, rfl, by decide, by omega, by omega, by omega, root_top hz, by omega⟩ (fun m es q hw => ?h2) (fun _ _ h => h.elim))⟩))))))))
    case h1 =>
      exact sc__law_root.nd
    case h2 =>
      obtain ⟨lo, hi, x, rfl, rfl, h0, h1, h2, h3, h4, hm⟩ := hw
      refine (t_gt (c_sub (nm 2 rfl (nm 1 rfl (c_int (And.intro (fun b1 => (as_asg (i := 3) ?h3 (c_fdiv (c_add (nm 1 rfl (nm 2 rfl (c_int (And.intro ?h4 (as_if (t_le (c_mul (nm 3 rfl (nm 3 rfl (And.intro ?h5 (nm 0 rfl (And.intro (fun b2 => (as_asg (i := 1) ?h6 (nm 3 rfl (as_go (as_end rfl ?h7))))) (fun b2 => (as_asg (i := 2) ?h8 (nm 3 rfl (as_go (as_end rfl ?h9))))))))))))))))))))) (fun b1 => (as_ret hQ (nm 1 rfl (And.intro rfl ?h10))))))))))
      case h3 =>
        exact sc__law_root.nd
      case h4 =>
        exact cdw (by decide) two_b (by decide)
      case h5 =>
        exact cm (n := 8002) (m := 8002) (mid_b h0 h1 h2 hbz) (mid_b h0 h1 h2 hbz) (by decide)
      case h6 =>
        exact sc__law_root.nd
      case h7 =>
        first
          | exact ⟨(hi - (lo + hi) / 2).toNat, by omega, _, _, _, rfl, rfl, by omega, by omega, by omega, by assumption, by assumption, by omega⟩
          | exact ⟨((lo + hi) / 2 - lo).toNat, by omega, _, _, _, rfl, rfl, by omega, by omega, by omega, by assumption, by omega, by omega⟩
      case h8 =>
        exact sc__law_root.nd
      case h9 =>
        first
          | exact ⟨(hi - (lo + hi) / 2).toNat, by omega, _, _, _, rfl, rfl, by omega, by omega, by omega, by assumption, by assumption, by omega⟩
          | exact ⟨((lo + hi) / 2 - lo).toNat, by omega, _, _, _, rfl, rfl, by omega, by omega, by omega, by assumption, by omega, by omega⟩
      case h10 =>
        have e : hi = lo + 1 := by omega
        subst e
        rw [root_is h0 h3 h4]
        exact hG

/-! ### _law_floor -/
abbrev s__law_floor : Stmt := topS 52
theorem sc__law_floor : FnScope ["kind", "p", "x", "y", "m", "d", "root"] ["kind", "p"] (defScope s__law_floor) := ⟨rfl, rfl, rfl, by decide +kernel, rfl, by decide +kernel, by decide +kernel⟩
def F__law_floor : FP := fun ds Q => ∃ k a b n, ds = [.int k, nD a b n] ∧ (Kd k ∧ 0 < n ∧ Bd 3900 a ∧ Bd 3900 b ∧ Bd 3900 n) ∧ Q (.int (flI k a b n))
theorem ok__law_floor {f : Addr} {fd : FuncData} (Fn : Fun K "_law_floor" "_law_floor" s__law_floor f fd) (c__law_parts : Cl P w K mg base 1 "_law_parts" ["kind", "p"] (spP K F__law_parts)) (c__law_root : Cl P w K mg base 1 "_law_root" ["number"] (spP K F__law_root)) : FnOk P w K mg base CX0 2 f fd ["kind", "p"] (spP K F__law_floor) := by
  refine fn_P Fn sc__law_floor (fun ds G h => ?_) (fun cdv A outer s H Q E ds G hr hF hQ => ?_)
  · obtain ⟨k, a, b, n, rfl, ⟨hk, hn, ha, hb, hbn⟩, hG⟩ := h
    rfl
  · obtain ⟨k, a, b, n, rfl, ⟨hk, hn, ha, hb, hbn⟩, hG⟩ := hF
    have hkb := hk.bd
    have hM : Bd 3903 (pM k n) := by
      unfold pM
      split
      · exact (two_b.mul hbn).mono (by decide)
      · exact hbn.mono (by decide)
    have hM0 : 0 < pM k n := by
      unfold pM
      split <;> omega
    have hkk := sq_nn (b := b) hk
    refine (as_unp4 (i := 2) (j := 3) (l := 4) (m := 5) ?h1 rfl (c_call c__law_parts (hr.mono (by decide)) (ca_cons (nm 0 rfl (ca_cons (nm 1 rfl (ca_nil ⟨_, _, _, _, rfl, ?h2, And.intro rfl ⟨_, _, _, _, rfl, (as_asg (i := 6) ?h3 (c_call c__law_root (hr.mono (by decide)) (ca_cons (c_mul (c_mul (nm 5 rfl (nm 3 rfl (And.intro ?h4 (nm 3 rfl (And.intro ?h5 (ca_nil ⟨_, rfl, ?h6, And.intro rfl (as_ret hQ (c_if (t_ge (nm 3 rfl (c_int (And.intro (fun b1 => (c_fdiv (c_add (nm 2 rfl (nm 6 rfl (nm 4 rfl (And.intro ?h7 (And.intro rfl ?h8)))))))) (fun b1 => (c_fdiv (c_sub (c_sub (nm 2 rfl (nm 6 rfl (c_int (nm 4 rfl (And.intro ?h9 (And.intro rfl ?h10))))))))))))))))⟩)))))))))))⟩⟩)))))))
    case h1 =>
      exact sc__law_floor.nd
    case h2 =>
      assumption
    case h3 =>
      exact sc__law_floor.nd
    case h4 =>
      exact cm (by walk_at "bd") (by walk_at "bd") (by decide)
    case h5 =>
      exact cm (by walk_at "bd") (by walk_at "bd") (by decide)
    case h6 =>
      exact ⟨hkk, Bd.mono (by walk_at "bd") (by decide)⟩
    case h7 =>
      exact cdw hM0 hM (by decide)
    case h8 =>
      unfold flI flQ flA flN rtF at hG
      first
        | (rw [if_neg (show ¬ b < 0 by omega)] at hG
           exact hG)
        | (rw [if_pos (show b < 0 by omega)] at hG
           refine Eq.mp (congrArg (fun z => G (.int (z / pM k n))) ?_) hG
           show pX k a b + (-rtI (k * b * b) - 1) = pX k a b - rtI (k * b * b) - 1
           omega)
    case h9 =>
      exact cdw hM0 hM (by decide)
    case h10 =>
      unfold flI flQ flA flN rtF at hG
      first
        | (rw [if_neg (show ¬ b < 0 by omega)] at hG
           exact hG)
        | (rw [if_pos (show b < 0 by omega)] at hG
           refine Eq.mp (congrArg (fun z => G (.int (z / pM k n))) ?_) hG
           show pX k a b + (-rtI (k * b * b) - 1) = pX k a b - rtI (k * b * b) - 1
           omega)

end
end Y37

set_option Elab.async false
set_option linter.all false
set_option maxRecDepth 100000
set_option maxHeartbeats 8000000
namespace Y37
open PySem PySem.Spec PyProof.Rows L2 Evl Wz
open Y02 (Kd Nm psD sgP flQ flA flN rtF g3 sg sq_nn lsD)
open Y75 (Z2 mul mate add sub B2 LO mul_b mate_b B2.mono)
local macro_rules | `(tactic| walk_at "bd") => `(tactic| (repeat (first | assumption | apply Bd.mul | apply Bd.add | apply Bd.sub | apply Bd.neg | exact Bd.z | exact Bd.of _)))
local macro_rules | `(tactic| walk_at "bm") => `(tactic| (first | assumption | exact Bd.mono (by walk_at "bd") (by decide)))
local macro_rules | `(tactic| walk_at "b2") => `(tactic| (repeat (first | assumption | apply And.intro | walk_at "bm" | decide | omega)))
theorem g3_of {a b n h : Int} (h0 : 0 ≤ h) (hg : h.natAbs = Nat.gcd (Nat.gcd a.natAbs b.natAbs) n.natAbs) : h = g3 a b n := by
  unfold Y02.g3
  rw [← hg]
  omega
set_option exponentiation.threshold 1000000
section
variable {P : Program} {w : World} {K : PySem.W.Frag} {mg : Str → Option Value} {base : Heap}

/-! ### _law_form -/
abbrev s__law_form : Stmt := topS 53
theorem sc__law_form : FnScope ["a", "b", "n", "one", "other"] ["a", "b", "n"] (defScope s__law_form) := ⟨rfl, rfl, rfl, by decide +kernel, rfl, by decide +kernel, by decide +kernel⟩
def F__law_form : FP := fun ds Q => ∃ (a b n : Int) (l : Nat), ds = [.int a, .int b, .int n] ∧ (Nb l a b n ∧ l ≤ 4000) ∧ ∀ x y z, LO a b n x y z → Nb l x y z → Q (nD x y z)
theorem ok__law_form {f : Addr} {fd : FuncData} (Fn : Fun K "_law_form" "_law_form" s__law_form f fd) (m_abs : mg "abs" = none) (m_int : mg "int" = none) : FnOk P w K mg base CX0 1 f fd ["a", "b", "n"] (spP K F__law_form) := by
  refine fn_P Fn sc__law_form (fun ds G h => ?_) (fun cdv A outer s H Q E ds G hr hF hQ => ?_)
  · obtain ⟨a, b, n, l, rfl, ⟨hnb, hl⟩, hG⟩ := h
    rfl
  · obtain ⟨a, b, n, l, rfl, ⟨hnb, hl⟩, hG⟩ := hF
    have hp := hnb.p
    have hn : n ≠ 0 := by omega
    obtain ⟨ln, lp⟩ := lo_neg (a := a) (b := b) hn
    have hgb : Bd 4000 (g3 a b n) := (g3_b hn hnb.n).mono hl
    have hgn := Y02.g3_ne (a := a) (b := b) hn
    refine (as_par (i := 3) (j := 4) ?h1 rfl (ca_cons (c_abs m_abs (ca_cons (nm 0 rfl (ca_nil (ca_cons (c_abs m_abs (ca_cons (nm 1 rfl (ca_nil (ca_nil ⟨_, _, rfl, (as_while (W := fun m es q => ∃ h e : Int, es = [some (.int a), some (.int b), some (.int n), some (.int h), some (.int e)] ∧ q = [] ∧ 0 ≤ h ∧ 0 ≤ e ∧ e.toNat ≤ m ∧ Nat.gcd h.natAbs e.natAbs = Nat.gcd a.natAbs b.natAbs) (B := fun _ _ => False) PassesOwn.never ((absI b).toNat) ⟨_, _, rfl, rfl, absI_nn a, absI_nn b, Nat.le_refl _, (by show Nat.gcd (absI a).natAbs (absI b).natAbs = _; rw [absI_na, absI_na])⟩ (fun m es q hw => ?h2) (fun _ _ h => h.elim))⟩))))))))))))
    case h1 =>
      exact sc__law_form.nd
    case h2 =>
      obtain ⟨h, e, rfl, rfl, h0, h1, hm, hg⟩ := hw
      refine (t_neI (nm 4 rfl (c_int (And.intro (fun b1 => (as_par (i := 3) (j := 4) ?h3 rfl (ca_cons (nm 4 rfl (ca_cons (c_mod (c_intI m_int (ca_cons (nm 3 rfl (ca_nil (nm 4 rfl (And.intro ?h4 (ca_nil ⟨_, _, rfl, (as_end rfl ?h5)⟩))))))))))))) (fun b1 => (as_asg (i := 4) ?h6 (nm 2 rfl (as_while (W := fun m es q => ∃ h e : Int, es = [some (.int a), some (.int b), some (.int n), some (.int h), some (.int e)] ∧ q = [] ∧ 0 ≤ h ∧ 0 ≤ e ∧ e.toNat ≤ m ∧ Nat.gcd h.natAbs e.natAbs = Nat.gcd (Nat.gcd a.natAbs b.natAbs) n.natAbs) (B := fun _ _ => False) PassesOwn.never (n.toNat) ⟨_, _, rfl, rfl, h0, Int.le_of_lt hp, Nat.le_refl _, (by show Nat.gcd h.natAbs n.natAbs = _; rw [← hg, b1]; simp)⟩ (fun m es q hw => ?h7) (fun _ _ h => h.elim)))))))))
      case h3 =>
        exact sc__law_form.nd
      case h4 =>
        first | omega | decide
      case h5 =>
        exact ⟨(h % e).toNat, wl h1 (by assumption) hm, _, _, rfl, rfl, by omega, Int.emod_nonneg _ (by assumption), Nat.le_refl _, by rw [gcd_step h0 (by omega)]; exact hg⟩
      case h6 =>
        exact sc__law_form.nd
      case h7 =>
        clear hm h1
        obtain ⟨h, e, rfl, rfl, h0, h1, hm, hg⟩ := hw
        refine (t_neI (nm 4 rfl (c_int (And.intro (fun b2 => (as_par (i := 3) (j := 4) ?h8 rfl (ca_cons (nm 4 rfl (ca_cons (c_mod (c_intI m_int (ca_cons (nm 3 rfl (ca_nil (nm 4 rfl (And.intro ?h9 (ca_nil ⟨_, _, rfl, (as_end rfl ?h10)⟩))))))))))))) (fun b2 => (as_ret hQ (c_tup (ca_cons (c_fdivX (nm 0 rfl (nm 3 rfl (And.intro ?h11 (ca_cons (c_fdivX (nm 1 rfl (nm 3 rfl (And.intro ?h12 (ca_cons (c_fdivX (nm 2 rfl (nm 3 rfl (And.intro ?h13 (ca_nil (And.intro (And.intro rfl (Nat.le_of_ble_eq_true rfl)) (And.intro rfl ?h14)))))))))))))))))))))))))
        case h8 =>
          exact sc__law_form.nd
        case h9 =>
          first | omega | decide
        case h10 =>
          exact ⟨(h % e).toNat, wl h1 (by assumption) hm, _, _, rfl, rfl, by omega, Int.emod_nonneg _ (by assumption), Nat.le_refl _, by rw [gcd_step h0 (by omega)]; exact hg⟩
        case h11 =>
          have hgg : h = g3 a b n := by
            refine g3_of h0 ?_
            rw [← hg, (show e = 0 by assumption)]
            simp
          rw [hgg]
          exact cdx hgn hgb (by decide)
        case h12 =>
          have hgg : h = g3 a b n := by
            refine g3_of h0 ?_
            rw [← hg, (show e = 0 by assumption)]
            simp
          rw [hgg]
          exact cdx hgn hgb (by decide)
        case h13 =>
          have hgg : h = g3 a b n := by
            refine g3_of h0 ?_
            rw [← hg, (show e = 0 by assumption)]
            simp
          rw [hgg]
          exact cdx hgn hgb (by decide)
        case h14 =>
          have hgg : h = g3 a b n := by
            refine g3_of h0 ?_
            rw [← hg, (show e = 0 by assumption)]
            simp
          rw [hgg]
          exact hG _ _ _ (lp (by omega)) (lo_nb (lp (by omega)) hnb)

/-! ### _law_plus -/
abbrev s__law_plus : Stmt := topS 54
theorem sc__law_plus : FnScope ["p", "q"] ["p", "q"] (defScope s__law_plus) := ⟨rfl, rfl, rfl, by decide +kernel, rfl, by decide +kernel, by decide +kernel⟩
def F__law_plus : FP := fun ds Q => ∃ (a b n c e q : Int) (l : Nat), ds = [nD a b n, nD c e q] ∧ (Nb l a b n ∧ Nb l c e q ∧ l ≤ 1900) ∧ ∀ x y z, LO (a * q + c * n) (b * q + e * n) (n * q) x y z → Nb (2 * l + 1) x y z → Q (nD x y z)
theorem ok__law_plus {f : Addr} {fd : FuncData} (Fn : Fun K "_law_plus" "_law_plus" s__law_plus f fd) (c__law_form : Cl P w K mg base 1 "_law_form" ["a", "b", "n"] (spP K F__law_form)) : FnOk P w K mg base CX0 2 f fd ["p", "q"] (spP K F__law_plus) := by
  refine fn_P Fn sc__law_plus (fun ds G h => ?_) (fun cdv A outer s H Q E ds G hr hF hQ => ?_)
  · obtain ⟨a, b, n, c, e, q, l, rfl, ⟨h1, h2, hl⟩, hG⟩ := h
    rfl
  · obtain ⟨a, b, n, c, e, q, l, rfl, ⟨h1, h2, hl⟩, hG⟩ := hF
    have ha := h1.a
    have hb := h1.b
    have hn := h1.n
    have hc := h2.a
    have he := h2.b
    have hq := h2.n
    have hnb : Nb (2 * l + 1) (a * q + c * n) (b * q + e * n) (n * q) := ⟨Int.mul_pos h1.p h2.p, ((ha.mul hq).add (hc.mul hn)).mono (by omega), ((hb.mul hq).add (he.mul hn)).mono (by omega), (hn.mul hq).mono (by omega)⟩
    have hk2 : ∀ {i j : Int}, Bd l i → Bd l j → CMulW i j := fun x y => cm x y (by omega)
    refine (as_ret hQ (c_call c__law_form (hr.mono (by decide)) (ca_cons (c_add (c_mul (c_ixTn (nm 0 rfl (c_int (And.intro (by decide) (c_ixTn (nm 1 rfl (c_int (And.intro (by decide) (And.intro ?h1 (c_mul (c_ixTn (nm 1 rfl (c_int (And.intro (by decide) (c_ixTn (nm 0 rfl (c_int (And.intro (by decide) (And.intro ?h2 (ca_cons (c_add (c_mul (c_ixTn (nm 0 rfl (c_int (And.intro (by decide) (c_ixTn (nm 1 rfl (c_int (And.intro (by decide) (And.intro ?h3 (c_mul (c_ixTn (nm 1 rfl (c_int (And.intro (by decide) (c_ixTn (nm 0 rfl (c_int (And.intro (by decide) (And.intro ?h4 (ca_cons (c_mul (c_ixTn (nm 0 rfl (c_int (And.intro (by decide) (c_ixTn (nm 1 rfl (c_int (And.intro (by decide) (And.intro ?h5 (ca_nil ⟨_, _, _, (2 * l + 1), rfl, ?h6, fun x1 y1 z1 lo1 nb1 => And.intro rfl (And.intro rfl ?h7)⟩))))))))))))))))))))))))))))))))))))))))))))))))))))))))))
    case h1 =>
      exact hk2 (by assumption) (by assumption)
    case h2 =>
      exact hk2 (by assumption) (by assumption)
    case h3 =>
      exact hk2 (by assumption) (by assumption)
    case h4 =>
      exact hk2 (by assumption) (by assumption)
    case h5 =>
      exact hk2 (by assumption) (by assumption)
    case h6 =>
      exact ⟨hnb, by omega⟩
    case h7 =>
      exact hG _ _ _ lo1 nb1

/-! ### _law_minus -/
abbrev s__law_minus : Stmt := topS 55
theorem sc__law_minus : FnScope ["p", "q"] ["p", "q"] (defScope s__law_minus) := ⟨rfl, rfl, rfl, by decide +kernel, rfl, by decide +kernel, by decide +kernel⟩
def F__law_minus : FP := fun ds Q => ∃ (a b n c e q : Int) (l : Nat), ds = [nD a b n, nD c e q] ∧ (Nb l a b n ∧ Nb l c e q ∧ l ≤ 1900) ∧ ∀ x y z, LO (a * q - c * n) (b * q - e * n) (n * q) x y z → Nb (2 * l + 1) x y z → Q (nD x y z)
theorem ok__law_minus {f : Addr} {fd : FuncData} (Fn : Fun K "_law_minus" "_law_minus" s__law_minus f fd) (c__law_plus : Cl P w K mg base 2 "_law_plus" ["p", "q"] (spP K F__law_plus)) : FnOk P w K mg base CX0 3 f fd ["p", "q"] (spP K F__law_minus) := by
  refine fn_P Fn sc__law_minus (fun ds G h => ?_) (fun cdv A outer s H Q E ds G hr hF hQ => ?_)
  · obtain ⟨a, b, n, c, e, q, l, rfl, ⟨h1, h2, hl⟩, hG⟩ := h
    rfl
  · obtain ⟨a, b, n, c, e, q, l, rfl, ⟨h1, h2, hl⟩, hG⟩ := hF
    refine (as_ret hQ (c_call c__law_plus (hr.mono (by decide)) (ca_cons (nm 0 rfl (ca_cons (c_tup (ca_cons (c_neg (c_ixTn (nm 1 rfl (c_int (And.intro (by decide) (ca_cons (c_neg (c_ixTn (nm 1 rfl (c_int (And.intro (by decide) (ca_cons (c_ixTn (nm 1 rfl (c_int (And.intro (by decide) (ca_nil (And.intro (And.intro rfl (Nat.le_of_ble_eq_true rfl)) (ca_nil ⟨_, _, _, _, _, _, l, rfl, ?h1, fun px1 py1 pz1 pl1 pb1 => And.intro rfl (And.intro rfl ?h2)⟩))))))))))))))))))))))))))
    case h1 =>
      exact ⟨h1, ⟨h2.p, h2.a.neg, h2.b.neg, h2.n⟩, hl⟩
    case h2 =>
      rw [show a * q + -c * n = a * q - c * n by rw [Int.neg_mul]; omega, show b * q + -e * n = b * q - e * n by rw [Int.neg_mul]; omega] at pl1
      exact hG _ _ _ pl1 pb1

/-! ### _law_under -/
abbrev s__law_under : Stmt := topS 56
theorem sc__law_under : FnScope ["kind", "p", "q"] ["kind", "p", "q"] (defScope s__law_under) := ⟨rfl, rfl, rfl, by decide +kernel, rfl, by decide +kernel, by decide +kernel⟩
def F__law_under : FP := fun ds Q => ∃ k a b n c e q, ds = [.int k, nD a b n, nD c e q] ∧ (Kd k ∧ Nb 1500 a b n ∧ Nb 1500 c e q) ∧ Q (.bl (decide (lsD k (a * q - c * n) (b * q - e * n) < 0)))
theorem ok__law_under {f : Addr} {fd : FuncData} (Fn : Fun K "_law_under" "_law_under" s__law_under f fd) (c__law_sign : Cl P w K mg base 2 "_law_sign" ["kind", "p"] (spP K F__law_sign)) (c__law_minus : Cl P w K mg base 3 "_law_minus" ["p", "q"] (spP K F__law_minus)) : FnOk P w K mg base CX0 4 f fd ["kind", "p", "q"] (spP K F__law_under) := by
  refine fn_P Fn sc__law_under (fun ds G h => ?_) (fun cdv A outer s H Q E ds G hr hF hQ => ?_)
  · obtain ⟨k, a, b, n, c, e, q, rfl, ⟨hk, h1, h2⟩, hG⟩ := h
    rfl
  · obtain ⟨k, a, b, n, c, e, q, rfl, ⟨hk, h1, h2⟩, hG⟩ := hF
    refine (as_ret hQ (c_lt (c_call c__law_sign (hr.mono (by decide)) (ca_cons (nm 0 rfl (ca_cons (c_call c__law_minus (hr.mono (by decide)) (ca_cons (nm 1 rfl (ca_cons (nm 2 rfl (ca_nil ⟨_, _, _, _, _, _, 1500, rfl, ?h1, fun mx1 my1 mz1 ml1 mb1 => And.intro rfl (ca_nil ⟨_, _, _, _, rfl, ?h2, And.intro rfl (c_int (And.intro rfl ?h3))⟩)⟩))))))))))))
    case h1 =>
      exact ⟨h1, h2, by decide⟩
    case h2 =>
      exact ⟨hk, mb1.a.mono (by decide), mb1.b.mono (by decide)⟩
    case h3 =>
      rw [Y02.ps_ls hk, ml1.ls (Int.mul_pos h1.p h2.p)]
      exact hG

/-! ### _law_mate -/
abbrev s__law_mate : Stmt := topS 58
theorem sc__law_mate : FnScope ["kind", "p", "a", "b", "n"] ["kind", "p"] (defScope s__law_mate) := ⟨rfl, rfl, rfl, by decide +kernel, rfl, by decide +kernel, by decide +kernel⟩
def F__law_mate : FP := fun ds Q => ∃ k a b n, ds = [.int k, nD a b n] ∧ Q (nD (mate k (a, b)).1 (mate k (a, b)).2 n)
theorem ok__law_mate {f : Addr} {fd : FuncData} (Fn : Fun K "_law_mate" "_law_mate" s__law_mate f fd)  : FnOk P w K mg base CX0 1 f fd ["kind", "p"] (spP K F__law_mate) := by
  refine fn_P Fn sc__law_mate (fun ds G h => ?_) (fun cdv A outer s H Q E ds G hr hF hQ => ?_)
  · obtain ⟨k, a, b, n, rfl, hG⟩ := h
    rfl
  · obtain ⟨k, a, b, n, rfl, hG⟩ := hF
    refine (as_unp3 (i := 2) (j := 3) (l := 4) ?h1 rfl (nm 1 rfl ⟨_, _, _, rfl, (as_ret hQ (c_if (t_eqI (nm 0 rfl (c_int (And.intro (fun b1 => (c_tup (ca_cons (c_add (nm 2 rfl (nm 3 rfl (ca_cons (c_neg (nm 3 rfl (ca_cons (nm 4 rfl (ca_nil (And.intro (And.intro rfl (Nat.le_of_ble_eq_true rfl)) (And.intro rfl ?h2)))))))))))))) (fun b1 => (c_tup (ca_cons (nm 2 rfl (ca_cons (c_neg (nm 3 rfl (ca_cons (nm 4 rfl (ca_nil (And.intro (And.intro rfl (Nat.le_of_ble_eq_true rfl)) (And.intro rfl ?h3))))))))))))))))))⟩))
    case h1 =>
      exact sc__law_mate.nd
    case h2 =>
      first | (rw [show mate k (a, b) = _ from if_pos b1] at hG; exact hG) | (rw [show mate k (a, b) = _ from if_neg b1] at hG; exact hG)
    case h3 =>
      first | (rw [show mate k (a, b) = _ from if_pos b1] at hG; exact hG) | (rw [show mate k (a, b) = _ from if_neg b1] at hG; exact hG)

end
end Y37

set_option Elab.async false
set_option linter.all false
set_option maxRecDepth 100000
set_option maxHeartbeats 8000000
namespace Y37
open PySem PySem.Spec PyProof.Rows L2 Evl Wz
open Y02 (Kd Nm psD sgP flQ flA flN rtF g3 sg sq_nn lsD)
open Y75 (Z2 mul mate add sub B2 LO mul_b mate_b B2.mono)
local macro_rules | `(tactic| walk_at "bd") => `(tactic| (repeat (first | assumption | apply Bd.mul | apply Bd.add | apply Bd.sub | apply Bd.neg | exact Bd.z | exact Bd.of _)))
local macro_rules | `(tactic| walk_at "bm") => `(tactic| (first | assumption | exact Bd.mono (by walk_at "bd") (by decide)))
local macro_rules | `(tactic| walk_at "b2") => `(tactic| (repeat (first | assumption | apply And.intro | walk_at "bm" | decide | omega)))
theorem lo_eq {a b n x y z a' b' : Int} (h : LO a b n x y z) (e1 : a = a') (e2 : b = b') : LO a' b' n x y z := by
  subst e1 e2
  exact h
theorem nb_eq {l : Nat} {a b n a' b' : Int} (h : Nb l a' b' n) (e1 : a = a') (e2 : b = b') : Nb l a b n := by
  subst e1 e2
  exact h
theorem tA2 {a b c e : Int} : a * c + b * e * 2 = (mul 2 (a, b) (c, e)).1 := by unfold mul; simp; grind
theorem tA3 {a b c e : Int} : a * c + b * e * 3 = (mul 3 (a, b) (c, e)).1 := by unfold mul; simp; grind
theorem tA5 {a b c e : Int} : a * c + b * e * 1 = (mul 5 (a, b) (c, e)).1 := by unfold mul; simp
theorem tB2 {a b c e : Int} : a * e + b * c + b * e * (if decide ((2 : Int) = 5) = true then 1 else 0) = (mul 2 (a, b) (c, e)).2 := by unfold mul; simp
theorem tB3 {a b c e : Int} : a * e + b * c + b * e * (if decide ((3 : Int) = 5) = true then 1 else 0) = (mul 3 (a, b) (c, e)).2 := by unfold mul; simp
theorem tB5 {a b c e : Int} : a * e + b * c + b * e * (if decide ((5 : Int) = 5) = true then 1 else 0) = (mul 5 (a, b) (c, e)).2 := by unfold mul; simp
theorem sg_neg {K x y : Int} : Y02.sgL K (-x) (-y) = -(Y02.sgL K x y) := by
  have e1 : -x * -y = x * y := Int.neg_mul_neg x y
  have e2 : -x * -x = x * x := Int.neg_mul_neg x x
  have e3 : K * -y * -y = K * y * y := by grind
  have dc : ∀ {p q : Prop} [Decidable p] [Decidable q], (p ↔ q) → decide p = decide q := fun h => decide_eq_decide.mpr h
  unfold Y02.sgL
  rw [e1, e2, e3]
  by_cases h : 0 ≤ x * y
  · rw [if_pos h, if_pos h, show decide (0 < -x + -y) = decide (x + y < 0) from dc (by omega), show decide (-x + -y < 0) = decide (0 < x + y) from dc (by omega)]
    omega
  · have hx : x ≠ 0 := fun z => by
      subst z
      rw [Int.zero_mul] at h
      exact h (Int.le_refl _)
    rw [if_neg h, if_neg h]
    by_cases hp : 0 < x
    · rw [if_pos hp, if_neg (show ¬ 0 < -x by omega)]
      omega
    · rw [if_neg hp, if_pos (show 0 < -x by omega)]
      omega
theorem ls_neg {k a b : Int} : lsD k (-a) (-b) = -(lsD k a b) := by
  unfold Y02.lsD
  rw [show 2 * -a + -b = -(2 * a + b) by omega, sg_neg, sg_neg]
  split <;> rfl
theorem ls_sub {k a b c e : Int} : lsD k (a - c) (b - e) = -(lsD k (c - a) (e - b)) := by
  rw [← ls_neg, show -(c - a) = a - c by omega, show -(e - b) = b - e by omega]
theorem inS_is {k : Int} {q : Z2} {a b n c e u : Int} (hk : Kd k) : inS k q a b n c e u ↔ ¬ lsD k ((mate k q).1 * n - a * 1) ((mate k q).2 * n - b * 1) < 0 ∧ lsD k ((mate k q).1 * u - c * 1) ((mate k q).2 * u - e * 1) < 0 := by
  unfold inS
  rw [Y02.ps_ls hk, Y02.ps_ls hk, ls_sub (a := a * 1)]
  omega
set_option exponentiation.threshold 1000000
section
variable {P : Program} {w : World} {K : PySem.W.Frag} {mg : Str → Option Value} {base : Heap}

/-! ### _law_times -/
abbrev s__law_times : Stmt := topS 57
theorem sc__law_times : FnScope ["kind", "p", "q", "more", "a", "b"] ["kind", "p", "q"] (defScope s__law_times) := ⟨rfl, rfl, rfl, by decide +kernel, rfl, by decide +kernel, by decide +kernel⟩
def F__law_times : FP := fun ds Q => ∃ k a b n c e q, ds = [.int k, nD a b n, nD c e q] ∧ (Kd k ∧ Nb 900 a b n ∧ Nb 900 c e q) ∧ ∀ x y z, LO (mul k (a, b) (c, e)).1 (mul k (a, b) (c, e)).2 (n * q) x y z → Nb 1805 x y z → Q (nD x y z)
theorem ok__law_times {f : Addr} {fd : FuncData} (Fn : Fun K "_law_times" "_law_times" s__law_times f fd) (c__law_form : Cl P w K mg base 1 "_law_form" ["a", "b", "n"] (spP K F__law_form)) (m_int : mg "int" = none) : FnOk P w K mg base CX0 2 f fd ["kind", "p", "q"] (spP K F__law_times) := by
  refine fn_P Fn sc__law_times (fun ds G h => ?_) (fun cdv A outer s H Q E ds G hr hF hQ => ?_)
  · obtain ⟨k, a, b, n, c, e, q, rfl, ⟨hk, h1, h2⟩, hG⟩ := h
    rfl
  · obtain ⟨k, a, b, n, c, e, q, rfl, ⟨hk, h1, h2⟩, hG⟩ := hF
    rcases hk with rfl | rfl | rfl
    ·
      have ha := h1.a
      have hb := h1.b
      have hn := h1.n
      have hc := h2.a
      have he := h2.b
      have hq := h2.n
      have hm2 := mul_b (k := 2) (p := (a, b)) (q := (c, e)) (n := 900) (m := 900) (.inl rfl) ⟨ha, hb⟩ ⟨hc, he⟩
      have hm3 := mul_b (k := 3) (p := (a, b)) (q := (c, e)) (n := 900) (m := 900) (.inr (.inl rfl)) ⟨ha, hb⟩ ⟨hc, he⟩
      have hm5 := mul_b (k := 5) (p := (a, b)) (q := (c, e)) (n := 900) (m := 900) (.inr (.inr rfl)) ⟨ha, hb⟩ ⟨hc, he⟩
      have hnq : Bd 1805 (n * q) := (hn.mul hq).mono (by decide)
      have hpq := Int.mul_pos h1.p h2.p
      have one1 : Bd 1 (1 : Int) := by show Int.natAbs 1 < 2 ^ 1; decide
      have zer1 : Bd 1 (0 : Int) := by show Int.natAbs 0 < 2 ^ 1; decide
      refine (as_asg (i := 3) ?h1 (c_mul (c_ixTn (nm 1 rfl (c_int (And.intro (by decide) (c_ixTn (nm 2 rfl (c_int (And.intro (by decide) (And.intro ?h2 (as_par (i := 4) (j := 5) ?h3 rfl (ca_cons (c_add (c_mul (c_ixTn (nm 1 rfl (c_int (And.intro (by decide) (c_ixTn (nm 2 rfl (c_int (And.intro (by decide) (And.intro ?h4 (c_mul (nm 3 rfl (c_ixL (c_ofN (n_disp (ca_cons (c_int (ca_cons (nm 0 rfl (ca_nil (And.intro (And.intro rfl (Nat.le_of_ble_eq_true rfl)) (c_intB m_int (ca_cons (c_lt (nm 0 rfl (c_int (ca_nil ⟨1, _, rfl, rfl, (And.intro ?h5 (ca_cons (c_add (c_add (c_mul (c_ixTn (nm 1 rfl (c_int (And.intro (by decide) (c_ixTn (nm 2 rfl (c_int (And.intro (by decide) (And.intro ?h6 (c_mul (c_ixTn (nm 1 rfl (c_int (And.intro (by decide) (c_ixTn (nm 2 rfl (c_int (And.intro (by decide) (And.intro ?h7 (c_mul (nm 3 rfl (c_intB m_int (ca_cons (c_eqI (nm 0 rfl (c_int (ca_nil (And.intro ?h8 (ca_nil ⟨_, _, rfl, (as_ret hQ (c_call c__law_form (hr.mono (by decide)) (ca_cons (nm 4 rfl (ca_cons (nm 5 rfl (ca_cons (c_mul (c_ixTn (nm 1 rfl (c_int (And.intro (by decide) (c_ixTn (nm 2 rfl (c_int (And.intro (by decide) (And.intro ?h9 (ca_nil ⟨_, _, _, 1805, rfl, ?h10, fun x1 y1 z1 lo1 nb1 => And.intro rfl (And.intro rfl ?h11)⟩))))))))))))))))))⟩))))))))))))))))))))))))))))))))))⟩)))))))))))))))))))))))))))))))))))))))))
      case h1 =>
        exact sc__law_times.nd
      case h2 =>
        first | exact cm (by walk_at "bd") (by walk_at "bd") (by decide) | exact cm (n := 1800) (m := 1) (by walk_at "bd") (by first | exact one1 | exact zer1) (by decide)
      case h3 =>
        exact sc__law_times.nd
      case h4 =>
        first | exact cm (by walk_at "bd") (by walk_at "bd") (by decide) | exact cm (n := 1800) (m := 1) (by walk_at "bd") (by first | exact one1 | exact zer1) (by decide)
      case h5 =>
        first | exact cm (by walk_at "bd") (by walk_at "bd") (by decide) | exact cm (n := 1800) (m := 1) (by walk_at "bd") (by first | exact one1 | exact zer1) (by decide)
      case h6 =>
        first | exact cm (by walk_at "bd") (by walk_at "bd") (by decide) | exact cm (n := 1800) (m := 1) (by walk_at "bd") (by first | exact one1 | exact zer1) (by decide)
      case h7 =>
        first | exact cm (by walk_at "bd") (by walk_at "bd") (by decide) | exact cm (n := 1800) (m := 1) (by walk_at "bd") (by first | exact one1 | exact zer1) (by decide)
      case h8 =>
        first | exact cm (by walk_at "bd") (by walk_at "bd") (by decide) | exact cm (n := 1800) (m := 1) (by walk_at "bd") (by first | exact one1 | exact zer1) (by decide)
      case h9 =>
        first | exact cm (by walk_at "bd") (by walk_at "bd") (by decide) | exact cm (n := 1800) (m := 1) (by walk_at "bd") (by first | exact one1 | exact zer1) (by decide)
      case h10 =>
        first
          | exact ⟨nb_eq (a' := (mul 2 (a, b) (c, e)).1) (b' := (mul 2 (a, b) (c, e)).2) ⟨hpq, hm2.1.mono (by decide), hm2.2.mono (by decide), hnq⟩ tA2 tB2, by decide⟩
          | exact ⟨nb_eq (a' := (mul 3 (a, b) (c, e)).1) (b' := (mul 3 (a, b) (c, e)).2) ⟨hpq, hm3.1.mono (by decide), hm3.2.mono (by decide), hnq⟩ tA3 tB3, by decide⟩
          | exact ⟨nb_eq (a' := (mul 5 (a, b) (c, e)).1) (b' := (mul 5 (a, b) (c, e)).2) ⟨hpq, hm5.1.mono (by decide), hm5.2.mono (by decide), hnq⟩ tA5 tB5, by decide⟩
      case h11 =>
        first
          | exact hG _ _ _ (lo_eq lo1 tA2 tB2) nb1
          | exact hG _ _ _ (lo_eq lo1 tA3 tB3) nb1
          | exact hG _ _ _ (lo_eq lo1 tA5 tB5) nb1
          | exact hG _ _ _ (lo_eq lo2 tA2 tB2) nb2
          | exact hG _ _ _ (lo_eq lo2 tA3 tB3) nb2
          | exact hG _ _ _ (lo_eq lo2 tA5 tB5) nb2
          | exact hG _ _ _ (lo_eq lo3 tA2 tB2) nb3
          | exact hG _ _ _ (lo_eq lo3 tA3 tB3) nb3
          | exact hG _ _ _ (lo_eq lo3 tA5 tB5) nb3
          | exact hG _ _ _ (lo_eq lo4 tA2 tB2) nb4
          | exact hG _ _ _ (lo_eq lo4 tA3 tB3) nb4
          | exact hG _ _ _ (lo_eq lo4 tA5 tB5) nb4
          | exact hG _ _ _ (lo_eq lo5 tA2 tB2) nb5
          | exact hG _ _ _ (lo_eq lo5 tA3 tB3) nb5
          | exact hG _ _ _ (lo_eq lo5 tA5 tB5) nb5
          | exact hG _ _ _ (lo_eq lo6 tA2 tB2) nb6
          | exact hG _ _ _ (lo_eq lo6 tA3 tB3) nb6
          | exact hG _ _ _ (lo_eq lo6 tA5 tB5) nb6
    ·
      have ha := h1.a
      have hb := h1.b
      have hn := h1.n
      have hc := h2.a
      have he := h2.b
      have hq := h2.n
      have hm2 := mul_b (k := 2) (p := (a, b)) (q := (c, e)) (n := 900) (m := 900) (.inl rfl) ⟨ha, hb⟩ ⟨hc, he⟩
      have hm3 := mul_b (k := 3) (p := (a, b)) (q := (c, e)) (n := 900) (m := 900) (.inr (.inl rfl)) ⟨ha, hb⟩ ⟨hc, he⟩
      have hm5 := mul_b (k := 5) (p := (a, b)) (q := (c, e)) (n := 900) (m := 900) (.inr (.inr rfl)) ⟨ha, hb⟩ ⟨hc, he⟩
      have hnq : Bd 1805 (n * q) := (hn.mul hq).mono (by decide)
      have hpq := Int.mul_pos h1.p h2.p
      have one1 : Bd 1 (1 : Int) := by show Int.natAbs 1 < 2 ^ 1; decide
      have zer1 : Bd 1 (0 : Int) := by show Int.natAbs 0 < 2 ^ 1; decide
      refine (as_asg (i := 3) ?h1001 (c_mul (c_ixTn (nm 1 rfl (c_int (And.intro (by decide) (c_ixTn (nm 2 rfl (c_int (And.intro (by decide) (And.intro ?h1002 (as_par (i := 4) (j := 5) ?h1003 rfl (ca_cons (c_add (c_mul (c_ixTn (nm 1 rfl (c_int (And.intro (by decide) (c_ixTn (nm 2 rfl (c_int (And.intro (by decide) (And.intro ?h1004 (c_mul (nm 3 rfl (c_ixL (c_ofN (n_disp (ca_cons (c_int (ca_cons (nm 0 rfl (ca_nil (And.intro (And.intro rfl (Nat.le_of_ble_eq_true rfl)) (c_intB m_int (ca_cons (c_lt (nm 0 rfl (c_int (ca_nil ⟨1, _, rfl, rfl, (And.intro ?h1005 (ca_cons (c_add (c_add (c_mul (c_ixTn (nm 1 rfl (c_int (And.intro (by decide) (c_ixTn (nm 2 rfl (c_int (And.intro (by decide) (And.intro ?h1006 (c_mul (c_ixTn (nm 1 rfl (c_int (And.intro (by decide) (c_ixTn (nm 2 rfl (c_int (And.intro (by decide) (And.intro ?h1007 (c_mul (nm 3 rfl (c_intB m_int (ca_cons (c_eqI (nm 0 rfl (c_int (ca_nil (And.intro ?h1008 (ca_nil ⟨_, _, rfl, (as_ret hQ (c_call c__law_form (hr.mono (by decide)) (ca_cons (nm 4 rfl (ca_cons (nm 5 rfl (ca_cons (c_mul (c_ixTn (nm 1 rfl (c_int (And.intro (by decide) (c_ixTn (nm 2 rfl (c_int (And.intro (by decide) (And.intro ?h1009 (ca_nil ⟨_, _, _, 1805, rfl, ?h1010, fun x2 y2 z2 lo2 nb2 => And.intro rfl (And.intro rfl ?h1011)⟩))))))))))))))))))⟩))))))))))))))))))))))))))))))))))⟩)))))))))))))))))))))))))))))))))))))))))
      case h1001 =>
        exact sc__law_times.nd
      case h1002 =>
        first | exact cm (by walk_at "bd") (by walk_at "bd") (by decide) | exact cm (n := 1800) (m := 1) (by walk_at "bd") (by first | exact one1 | exact zer1) (by decide)
      case h1003 =>
        exact sc__law_times.nd
      case h1004 =>
        first | exact cm (by walk_at "bd") (by walk_at "bd") (by decide) | exact cm (n := 1800) (m := 1) (by walk_at "bd") (by first | exact one1 | exact zer1) (by decide)
      case h1005 =>
        first | exact cm (by walk_at "bd") (by walk_at "bd") (by decide) | exact cm (n := 1800) (m := 1) (by walk_at "bd") (by first | exact one1 | exact zer1) (by decide)
      case h1006 =>
        first | exact cm (by walk_at "bd") (by walk_at "bd") (by decide) | exact cm (n := 1800) (m := 1) (by walk_at "bd") (by first | exact one1 | exact zer1) (by decide)
      case h1007 =>
        first | exact cm (by walk_at "bd") (by walk_at "bd") (by decide) | exact cm (n := 1800) (m := 1) (by walk_at "bd") (by first | exact one1 | exact zer1) (by decide)
      case h1008 =>
        first | exact cm (by walk_at "bd") (by walk_at "bd") (by decide) | exact cm (n := 1800) (m := 1) (by walk_at "bd") (by first | exact one1 | exact zer1) (by decide)
      case h1009 =>
        first | exact cm (by walk_at "bd") (by walk_at "bd") (by decide) | exact cm (n := 1800) (m := 1) (by walk_at "bd") (by first | exact one1 | exact zer1) (by decide)
      case h1010 =>
        first
          | exact ⟨nb_eq (a' := (mul 2 (a, b) (c, e)).1) (b' := (mul 2 (a, b) (c, e)).2) ⟨hpq, hm2.1.mono (by decide), hm2.2.mono (by decide), hnq⟩ tA2 tB2, by decide⟩
          | exact ⟨nb_eq (a' := (mul 3 (a, b) (c, e)).1) (b' := (mul 3 (a, b) (c, e)).2) ⟨hpq, hm3.1.mono (by decide), hm3.2.mono (by decide), hnq⟩ tA3 tB3, by decide⟩
          | exact ⟨nb_eq (a' := (mul 5 (a, b) (c, e)).1) (b' := (mul 5 (a, b) (c, e)).2) ⟨hpq, hm5.1.mono (by decide), hm5.2.mono (by decide), hnq⟩ tA5 tB5, by decide⟩
      case h1011 =>
        first
          | exact hG _ _ _ (lo_eq lo1 tA2 tB2) nb1
          | exact hG _ _ _ (lo_eq lo1 tA3 tB3) nb1
          | exact hG _ _ _ (lo_eq lo1 tA5 tB5) nb1
          | exact hG _ _ _ (lo_eq lo2 tA2 tB2) nb2
          | exact hG _ _ _ (lo_eq lo2 tA3 tB3) nb2
          | exact hG _ _ _ (lo_eq lo2 tA5 tB5) nb2
          | exact hG _ _ _ (lo_eq lo3 tA2 tB2) nb3
          | exact hG _ _ _ (lo_eq lo3 tA3 tB3) nb3
          | exact hG _ _ _ (lo_eq lo3 tA5 tB5) nb3
          | exact hG _ _ _ (lo_eq lo4 tA2 tB2) nb4
          | exact hG _ _ _ (lo_eq lo4 tA3 tB3) nb4
          | exact hG _ _ _ (lo_eq lo4 tA5 tB5) nb4
          | exact hG _ _ _ (lo_eq lo5 tA2 tB2) nb5
          | exact hG _ _ _ (lo_eq lo5 tA3 tB3) nb5
          | exact hG _ _ _ (lo_eq lo5 tA5 tB5) nb5
          | exact hG _ _ _ (lo_eq lo6 tA2 tB2) nb6
          | exact hG _ _ _ (lo_eq lo6 tA3 tB3) nb6
          | exact hG _ _ _ (lo_eq lo6 tA5 tB5) nb6
    ·
      have ha := h1.a
      have hb := h1.b
      have hn := h1.n
      have hc := h2.a
      have he := h2.b
      have hq := h2.n
      have hm2 := mul_b (k := 2) (p := (a, b)) (q := (c, e)) (n := 900) (m := 900) (.inl rfl) ⟨ha, hb⟩ ⟨hc, he⟩
      have hm3 := mul_b (k := 3) (p := (a, b)) (q := (c, e)) (n := 900) (m := 900) (.inr (.inl rfl)) ⟨ha, hb⟩ ⟨hc, he⟩
      have hm5 := mul_b (k := 5) (p := (a, b)) (q := (c, e)) (n := 900) (m := 900) (.inr (.inr rfl)) ⟨ha, hb⟩ ⟨hc, he⟩
      have hnq : Bd 1805 (n * q) := (hn.mul hq).mono (by decide)
      have hpq := Int.mul_pos h1.p h2.p
      have one1 : Bd 1 (1 : Int) := by show Int.natAbs 1 < 2 ^ 1; decide
      have zer1 : Bd 1 (0 : Int) := by show Int.natAbs 0 < 2 ^ 1; decide
      refine (as_asg (i := 3) ?h2001 (c_mul (c_ixTn (nm 1 rfl (c_int (And.intro (by decide) (c_ixTn (nm 2 rfl (c_int (And.intro (by decide) (And.intro ?h2002 (as_par (i := 4) (j := 5) ?h2003 rfl (ca_cons (c_add (c_mul (c_ixTn (nm 1 rfl (c_int (And.intro (by decide) (c_ixTn (nm 2 rfl (c_int (And.intro (by decide) (And.intro ?h2004 (c_mul (nm 3 rfl (c_ixL (c_ofN (n_disp (ca_cons (c_int (ca_cons (nm 0 rfl (ca_nil (And.intro (And.intro rfl (Nat.le_of_ble_eq_true rfl)) (c_intB m_int (ca_cons (c_lt (nm 0 rfl (c_int (ca_nil ⟨0, _, rfl, rfl, (And.intro ?h2005 (ca_cons (c_add (c_add (c_mul (c_ixTn (nm 1 rfl (c_int (And.intro (by decide) (c_ixTn (nm 2 rfl (c_int (And.intro (by decide) (And.intro ?h2006 (c_mul (c_ixTn (nm 1 rfl (c_int (And.intro (by decide) (c_ixTn (nm 2 rfl (c_int (And.intro (by decide) (And.intro ?h2007 (c_mul (nm 3 rfl (c_intB m_int (ca_cons (c_eqI (nm 0 rfl (c_int (ca_nil (And.intro ?h2008 (ca_nil ⟨_, _, rfl, (as_ret hQ (c_call c__law_form (hr.mono (by decide)) (ca_cons (nm 4 rfl (ca_cons (nm 5 rfl (ca_cons (c_mul (c_ixTn (nm 1 rfl (c_int (And.intro (by decide) (c_ixTn (nm 2 rfl (c_int (And.intro (by decide) (And.intro ?h2009 (ca_nil ⟨_, _, _, 1805, rfl, ?h2010, fun x3 y3 z3 lo3 nb3 => And.intro rfl (And.intro rfl ?h2011)⟩))))))))))))))))))⟩))))))))))))))))))))))))))))))))))⟩)))))))))))))))))))))))))))))))))))))))))
      case h2001 =>
        exact sc__law_times.nd
      case h2002 =>
        first | exact cm (by walk_at "bd") (by walk_at "bd") (by decide) | exact cm (n := 1800) (m := 1) (by walk_at "bd") (by first | exact one1 | exact zer1) (by decide)
      case h2003 =>
        exact sc__law_times.nd
      case h2004 =>
        first | exact cm (by walk_at "bd") (by walk_at "bd") (by decide) | exact cm (n := 1800) (m := 1) (by walk_at "bd") (by first | exact one1 | exact zer1) (by decide)
      case h2005 =>
        first | exact cm (by walk_at "bd") (by walk_at "bd") (by decide) | exact cm (n := 1800) (m := 1) (by walk_at "bd") (by first | exact one1 | exact zer1) (by decide)
      case h2006 =>
        first | exact cm (by walk_at "bd") (by walk_at "bd") (by decide) | exact cm (n := 1800) (m := 1) (by walk_at "bd") (by first | exact one1 | exact zer1) (by decide)
      case h2007 =>
        first | exact cm (by walk_at "bd") (by walk_at "bd") (by decide) | exact cm (n := 1800) (m := 1) (by walk_at "bd") (by first | exact one1 | exact zer1) (by decide)
      case h2008 =>
        first | exact cm (by walk_at "bd") (by walk_at "bd") (by decide) | exact cm (n := 1800) (m := 1) (by walk_at "bd") (by first | exact one1 | exact zer1) (by decide)
      case h2009 =>
        first | exact cm (by walk_at "bd") (by walk_at "bd") (by decide) | exact cm (n := 1800) (m := 1) (by walk_at "bd") (by first | exact one1 | exact zer1) (by decide)
      case h2010 =>
        first
          | exact ⟨nb_eq (a' := (mul 2 (a, b) (c, e)).1) (b' := (mul 2 (a, b) (c, e)).2) ⟨hpq, hm2.1.mono (by decide), hm2.2.mono (by decide), hnq⟩ tA2 tB2, by decide⟩
          | exact ⟨nb_eq (a' := (mul 3 (a, b) (c, e)).1) (b' := (mul 3 (a, b) (c, e)).2) ⟨hpq, hm3.1.mono (by decide), hm3.2.mono (by decide), hnq⟩ tA3 tB3, by decide⟩
          | exact ⟨nb_eq (a' := (mul 5 (a, b) (c, e)).1) (b' := (mul 5 (a, b) (c, e)).2) ⟨hpq, hm5.1.mono (by decide), hm5.2.mono (by decide), hnq⟩ tA5 tB5, by decide⟩
      case h2011 =>
        first
          | exact hG _ _ _ (lo_eq lo1 tA2 tB2) nb1
          | exact hG _ _ _ (lo_eq lo1 tA3 tB3) nb1
          | exact hG _ _ _ (lo_eq lo1 tA5 tB5) nb1
          | exact hG _ _ _ (lo_eq lo2 tA2 tB2) nb2
          | exact hG _ _ _ (lo_eq lo2 tA3 tB3) nb2
          | exact hG _ _ _ (lo_eq lo2 tA5 tB5) nb2
          | exact hG _ _ _ (lo_eq lo3 tA2 tB2) nb3
          | exact hG _ _ _ (lo_eq lo3 tA3 tB3) nb3
          | exact hG _ _ _ (lo_eq lo3 tA5 tB5) nb3
          | exact hG _ _ _ (lo_eq lo4 tA2 tB2) nb4
          | exact hG _ _ _ (lo_eq lo4 tA3 tB3) nb4
          | exact hG _ _ _ (lo_eq lo4 tA5 tB5) nb4
          | exact hG _ _ _ (lo_eq lo5 tA2 tB2) nb5
          | exact hG _ _ _ (lo_eq lo5 tA3 tB3) nb5
          | exact hG _ _ _ (lo_eq lo5 tA5 tB5) nb5
          | exact hG _ _ _ (lo_eq lo6 tA2 tB2) nb6
          | exact hG _ _ _ (lo_eq lo6 tA3 tB3) nb6
          | exact hG _ _ _ (lo_eq lo6 tA5 tB5) nb6

/-! ### _law_is_member -/
abbrev s__law_is_member : Stmt := topS 61
theorem sc__law_is_member : FnScope ["row", "z", "kind", "low", "high", "own"] ["row", "z"] (defScope s__law_is_member) := ⟨rfl, rfl, rfl, by decide +kernel, rfl, by decide +kernel, by decide +kernel⟩
def F__law_is_member : FP := fun ds Q => ∃ k a b n c e u q, ds = [rwD k a b n c e u, pD q] ∧ (Rw k a b n c e u ∧ B2 1000 q) ∧ Q (.bl (decide (inS k q a b n c e u)))
theorem ok__law_is_member {f : Addr} {fd : FuncData} (Fn : Fun K "_law_is_member" "_law_is_member" s__law_is_member f fd) (c__law_mate : Cl P w K mg base 1 "_law_mate" ["kind", "p"] (spP K F__law_mate)) (c__law_under : Cl P w K mg base 4 "_law_under" ["kind", "p", "q"] (spP K F__law_under)) : FnOk P w K mg base CX0 5 f fd ["row", "z"] (spP K F__law_is_member) := by
  refine fn_P Fn sc__law_is_member (fun ds G h => ?_) (fun cdv A outer s H Q E ds G hr hF hQ => ?_)
  · obtain ⟨k, a, b, n, c, e, u, q, rfl, ⟨hr0, hq⟩, hG⟩ := h
    rfl
  · obtain ⟨k, a, b, n, c, e, u, q, rfl, ⟨hr0, hq⟩, hG⟩ := hF
    have hk := hr0.kd
    obtain ⟨hm1, hm2⟩ := mate_b (k := k) hq
    have hmn : Nb 1500 (mate k q).1 (mate k q).2 1 := ⟨by decide, hm1.mono (by decide), hm2.mono (by decide), by show Int.natAbs 1 < 2 ^ 1500; decide⟩
    refine (as_unp3 (i := 2) (j := 3) (l := 4) ?h1 rfl (nm 0 rfl ⟨_, _, _, rfl, (as_asg (i := 5) ?h2 (c_call c__law_mate (hr.mono (by decide)) (ca_cons (nm 2 rfl (ca_cons (c_tup (ca_cons (c_ixTn (nm 1 rfl (c_int (And.intro (by decide) (ca_cons (c_ixTn (nm 1 rfl (c_int (And.intro (by decide) (ca_cons (c_int (ca_nil (And.intro (And.intro rfl (Nat.le_of_ble_eq_true rfl)) (ca_nil ⟨_, q.1, q.2, _, rfl, And.intro rfl (as_ret hQ (c_andB (c_not (c_call c__law_under (hr.mono (by decide)) (ca_cons (nm 2 rfl (ca_cons (nm 5 rfl (ca_cons (nm 3 rfl (ca_nil ⟨_, _, _, _, _, _, _, rfl, ?h3, And.intro rfl (And.intro (fun b1 => (c_one (c_call c__law_under (hr.mono (by decide)) (ca_cons (nm 2 rfl (ca_cons (nm 5 rfl (ca_cons (nm 4 rfl (ca_nil ⟨_, _, _, _, _, _, _, rfl, ?h4, And.intro rfl (And.intro rfl ?h5)⟩)))))))))) (fun b2 => (And.intro rfl ?h6)))⟩)))))))))))⟩)))))))))))))))))))))⟩))
    case h1 =>
      exact sc__law_is_member.nd
    case h2 =>
      exact sc__law_is_member.nd
    case h3 =>
      first | exact ⟨hk, hmn, hr0.lb.mono (by decide)⟩ | exact ⟨hk, hmn, hr0.hb.mono (by decide)⟩
    case h4 =>
      first | exact ⟨hk, hmn, hr0.lb.mono (by decide)⟩ | exact ⟨hk, hmn, hr0.hb.mono (by decide)⟩
    case h5 =>
      first
        | (rw [show decide (inS k q a b n c e u) = decide (lsD k ((mate k q).1 * u - c * 1) ((mate k q).2 * u - e * 1) < 0) from decide_eq_decide.mpr ((inS_is hk).trans ⟨fun z => z.2, fun z => ⟨by simpa using b1, z⟩⟩)] at hG
           exact hG)
        | (rw [show decide (inS k q a b n c e u) = false from decide_eq_false (fun z => by
             have h := ((inS_is hk).mp z).1
             have b3 : (!decide (lsD k ((mate k q).1 * n - a * 1) ((mate k q).2 * n - b * 1) < 0)) = false := b2
             simp only [Bool.not_eq_false', decide_eq_true_eq] at b3
             exact h b3)] at hG
           exact hG)
    case h6 =>
      first
        | (rw [show decide (inS k q a b n c e u) = decide (lsD k ((mate k q).1 * u - c * 1) ((mate k q).2 * u - e * 1) < 0) from decide_eq_decide.mpr ((inS_is hk).trans ⟨fun z => z.2, fun z => ⟨by simpa using b1, z⟩⟩)] at hG
           exact hG)
        | (rw [show decide (inS k q a b n c e u) = false from decide_eq_false (fun z => by
             have h := ((inS_is hk).mp z).1
             have b3 : (!decide (lsD k ((mate k q).1 * n - a * 1) ((mate k q).2 * n - b * 1) < 0)) = false := b2
             simp only [Bool.not_eq_false', decide_eq_true_eq] at b3
             exact h b3)] at hG
           exact hG)

end
end Y37

set_option Elab.async false
set_option linter.all false
set_option maxRecDepth 100000
set_option maxHeartbeats 8000000
namespace Y37
open PySem PySem.Spec PyProof.Rows L2 Evl Wz
open Y02 (Kd Nm psD sgP flQ flA flN rtF g3 sg sq_nn lsD)
open Y75 (Z2 mul mate add sub B2 LO mul_b mate_b B2.mono)
local macro_rules | `(tactic| walk_at "bd") => `(tactic| (repeat (first | assumption | apply Bd.mul | apply Bd.add | apply Bd.sub | apply Bd.neg | exact Bd.z | exact Bd.of _)))
local macro_rules | `(tactic| walk_at "bm") => `(tactic| (first | assumption | exact Bd.mono (by walk_at "bd") (by decide)))
local macro_rules | `(tactic| walk_at "b2") => `(tactic| (repeat (first | assumption | apply And.intro | walk_at "bm" | decide | omega)))
def Dk (N : Nat) (s : List Dat) : Prop := ∃ f y c : Int, s = [.int f, .int y, .int c] ∧ 0 ≤ f ∧ 0 ≤ y ∧ y < 2 ^ 90 ∧ 0 ≤ c ∧ c ≤ (N : Int)
theorem Dk.nl {N : Nat} {s : List Dat} (h : Dk N s) : s.all noL = true := by
  obtain ⟨f, a, c, rfl, _⟩ := h
  rfl
theorem Dk.mono {N M : Nat} {s : List Dat} (h : Dk N s) (l : N ≤ M) : Dk M s := by
  obtain ⟨f, a, c, e, h1, h2, h3, h4, h5⟩ := h
  exact ⟨f, a, c, e, h1, h2, h3, h4, by omega⟩
theorem at_map {ns : List Int} {t : Nat} (h : ((t : Nat) : Int) < ((ns.map Dat.int).length : Int)) : (ns.map Dat.int)[t]? = some (.int (ns.getD t 0)) := by
  rw [List.length_map] at h
  have hl : t < ns.length := by omega
  rw [List.getElem?_map, List.getElem?_eq_getElem hl, List.getD_eq_getElem?_getD, List.getElem?_eq_getElem hl]
  rfl
theorem modp {x m : Int} (h : 0 < m) : 0 ≤ x % m ∧ x % m < m := ⟨Int.emod_nonneg _ (by omega), Int.emod_lt_of_pos _ h⟩
theorem divp {x m : Int} (h : 0 < m) (h0 : 0 ≤ x) : 0 ≤ x / m := Int.ediv_nonneg h0 (by omega)
theorem bd_le {n : Nat} {x : Int} (h0 : 0 ≤ x) (h1 : x < 2 ^ n) : Bd n x := by
  show x.natAbs < 2 ^ n
  have e : ((2 ^ n : Nat) : Int) = (2 : Int) ^ n := by simp
  omega
theorem m24 (x : Int) : 0 ≤ x % ((10 : Int) ^ (24 : Int).toNat + 7) ∧ x % ((10 : Int) ^ (24 : Int).toNat + 7) < 2 ^ 90 := by
  have h := modp (x := x) (m := (10 : Int) ^ (24 : Int).toNat + 7) (by decide)
  exact ⟨h.1, Int.lt_trans h.2 (by decide)⟩
theorem m25 (x : Int) : Bd 90 (x % ((10 : Int) ^ (25 : Int).toNat + 13)) := by
  have h := modp (x := x) (m := (10 : Int) ^ (25 : Int).toNat + 13) (by decide)
  exact bd_le h.1 (Int.lt_trans h.2 (by decide))
theorem p24 : (0 : Int) < (10 : Int) ^ (24 : Int).toNat + 7 := by decide
theorem p25 : (0 : Int) < (10 : Int) ^ (25 : Int).toNat + 13 := by decide
set_option exponentiation.threshold 1000000
section
variable {P : Program} {w : World} {K : PySem.W.Frag} {mg : Str → Option Value} {base : Heap}

/-! ### _law_well -/
abbrev s__law_well : Stmt := topS 46
theorem sc__law_well : FnScope ["script", "place", "cell"] ["script", "place"] (defScope s__law_well) := ⟨rfl, rfl, rfl, by decide +kernel, rfl, by decide +kernel, by decide +kernel⟩
def F__law_well : FN := fun ds Q => ∃ (ns : List Int) (t : Nat), ds = [.lst (ns.map Dat.int), .int (t : Int)] ∧ ∀ s, Dk 0 s → Q s
theorem ok__law_well {f : Addr} {fd : FuncData} (Fn : Fun K "_law_well" "_law_well" s__law_well f fd) (m_len : mg "len" = none) (m_max : mg "max" = none) (m_abs : mg "abs" = none) (m_int : mg "int" = none) : FnOk P w K mg base CX0 1 f fd ["script", "place"] (spN K F__law_well) := by
  refine fn_N Fn sc__law_well (fun ds G h => ?_) (fun cdv A outer s H Q E ds G hr hF hQ => ?_)
  · obtain ⟨ns, t, rfl, hG⟩ := h
    rfl
  · obtain ⟨ns, t, rfl, hG⟩ := hF
    refine (as_asg (i := 2) ?h1 (c_if (t_lt (nm 1 rfl (c_lenL m_len (ca_cons (nm 0 rfl (ca_nil (And.intro (fun b1 => (c_ixL (nm 0 rfl (nm 1 rfl ⟨t, .int (ns.getD t 0), rfl, ?h2, (as_retN hQ (n_disp (ca_cons (c_max rfl m_max (ca_cons (c_int (ca_cons (c_sub (c_abs m_abs (ca_cons (nm 2 rfl (ca_nil (c_powW (c_int (c_int (And.intro ?h3 (ca_nil (ca_cons (c_mod (c_intI m_int (ca_cons (c_add (c_add (c_mulS (nm 2 rfl (c_int (And.intro (.inr (And.intro (by decide) (by decide))) (c_mulS (nm 1 rfl (c_int (And.intro (.inr (And.intro (by decide) (by decide))) (c_int (ca_nil (c_add (c_powW (c_int (c_int (And.intro ?h4 (c_int (And.intro ?h5 (ca_cons (c_int (ca_nil (And.intro (And.intro rfl (Nat.le_of_ble_eq_true rfl)) ?h6))))))))))))))))))))))))))))))))))))))))))))⟩)))) (fun b1 => (c_add (c_mulS (nm 1 rfl (c_int (And.intro (.inr (And.intro (by decide) (by decide))) (c_mulS (c_lenL m_len (ca_cons (nm 0 rfl (ca_nil (c_int (And.intro (.inr (And.intro (by decide) (by decide))) (as_retN hQ (n_disp (ca_cons (c_max rfl m_max (ca_cons (c_int (ca_cons (c_sub (c_abs m_abs (ca_cons (nm 2 rfl (ca_nil (c_powW (c_int (c_int (And.intro ?h7 (ca_nil (ca_cons (c_mod (c_intI m_int (ca_cons (c_add (c_add (c_mulS (nm 2 rfl (c_int (And.intro (.inr (And.intro (by decide) (by decide))) (c_mulS (nm 1 rfl (c_int (And.intro (.inr (And.intro (by decide) (by decide))) (c_int (ca_nil (c_add (c_powW (c_int (c_int (And.intro ?h8 (c_int (And.intro ?h9 (ca_cons (c_int (ca_nil (And.intro (And.intro rfl (Nat.le_of_ble_eq_true rfl)) ?h10))))))))))))))))))))))))))))))))))))))))))))))))))))))))))))))))))
    case h1 =>
      exact sc__law_well.nd
    case h2 =>
      exact at_map (by assumption)
    case h3 =>
      exact cpw (by first | omega | decide) (Bd.of _) (by decide)
    case h4 =>
      exact cpw (by first | omega | decide) (Bd.of _) (by decide)
    case h5 =>
      exact p24
    case h6 =>
      exact hG _ ⟨_, _, _, rfl, by split <;> omega, (m24 _).1, (m24 _).2, by decide, by decide⟩
    case h7 =>
      exact cpw (by first | omega | decide) (Bd.of _) (by decide)
    case h8 =>
      exact cpw (by first | omega | decide) (Bd.of _) (by decide)
    case h9 =>
      exact p24
    case h10 =>
      exact hG _ ⟨_, _, _, rfl, by split <;> omega, (m24 _).1, (m24 _).2, by decide, by decide⟩

/-! ### _law_dip -/
abbrev s__law_dip : Stmt := topS 47
theorem sc__law_dip : FnScope ["well", "many", "numeral", "mixed"] ["well", "many"] (defScope s__law_dip) := ⟨rfl, rfl, rfl, by decide +kernel, rfl, by decide +kernel, by decide +kernel⟩
def F__law_dip : FD := fun ds c Q => ∃ (m : Int) (N : Nat), ds = [.int m] ∧ (0 < m ∧ Bd 900 m ∧ Dk N c ∧ N ≤ 1000000) ∧ ∀ v c', 0 ≤ v → v < m → Dk (N + 1) c' → Q (.int v) c'
theorem ok__law_dip {f : Addr} {fd : FuncData} (Fn : Fun K "_law_dip" "_law_dip" s__law_dip f fd) (m_int : mg "int" = none) : FnOk P w K mg base CX0 1 f fd ["well", "many"] (spD K F__law_dip) := by
  refine fn_D Fn sc__law_dip (fun ds c G h => ?_) (fun cdv A outer s H Q E pa ds c G hr hF hQ => ?_)
  · obtain ⟨m, N, rfl, ⟨hm, hbm, ⟨f0, y0, c0, rfl, hf, hy0, hy1, hc0, hc1⟩, hN⟩, hG⟩ := h
    rfl
  · obtain ⟨m, N, rfl, ⟨hm, hbm, ⟨f0, y0, c0, rfl, hf, hy0, hy1, hc0, hc1⟩, hN⟩, hG⟩ := hF
    have hby : Bd 90 y0 := bd_le hy0 hy1
    have hbc : Bd 21 (c0 + 1) := bd_le (by omega) (by omega)
    refine (as_ifn (t_gt (c_ixLn (nm 0 rfl (c_int (And.intro (by decide) (c_int (And.intro (fun b1 => (as_asg (i := 2) ?h1 (c_mod (c_intI m_int (ca_cons (c_ixLn (nm 0 rfl (c_int (And.intro (by decide) (ca_nil (nm 1 rfl (And.intro ?h2 (as_cell (c_fdiv (c_ixLn (nm 0 rfl (c_int (And.intro (by decide) (nm 1 rfl (And.intro ?h3 (nm 0 rfl (c_int (And.intro rfl ⟨_, 0, _, rfl, rfl, rfl, ?h4, (as_ret hQ (nm 2 rfl (And.intro rfl ?h5)))⟩))))))))))))))))))))))) (fun b1 => (as_cell (c_add (c_ixLn (nm 0 rfl (c_int (And.intro (by decide) (c_int (nm 0 rfl (c_int (And.intro rfl ⟨_, 2, _, rfl, rfl, rfl, ?h6, (as_asg (i := 3) ?h7 (c_mod (c_powW (c_intI m_int (ca_cons (c_add (c_ixLn (nm 0 rfl (c_int (And.intro (by decide) (c_mulS (c_int (c_ixLn (nm 0 rfl (c_int (And.intro (by decide) (And.intro (.inl (And.intro (by decide) (by decide))) (ca_nil (c_int (And.intro ?h8 (c_add (c_powW (c_int (c_int (And.intro ?h9 (c_int (And.intro ?h10 (as_asg (i := 3) ?h11 (c_mod (c_powW (c_intI m_int (ca_cons (c_add (nm 3 rfl (c_mulS (c_int (c_ixLn (nm 0 rfl (c_int (And.intro (by decide) (And.intro (.inl (And.intro (by decide) (by decide))) (ca_nil (c_int (And.intro ?h12 (c_add (c_powW (c_int (c_int (And.intro ?h13 (c_int (And.intro ?h14 (as_ret hQ (c_mod (c_intI m_int (ca_cons (c_fdiv (nm 3 rfl (c_int (And.intro ?h15 (ca_nil (nm 1 rfl (And.intro ?h16 (And.intro rfl ?h17)))))))))))))))))))))))))))))))))))))))))))))))))))))))))))))))⟩)))))))))))))))))))
    case h1 =>
      exact sc__law_dip.nd
    case h2 =>
      first | exact hm | exact p24 | exact p25
    case h3 =>
      first | exact cdw hm hbm (by decide) | exact cdw (by decide) (Bd.of _) (by decide)
    case h4 =>
      exact Nat.le_of_ble_eq_true rfl
    case h5 =>
      first
        | exact ⟨_, rfl, hG _ _ (modp hm).1 (modp hm).2 ⟨_, _, _, rfl, divp hm (by omega), hy0, hy1, hc0, by omega⟩⟩
        | exact ⟨_, rfl, hG _ _ (modp hm).1 (modp hm).2 ⟨_, _, _, rfl, by omega, hy0, hy1, by omega, by omega⟩⟩
    case h6 =>
      exact Nat.le_of_ble_eq_true rfl
    case h7 =>
      exact sc__law_dip.nd
    case h8 =>
      first
        | exact cpw (by first | omega | decide) (Bd.of _) (by decide)
        | exact cpw (by first | omega | decide) (hby.add ((Bd.of (1000003 : Int)).mul hbc)) (by decide)
        | exact cpw (by first | omega | decide) ((m25 _).add ((Bd.of (77347 : Int)).mul hbc)) (by decide)
    case h9 =>
      first
        | exact cpw (by first | omega | decide) (Bd.of _) (by decide)
        | exact cpw (by first | omega | decide) (hby.add ((Bd.of (1000003 : Int)).mul hbc)) (by decide)
        | exact cpw (by first | omega | decide) ((m25 _).add ((Bd.of (77347 : Int)).mul hbc)) (by decide)
    case h10 =>
      first | exact hm | exact p24 | exact p25
    case h11 =>
      exact sc__law_dip.nd
    case h12 =>
      first
        | exact cpw (by first | omega | decide) (Bd.of _) (by decide)
        | exact cpw (by first | omega | decide) (hby.add ((Bd.of (1000003 : Int)).mul hbc)) (by decide)
        | exact cpw (by first | omega | decide) ((m25 _).add ((Bd.of (77347 : Int)).mul hbc)) (by decide)
    case h13 =>
      first
        | exact cpw (by first | omega | decide) (Bd.of _) (by decide)
        | exact cpw (by first | omega | decide) (hby.add ((Bd.of (1000003 : Int)).mul hbc)) (by decide)
        | exact cpw (by first | omega | decide) ((m25 _).add ((Bd.of (77347 : Int)).mul hbc)) (by decide)
    case h14 =>
      first | exact hm | exact p24 | exact p25
    case h15 =>
      first | exact cdw hm hbm (by decide) | exact cdw (by decide) (Bd.of _) (by decide)
    case h16 =>
      first | exact hm | exact p24 | exact p25
    case h17 =>
      first
        | exact ⟨_, rfl, hG _ _ (modp hm).1 (modp hm).2 ⟨_, _, _, rfl, divp hm (by omega), hy0, hy1, hc0, by omega⟩⟩
        | exact ⟨_, rfl, hG _ _ (modp hm).1 (modp hm).2 ⟨_, _, _, rfl, by omega, hy0, hy1, by omega, by omega⟩⟩

end
end Y37

set_option Elab.async false
set_option linter.all false
set_option maxRecDepth 100000
set_option maxHeartbeats 8000000
namespace Y37
open PySem PySem.Spec PyProof.Rows L2 Evl Wz
open Y02 (Kd Nm psD sgP flQ flA flN rtF g3 sg sq_nn lsD)
open Y75 (Z2 mul mate add sub B2 LO mul_b mate_b B2.mono)
local macro_rules | `(tactic| walk_at "bd") => `(tactic| (repeat (first | assumption | apply Bd.mul | apply Bd.add | apply Bd.sub | apply Bd.neg | exact Bd.z | exact Bd.of _)))
local macro_rules | `(tactic| walk_at "bm") => `(tactic| (first | assumption | exact Bd.mono (by walk_at "bd") (by decide)))
local macro_rules | `(tactic| walk_at "b2") => `(tactic| (repeat (first | assumption | apply And.intro | walk_at "bm" | decide | omega)))

def Sh : Nat → Dat → Prop
  | 0, d => (∃ i, d = .bl i) ∨ ∃ i, d = .int i
  | n + 1, d => ((∃ i, d = .bl i) ∨ ∃ i, d = .int i) ∨ ∃ xs : List Dat, (d = .tup xs ∨ d = .lst xs) ∧ xs.length ≤ 10000 ∧ ∀ (i : Nat) (e : Dat), xs[i]? = some e → Sh n e
def F__law_same (n : Nat) : FP := fun ds Q => ∃ d, ds = [d, d] ∧ Sh n d ∧ Q (.bl true)
theorem rd_sh {n : Nat} {d : Dat} {k : Cs} (h : Sh n d) : rd k d = d := by
  cases n with
  | zero =>
    rw [Sh] at h
    rcases h with ⟨i, rfl⟩ | ⟨i, rfl⟩ <;> rfl
  | succ n =>
    rw [Sh] at h
    rcases h with (⟨i, rfl⟩ | ⟨i, rfl⟩) | ⟨xs, rfl | rfl, _⟩ <;> rfl
theorem eqv_self_bl (b : Bool) : PyData.eqv (pd (.bl b)) (pd (.bl b)) = true := by cases b <;> rfl
section
variable {P : Program} {w : World} {K : PySem.W.Frag} {mg : Str → Option Value} {base : Heap}

/-! ### _law_same -/
abbrev s__law_same : Stmt := topS 48
theorem sc__law_same : FnScope ["told", "due", "kind", "spot"] ["told", "due"] (defScope s__law_same) := ⟨rfl, rfl, rfl, by decide +kernel, rfl, by decide +kernel, by decide +kernel⟩
theorem al_flat {f : Addr} {cdv : Value} {A : Around} {outer : List Env} {s : Shared} {H : Hp} {Q : VK} {E : XK} {d : Dat} {G : Dat → Prop} {j : Nat} (m_isinstance : mg "isinstance" = none) (m_bool : mg "bool" = none) (m_int : mg "int" = none) (m_str : mg "str" = none) (m_tuple : mg "tuple" = none) (m_list : mg "list" = none) (m_len : mg "len" = none) (m_range : mg "range" = none) (hr : Room j (A.deeper (envOfC "_law_same" (defScope s__law_same) s.heap.objs.size f cdv))) (hd : Sh 0 d) (hG : G (.bl true)) (hQ : RetC K [] H Q (fun d _ => G d)) :
    AS (cxOf CX0 P w K mg base ["told", "due", "kind", "spot"] "_law_same" (defScope s__law_same) f cdv A outer s H E).nox [] [] (defBody s__law_same) { nx := fun _ H' => Q .non H', rt := Q } [some d, some d, none, none] [] H := by
  unfold Sh at hd
  rcases hd with ⟨i, rfl⟩ | ⟨i, rfl⟩
  ·
    refine (as_ifn (t_isN (nm 1 rfl (as_ifn (t_val (c_isi (U := "bool") m_isinstance (ca_cons (nm 1 rfl (ca_cons (c_ty (T := "bool") m_bool (by decide +kernel) (ca_nil ⟨rfl, _, true, rfl, (by decide +kernel), (as_ret hQ (c_and (c_isi (U := "bool") m_isinstance (ca_cons (nm 0 rfl (ca_cons (c_ty (T := "bool") m_bool (by decide +kernel) (ca_nil ⟨rfl, _, true, rfl, (by decide +kernel), (c_one (c_eqD hr.units (nm 0 rfl (nm 1 rfl (And.intro ?h101 (And.intro rfl ?h102))))))⟩))))))))⟩)))))))))))
    case h101 =>
      exact ⟨⟨rfl, rfl⟩, rfl, rfl⟩
    case h102 =>
      first
        | exact hG
        | (rw [eqv_self_bl]; exact hG)
        | (simp [pd, pd.pds, PyData.eqv, PyData.eqvAll]; exact hG)
        | (simpa [pd, pd.pds, PyData.eqv, PyData.eqvAll] using hG)
  ·
    refine (as_ifn (t_isN (nm 1 rfl (as_ifn (t_val (c_isi (U := "bool") m_isinstance (ca_cons (nm 1 rfl (ca_cons (c_ty (T := "bool") m_bool (by decide +kernel) (ca_nil ⟨rfl, _, false, rfl, (by decide +kernel), (as_ifn (t_w (w_or (t_val (c_isi (U := "tuple") m_isinstance (ca_cons (nm 1 rfl (ca_cons (c_ty (T := "tuple") m_tuple (by decide +kernel) (ca_nil ⟨rfl, _, false, rfl, (by decide +kernel), (w_or1 (t_val (c_isi (U := "list") m_isinstance (ca_cons (nm 1 rfl (ca_cons (c_ty (T := "list") m_list (by decide +kernel) (ca_nil ⟨rfl, _, false, rfl, (by decide +kernel), (as_ifn (t_val (c_isi (U := "str") m_isinstance (ca_cons (nm 1 rfl (ca_cons (c_ty (T := "str") m_str (by decide +kernel) (ca_nil ⟨rfl, _, false, rfl, (by decide +kernel), (as_ret hQ (c_and (c_isi (U := "int") m_isinstance (ca_cons (nm 0 rfl (ca_cons (c_ty (T := "int") m_int (by decide +kernel) (ca_nil ⟨rfl, _, true, rfl, (by decide +kernel), (c_and (c_not (c_isi (U := "bool") m_isinstance (ca_cons (nm 0 rfl (ca_cons (c_ty (T := "bool") m_bool (by decide +kernel) (ca_nil ⟨rfl, _, false, rfl, (by decide +kernel), (c_one (c_eqD hr.units (nm 0 rfl (nm 1 rfl (And.intro ?h201 (And.intro rfl ?h202))))))⟩))))))))⟩))))))))⟩))))))))⟩))))))))⟩))))))))))⟩)))))))))))
    case h201 =>
      exact ⟨⟨rfl, rfl⟩, rfl, rfl⟩
    case h202 =>
      first
        | exact hG
        | (rw [eqv_self_bl]; exact hG)
        | (simp [pd, pd.pds, PyData.eqv, PyData.eqvAll]; exact hG)
        | (simpa [pd, pd.pds, PyData.eqv, PyData.eqvAll] using hG)
theorem ok__law_same {f : Addr} {fd : FuncData} (Fn : Fun K "_law_same" "_law_same" s__law_same f fd) (hm : mg "_law_same" = some (.ref f)) (hkp : PySem.W.keepIn K (.ref f) = true) (hb : Binds K fd ["told", "due"] []) (m_isinstance : mg "isinstance" = none) (m_bool : mg "bool" = none) (m_int : mg "int" = none) (m_str : mg "str" = none) (m_tuple : mg "tuple" = none) (m_list : mg "list" = none) (m_len : mg "len" = none) (m_range : mg "range" = none) : ∀ n : Nat, FnOk P w K mg base CX0 (n + 1) f fd ["told", "due"] (spP K (F__law_same n))
  | 0 => by
    refine fn_P Fn sc__law_same (fun ds G h => ?_) (fun cdv A outer s H Q E ds G hr hF hQ => ?_)
    · obtain ⟨d, rfl, _⟩ := h
      rfl
    · obtain ⟨d, rfl, hd, hG⟩ := hF
      exact al_flat m_isinstance m_bool m_int m_str m_tuple m_list m_len m_range hr hd hG hQ
  | n + 1 => by
    have c__law_same : Cl P w K mg base (n + 1) "_law_same" ["told", "due"] (spP K (F__law_same n)) := ⟨f, fd, hm, hkp, hb, ok__law_same Fn hm hkp hb m_isinstance m_bool m_int m_str m_tuple m_list m_len m_range n⟩
    refine fn_P Fn sc__law_same (fun ds G h => ?_) (fun cdv A outer s H Q E ds G hr hF hQ => ?_)
    · obtain ⟨d, rfl, _⟩ := h
      rfl
    · obtain ⟨d, rfl, hd, hG⟩ := hF
      rw [Sh] at hd
      rcases hd with hd | ⟨xs, hx, hl, hs⟩
      · exact al_flat m_isinstance m_bool m_int m_str m_tuple m_list m_len m_range hr hd hG hQ
      · rcases hx with rfl | rfl
        ·
          refine (as_ifn (t_isN (nm 1 rfl (as_ifn (t_val (c_isi (U := "bool") m_isinstance (ca_cons (nm 1 rfl (ca_cons (c_ty (T := "bool") m_bool (by decide +kernel) (ca_nil ⟨rfl, _, false, rfl, (by decide +kernel), (as_ifn (t_w (w_or (t_val (c_isi (U := "tuple") m_isinstance (ca_cons (nm 1 rfl (ca_cons (c_ty (T := "tuple") m_tuple (by decide +kernel) (ca_nil ⟨rfl, _, true, rfl, (by decide +kernel), (as_asg (i := 2) ?h301 (c_if (t_val (c_isi (U := "tuple") m_isinstance (ca_cons (nm 1 rfl (ca_cons (c_ty (T := "tuple") m_tuple (by decide +kernel) (ca_nil ⟨rfl, _, true, rfl, (by decide +kernel), (c_isi (U := "tuple") m_isinstance (ca_cons (nm 0 rfl (ca_cons (c_ty (T := "tuple") m_tuple (by decide +kernel) (ca_nil ⟨rfl, _, true, rfl, (by decide +kernel), (as_ifn (t_w (w_or (t_not (t_val (nm 2 rfl (w_or1 (t_neI (c_lenT m_len (ca_cons (nm 0 rfl (ca_nil (c_lenT m_len (ca_cons (nm 1 rfl (ca_nil (And.intro (fun h => absurd rfl h) (fun _ => (as_forR1 (i := 3) ?h302 rfl PassesOwn.never m_range (ca_cons (c_lenT m_len (ca_cons (nm 1 rfl (ca_nil (ca_nil ⟨_, (fun j es q => ∃ x, es = [some (.tup xs), some (.tup xs), some (.bl true), x] ∧ q = []), (fun _ _ => False), rfl, ?h307, ⟨_, rfl, rfl⟩, ⟨fun H10 e10 fr0 j d es q hj hd hw => ?h303, fun es q hw => ?h304, fun _ _ h => h.elim⟩⟩)))))))))))))))))))))))))⟩))))))⟩)))))))))⟩))))))))))⟩)))))))))))
          case h301 =>
            exact sc__law_same.nd
          case h302 =>
            exact sc__law_same.nd
          case h303 =>
            obtain ⟨x, rfl, rfl⟩ := hw
            cases hd
            have hl2 : j < xs.length := by omega
            obtain ⟨e, he⟩ : ∃ e, xs[j]? = some e := ⟨_, List.getElem?_eq_getElem hl2⟩
            refine (as_ifn (t_not (t_val (c_call c__law_same hr (ca_cons (c_ixT (nm 0 rfl (nm 3 rfl ⟨j, e, rfl, he, (ca_cons (c_ixT (nm 1 rfl (nm 3 rfl ⟨j, e, rfl, he, (ca_nil ⟨_, rfl, ?h305, And.intro rfl (as_end rfl ⟨_, rfl, rfl⟩)⟩)⟩))))⟩))))))))
            case h305 =>
              rw [rd_sh (hs _ _ he)]
              exact hs _ _ he
          case h304 =>
            obtain ⟨x, rfl, rfl⟩ := hw
            refine (as_ret hQ (c_bl (And.intro rfl ?h306)))
            case h306 =>
              exact hG
          case h307 =>
            omega
        ·
          refine (as_ifn (t_isN (nm 1 rfl (as_ifn (t_val (c_isi (U := "bool") m_isinstance (ca_cons (nm 1 rfl (ca_cons (c_ty (T := "bool") m_bool (by decide +kernel) (ca_nil ⟨rfl, _, false, rfl, (by decide +kernel), (as_ifn (t_w (w_or (t_val (c_isi (U := "tuple") m_isinstance (ca_cons (nm 1 rfl (ca_cons (c_ty (T := "tuple") m_tuple (by decide +kernel) (ca_nil ⟨rfl, _, false, rfl, (by decide +kernel), (w_or1 (t_val (c_isi (U := "list") m_isinstance (ca_cons (nm 1 rfl (ca_cons (c_ty (T := "list") m_list (by decide +kernel) (ca_nil ⟨rfl, _, true, rfl, (by decide +kernel), (as_asg (i := 2) ?h401 (c_if (t_val (c_isi (U := "tuple") m_isinstance (ca_cons (nm 1 rfl (ca_cons (c_ty (T := "tuple") m_tuple (by decide +kernel) (ca_nil ⟨rfl, _, false, rfl, (by decide +kernel), (c_isi (U := "list") m_isinstance (ca_cons (nm 0 rfl (ca_cons (c_ty (T := "list") m_list (by decide +kernel) (ca_nil ⟨rfl, _, true, rfl, (by decide +kernel), (as_ifn (t_w (w_or (t_not (t_val (nm 2 rfl (w_or1 (t_neI (c_lenL m_len (ca_cons (nm 0 rfl (ca_nil (c_lenL m_len (ca_cons (nm 1 rfl (ca_nil (And.intro (fun h => absurd rfl h) (fun _ => (as_forR1 (i := 3) ?h402 rfl PassesOwn.never m_range (ca_cons (c_lenL m_len (ca_cons (nm 1 rfl (ca_nil (ca_nil ⟨_, (fun j es q => ∃ x, es = [some (.lst xs), some (.lst xs), some (.bl true), x] ∧ q = []), (fun _ _ => False), rfl, ?h407, ⟨_, rfl, rfl⟩, ⟨fun H10 e10 fr0 j d es q hj hd hw => ?h403, fun es q hw => ?h404, fun _ _ h => h.elim⟩⟩)))))))))))))))))))))))))⟩))))))⟩)))))))))⟩))))))))⟩))))))))))⟩)))))))))))
          case h401 =>
            exact sc__law_same.nd
          case h402 =>
            exact sc__law_same.nd
          case h403 =>
            obtain ⟨x, rfl, rfl⟩ := hw
            cases hd
            have hl2 : j < xs.length := by omega
            obtain ⟨e, he⟩ : ∃ e, xs[j]? = some e := ⟨_, List.getElem?_eq_getElem hl2⟩
            refine (as_ifn (t_not (t_val (c_call c__law_same hr (ca_cons (c_ixL (nm 0 rfl (nm 3 rfl ⟨j, e, rfl, he, (ca_cons (c_ixL (nm 1 rfl (nm 3 rfl ⟨j, e, rfl, he, (ca_nil ⟨_, rfl, ?h405, And.intro rfl (as_end rfl ⟨_, rfl, rfl⟩)⟩)⟩))))⟩))))))))
            case h405 =>
              rw [rd_sh (hs _ _ he)]
              exact hs _ _ he
          case h404 =>
            obtain ⟨x, rfl, rfl⟩ := hw
            refine (as_ret hQ (c_bl (And.intro rfl ?h406)))
            case h406 =>
              exact hG
          case h407 =>
            omega

end
end Y37

set_option Elab.async false
set_option linter.all false
set_option maxRecDepth 100000
set_option maxHeartbeats 8000000
namespace Y37
open PySem PySem.Spec PyProof.Rows L2 Evl Wz
open Y02 (Kd Nm psD sgP flQ flA flN rtF g3 sg sq_nn lsD)
open Y75 (Z2 mul mate add sub B2 LO mul_b mate_b B2.mono)
local macro_rules | `(tactic| walk_at "bd") => `(tactic| (repeat (first | assumption | apply Bd.mul | apply Bd.add | apply Bd.sub | apply Bd.neg | exact Bd.z | exact Bd.of _)))
local macro_rules | `(tactic| walk_at "bm") => `(tactic| (first | assumption | exact Bd.mono (by walk_at "bd") (by decide)))
local macro_rules | `(tactic| walk_at "b2") => `(tactic| (repeat (first | assumption | apply And.intro | walk_at "bm" | decide | omega)))
theorem pt4 {k x y z : Int} {q : Z2} (hk : Kd k) (h : Nb 121 x y z) (hq : B2 3 q) : Kd k ∧ B2 4000 (x, y) ∧ B2 4000 q := ⟨hk, ⟨h.a.mono (by decide), h.b.mono (by decide)⟩, hq.mono (by decide)⟩
theorem wc4 {k x y z m : Int} {q : Z2} (hk : Kd k) (h : Nb 121 x y z) (hq : B2 3 q) (h0 : 0 < m) (hm : Bd 4 m) : Kd k ∧ Bd 4000 (mul k (x, y) q).1 ∧ Bd 4000 (mul k (x, y) q).2 ∧ Bd 4000 (z * m) ∧ 0 < z * m := by
  obtain ⟨t1, t2⟩ := mul_b hk (p := (x, y)) ⟨h.a, h.b⟩ hq
  exact ⟨hk, t1.mono (by decide), t2.mono (by decide), (h.n.mul hm).mono (by decide), Int.mul_pos h.p h0⟩
theorem fw_lo {k x y z N m : Int} {p q : Z2} (hk : Kd k) (hN : 0 < N) (hv : Vl N p x y z) (hz : 0 < z) (e : q = iW k) (em : m = nW k) (t : Int) : ceI k (mul k (x, y) q).1 (mul k (x, y) q).2 (z * m) ≤ t ↔ le k p (sc N (sc t (dW k))) := by
  subst e em
  exact (fw_ce hk hz).trans (hv.nle hk hN hz)
theorem fw_hi {k x y z N m : Int} {p q : Z2} (hk : Kd k) (hN : 0 < N) (hv : Vl N p x y z) (hz : 0 < z) (e : q = iW k) (em : m = nW k) (t : Int) : t ≤ flQ k (mul k (x, y) q).1 (mul k (x, y) q).2 (z * m) (rtI (k * (mul k (x, y) q).2 * (mul k (x, y) q).2)) ↔ le k (sc N (sc t (dW k))) p := by
  subst e em
  exact (fw_fl hk hz).trans (hv.nge hk hN hz)
set_option exponentiation.threshold 1000000
section
variable {P : Program} {w : World} {K : PySem.W.Frag} {mg : Str → Option Value} {base : Heap}

/-! ### _factors_of_w -/
abbrev s__factors_of_w : Stmt := topS 27
theorem sc__factors_of_w : FnScope ["kind", "span", "mates", "inverse", "n", "low", "high", "a", "b", "c", "d"] ["kind", "span", "mates"] (defScope s__factors_of_w) := ⟨rfl, rfl, rfl, by decide +kernel, rfl, by decide +kernel, by decide +kernel⟩
def F__factors_of_w : FP := fun ds Q => ∃ k a b n c e u a2 b2 n2 c2 e2 u2 N p0 p1 q0 q1, ds = [.int k, n2D a b n c e u, n2D a2 b2 n2 c2 e2 u2] ∧ (Kd k ∧ Nb 60 a b n ∧ Nb 60 c e u ∧ Nb 60 a2 b2 n2 ∧ Nb 60 c2 e2 u2 ∧ 0 < N ∧ Vl N p0 a b n ∧ Vl N p1 c e u ∧ Vl N q0 a2 b2 n2 ∧ Vl N q1 c2 e2 u2) ∧ ∀ lo hi, (∀ t, lo ≤ t ↔ le k (sub p0 q1) (sc N (sc t (dW k)))) → (∀ t, t ≤ hi ↔ le k (sc N (sc t (dW k))) (sub p1 q0)) → Q (.tup [.int lo, .int hi])
theorem ok__factors_of_w {f : Addr} {fd : FuncData} (Fn : Fun K "_factors_of_w" "_factors_of_w" s__factors_of_w f fd) (c_number_less : Cl P w K mg base 2 "number_less" ["p", "q"] (spP K F_number_less)) (c_pair_times : Cl P w K mg base 1 "pair_times" ["kind", "p", "q"] (spP K F_pair_times)) (c_whole_ceiling : Cl P w K mg base 2 "whole_ceiling" ["kind", "a", "b", "n"] (spP K F_whole_ceiling)) (c_whole_floor : Cl P w K mg base 1 "whole_floor" ["kind", "a", "b", "n"] (spP K F_whole_floor)) : FnOk P w K mg base CX0 3 f fd ["kind", "span", "mates"] (spP K F__factors_of_w) := by
  refine fn_P Fn sc__factors_of_w (fun ds G h => ?_) (fun cdv A outer s H Q E ds G hr hF hQ => ?_)
  · obtain ⟨k, a, b, n, c, e, u, a2, b2, n2, c2, e2, u2, N, p0, p1, q0, q1, rfl, ⟨hk, h1, h2, h3, h4, hN, V1, V2, V3, V4⟩, hG⟩ := h
    rfl
  · obtain ⟨k, a, b, n, c, e, u, a2, b2, n2, c2, e2, u2, N, p0, p1, q0, q1, rfl, ⟨hk, h1, h2, h3, h4, hN, V1, V2, V3, V4⟩, hG⟩ := hF
    have q5 : B2 3 ((-1, 2) : Z2) := by constructor <;> (show Int.natAbs _ < 2 ^ 3; decide)
    have q2 : B2 3 ((0, 1) : Z2) := by constructor <;> (show Int.natAbs _ < 2 ^ 3; decide)
    have fiv : Bd 4 (5 : Int) := by show Int.natAbs _ < 2 ^ 4; decide
    have twk : Bd 4 (2 * k) := by rcases hk with rfl | rfl | rfl <;> (show Int.natAbs _ < 2 ^ 4; decide)
    have twp : 0 < 2 * k := by rcases hk with rfl | rfl | rfl <;> decide
    have i5 : k = 5 → ((-1, 2) : Z2) = iW k := fun z => by rw [show iW k = _ from if_pos z]
    have i2 : ¬ k = 5 → ((0, 1) : Z2) = iW k := fun z => by rw [show iW k = _ from if_neg z]
    have n5 : k = 5 → (5 : Int) = nW k := fun z => by rw [show nW k = _ from if_pos z]
    have n2x : ¬ k = 5 → 2 * k = nW k := fun z => by rw [show nW k = _ from if_neg z]
    refine (as_unp2 (i := 3) (j := 4) ?h1 rfl (c_if (t_eqI (nm 0 rfl (c_int (And.intro (fun b1 => (c_tup (ca_cons (c_tup (ca_cons (c_neg (c_int (ca_cons (c_int (ca_nil (And.intro (And.intro rfl (Nat.le_of_ble_eq_true rfl)) (ca_cons (c_int (ca_nil (And.intro (And.intro rfl (Nat.le_of_ble_eq_true rfl)) ⟨_, _, rfl, (as_asg (i := 5) ?h2 (c_call c_number_less (hr.mono (by decide)) (ca_cons (c_ixTn (nm 1 rfl (c_int (And.intro (by decide) (ca_cons (c_ixTn (nm 2 rfl (c_int (And.intro (by decide) (ca_nil ⟨_, _, _, _, _, _, 60, rfl, ?h3, fun lx1 ly1 lz1 ll1 ln1 => And.intro rfl (as_asg (i := 6) ?h4 (c_call c_number_less (hr.mono (by decide)) (ca_cons (c_ixTn (nm 1 rfl (c_int (And.intro (by decide) (ca_cons (c_ixTn (nm 2 rfl (c_int (And.intro (by decide) (ca_nil ⟨_, _, _, _, _, _, 60, rfl, ?h5, fun lx2 ly2 lz2 ll2 ln2 => And.intro rfl (as_unp2 (i := 7) (j := 8) ?h6 rfl (c_call c_pair_times (hr.mono (by decide)) (ca_cons (nm 0 rfl (ca_cons (c_cutT (nm 5 rfl (o_none (o_some (c_int (ca_cons (nm 3 rfl (ca_nil ⟨_, (_, _), (_, _), rfl, ?h7, And.intro rfl ⟨_, _, rfl, (as_unp2 (i := 9) (j := 10) ?h8 rfl (c_call c_pair_times (hr.mono (by decide)) (ca_cons (nm 0 rfl (ca_cons (c_cutT (nm 6 rfl (o_none (o_some (c_int (ca_cons (nm 3 rfl (ca_nil ⟨_, (_, _), (_, _), rfl, ?h9, And.intro rfl ⟨_, _, rfl, (as_ret hQ (c_tup (ca_cons (c_call c_whole_ceiling (hr.mono (by decide)) (ca_cons (nm 0 rfl (ca_cons (nm 7 rfl (ca_cons (nm 8 rfl (ca_cons (c_mul (c_ixTn (nm 5 rfl (c_int (And.intro (by decide) (nm 4 rfl (And.intro ?h10 (ca_nil ⟨_, _, _, _, rfl, ?h11, And.intro rfl (ca_cons (c_call c_whole_floor (hr.mono (by decide)) (ca_cons (nm 0 rfl (ca_cons (nm 9 rfl (ca_cons (nm 10 rfl (ca_cons (c_mul (c_ixTn (nm 6 rfl (c_int (And.intro (by decide) (nm 4 rfl (And.intro ?h12 (ca_nil ⟨_, _, _, _, rfl, ?h13, fun wf1 hwf1 => And.intro rfl (ca_nil (And.intro (And.intro rfl (Nat.le_of_ble_eq_true rfl)) (And.intro rfl ?h14)))⟩)))))))))))))))))⟩)))))))))))))))))))⟩⟩)))))))))))))⟩⟩)))))))))))))⟩)))))))))))))⟩)))))))))))))⟩))))))))))))))) (fun b1 => (c_tup (ca_cons (c_tup (ca_cons (c_int (ca_cons (c_int (ca_nil (And.intro (And.intro rfl (Nat.le_of_ble_eq_true rfl)) (ca_cons (c_mulS (c_int (nm 0 rfl (And.intro (.inl (And.intro (by decide) (by decide))) (ca_nil (And.intro (And.intro rfl (Nat.le_of_ble_eq_true rfl)) ⟨_, _, rfl, (as_asg (i := 5) ?h15 (c_call c_number_less (hr.mono (by decide)) (ca_cons (c_ixTn (nm 1 rfl (c_int (And.intro (by decide) (ca_cons (c_ixTn (nm 2 rfl (c_int (And.intro (by decide) (ca_nil ⟨_, _, _, _, _, _, 60, rfl, ?h16, fun lx3 ly3 lz3 ll3 ln3 => And.intro rfl (as_asg (i := 6) ?h17 (c_call c_number_less (hr.mono (by decide)) (ca_cons (c_ixTn (nm 1 rfl (c_int (And.intro (by decide) (ca_cons (c_ixTn (nm 2 rfl (c_int (And.intro (by decide) (ca_nil ⟨_, _, _, _, _, _, 60, rfl, ?h18, fun lx4 ly4 lz4 ll4 ln4 => And.intro rfl (as_unp2 (i := 7) (j := 8) ?h19 rfl (c_call c_pair_times (hr.mono (by decide)) (ca_cons (nm 0 rfl (ca_cons (c_cutT (nm 5 rfl (o_none (o_some (c_int (ca_cons (nm 3 rfl (ca_nil ⟨_, (_, _), (_, _), rfl, ?h20, And.intro rfl ⟨_, _, rfl, (as_unp2 (i := 9) (j := 10) ?h21 rfl (c_call c_pair_times (hr.mono (by decide)) (ca_cons (nm 0 rfl (ca_cons (c_cutT (nm 6 rfl (o_none (o_some (c_int (ca_cons (nm 3 rfl (ca_nil ⟨_, (_, _), (_, _), rfl, ?h22, And.intro rfl ⟨_, _, rfl, (as_ret hQ (c_tup (ca_cons (c_call c_whole_ceiling (hr.mono (by decide)) (ca_cons (nm 0 rfl (ca_cons (nm 7 rfl (ca_cons (nm 8 rfl (ca_cons (c_mul (c_ixTn (nm 5 rfl (c_int (And.intro (by decide) (nm 4 rfl (And.intro ?h23 (ca_nil ⟨_, _, _, _, rfl, ?h24, And.intro rfl (ca_cons (c_call c_whole_floor (hr.mono (by decide)) (ca_cons (nm 0 rfl (ca_cons (nm 9 rfl (ca_cons (nm 10 rfl (ca_cons (c_mul (c_ixTn (nm 6 rfl (c_int (And.intro (by decide) (nm 4 rfl (And.intro ?h25 (ca_nil ⟨_, _, _, _, rfl, ?h26, fun wf2 hwf2 => And.intro rfl (ca_nil (And.intro (And.intro rfl (Nat.le_of_ble_eq_true rfl)) (And.intro rfl ?h27)))⟩)))))))))))))))))⟩)))))))))))))))))))⟩⟩)))))))))))))⟩⟩)))))))))))))⟩)))))))))))))⟩)))))))))))))⟩)))))))))))))))))))))))
    case h1 =>
      exact sc__factors_of_w.nd
    case h2 =>
      exact sc__factors_of_w.nd
    case h3 =>
      first | exact ⟨h1, h4, by decide⟩ | exact ⟨h2, h3, by decide⟩
    case h4 =>
      exact sc__factors_of_w.nd
    case h5 =>
      first | exact ⟨h1, h4, by decide⟩ | exact ⟨h2, h3, by decide⟩
    case h6 =>
      exact sc__factors_of_w.nd
    case h7 =>
      first
        | exact pt4 hk ln1 q5
        | exact wc4 hk ln1 q5 (by decide) fiv
        | exact pt4 hk ln2 q5
        | exact wc4 hk ln2 q5 (by decide) fiv
        | exact pt4 hk ln3 q2
        | exact wc4 hk ln3 q2 twp twk
        | exact pt4 hk ln4 q2
        | exact wc4 hk ln4 q2 twp twk
    case h8 =>
      exact sc__factors_of_w.nd
    case h9 =>
      first
        | exact pt4 hk ln1 q5
        | exact wc4 hk ln1 q5 (by decide) fiv
        | exact pt4 hk ln2 q5
        | exact wc4 hk ln2 q5 (by decide) fiv
        | exact pt4 hk ln3 q2
        | exact wc4 hk ln3 q2 twp twk
        | exact pt4 hk ln4 q2
        | exact wc4 hk ln4 q2 twp twk
    case h10 =>
      first | exact cm (n := 121) (m := 4) ln1.n fiv (by decide) | exact cm (n := 121) (m := 4) ln2.n fiv (by decide) | exact cm (n := 121) (m := 4) ln3.n twk (by decide) | exact cm (n := 121) (m := 4) ln4.n twk (by decide)
    case h11 =>
      first
        | exact pt4 hk ln1 q5
        | exact wc4 hk ln1 q5 (by decide) fiv
        | exact pt4 hk ln2 q5
        | exact wc4 hk ln2 q5 (by decide) fiv
        | exact pt4 hk ln3 q2
        | exact wc4 hk ln3 q2 twp twk
        | exact pt4 hk ln4 q2
        | exact wc4 hk ln4 q2 twp twk
    case h12 =>
      first | exact cm (n := 121) (m := 4) ln1.n fiv (by decide) | exact cm (n := 121) (m := 4) ln2.n fiv (by decide) | exact cm (n := 121) (m := 4) ln3.n twk (by decide) | exact cm (n := 121) (m := 4) ln4.n twk (by decide)
    case h13 =>
      first
        | exact pt4 hk ln1 q5
        | exact wc4 hk ln1 q5 (by decide) fiv
        | exact pt4 hk ln2 q5
        | exact wc4 hk ln2 q5 (by decide) fiv
        | exact pt4 hk ln3 q2
        | exact wc4 hk ln3 q2 twp twk
        | exact pt4 hk ln4 q2
        | exact wc4 hk ln4 q2 twp twk
    case h14 =>
      first
        | (rw [hwf1]; exact hG _ _ (fw_lo hk hN ((V1.sub V4).lo ll1 (Int.mul_pos h1.p h4.p)) ln1.p (i5 (by assumption)) (n5 (by assumption))) (fw_hi hk hN ((V2.sub V3).lo ll2 (Int.mul_pos h2.p h3.p)) ln2.p (i5 (by assumption)) (n5 (by assumption))))
        | (rw [hwf2]; exact hG _ _ (fw_lo hk hN ((V1.sub V4).lo ll3 (Int.mul_pos h1.p h4.p)) ln3.p (i2 (by assumption)) (n2x (by assumption))) (fw_hi hk hN ((V2.sub V3).lo ll4 (Int.mul_pos h2.p h3.p)) ln4.p (i2 (by assumption)) (n2x (by assumption))))
    case h15 =>
      exact sc__factors_of_w.nd
    case h16 =>
      first | exact ⟨h1, h4, by decide⟩ | exact ⟨h2, h3, by decide⟩
    case h17 =>
      exact sc__factors_of_w.nd
    case h18 =>
      first | exact ⟨h1, h4, by decide⟩ | exact ⟨h2, h3, by decide⟩
    case h19 =>
      exact sc__factors_of_w.nd
    case h20 =>
      first
        | exact pt4 hk ln1 q5
        | exact wc4 hk ln1 q5 (by decide) fiv
        | exact pt4 hk ln2 q5
        | exact wc4 hk ln2 q5 (by decide) fiv
        | exact pt4 hk ln3 q2
        | exact wc4 hk ln3 q2 twp twk
        | exact pt4 hk ln4 q2
        | exact wc4 hk ln4 q2 twp twk
    case h21 =>
      exact sc__factors_of_w.nd
    case h22 =>
      first
        | exact pt4 hk ln1 q5
        | exact wc4 hk ln1 q5 (by decide) fiv
        | exact pt4 hk ln2 q5
        | exact wc4 hk ln2 q5 (by decide) fiv
        | exact pt4 hk ln3 q2
        | exact wc4 hk ln3 q2 twp twk
        | exact pt4 hk ln4 q2
        | exact wc4 hk ln4 q2 twp twk
    case h23 =>
      first | exact cm (n := 121) (m := 4) ln1.n fiv (by decide) | exact cm (n := 121) (m := 4) ln2.n fiv (by decide) | exact cm (n := 121) (m := 4) ln3.n twk (by decide) | exact cm (n := 121) (m := 4) ln4.n twk (by decide)
    case h24 =>
      first
        | exact pt4 hk ln1 q5
        | exact wc4 hk ln1 q5 (by decide) fiv
        | exact pt4 hk ln2 q5
        | exact wc4 hk ln2 q5 (by decide) fiv
        | exact pt4 hk ln3 q2
        | exact wc4 hk ln3 q2 twp twk
        | exact pt4 hk ln4 q2
        | exact wc4 hk ln4 q2 twp twk
    case h25 =>
      first | exact cm (n := 121) (m := 4) ln1.n fiv (by decide) | exact cm (n := 121) (m := 4) ln2.n fiv (by decide) | exact cm (n := 121) (m := 4) ln3.n twk (by decide) | exact cm (n := 121) (m := 4) ln4.n twk (by decide)
    case h26 =>
      first
        | exact pt4 hk ln1 q5
        | exact wc4 hk ln1 q5 (by decide) fiv
        | exact pt4 hk ln2 q5
        | exact wc4 hk ln2 q5 (by decide) fiv
        | exact pt4 hk ln3 q2
        | exact wc4 hk ln3 q2 twp twk
        | exact pt4 hk ln4 q2
        | exact wc4 hk ln4 q2 twp twk
    case h27 =>
      first
        | (rw [hwf1]; exact hG _ _ (fw_lo hk hN ((V1.sub V4).lo ll1 (Int.mul_pos h1.p h4.p)) ln1.p (i5 (by assumption)) (n5 (by assumption))) (fw_hi hk hN ((V2.sub V3).lo ll2 (Int.mul_pos h2.p h3.p)) ln2.p (i5 (by assumption)) (n5 (by assumption))))
        | (rw [hwf2]; exact hG _ _ (fw_lo hk hN ((V1.sub V4).lo ll3 (Int.mul_pos h1.p h4.p)) ln3.p (i2 (by assumption)) (n2x (by assumption))) (fw_hi hk hN ((V2.sub V3).lo ll4 (Int.mul_pos h2.p h3.p)) ln4.p (i2 (by assumption)) (n2x (by assumption))))

end
end Y37

set_option Elab.async false
set_option linter.all false
set_option maxRecDepth 100000
set_option maxHeartbeats 8000000
namespace Y37
open PySem PySem.Spec PyProof.Rows L2 Evl Wz
open Y02 (Kd Nm psD sgP flQ flA flN rtF g3 sg sq_nn lsD)
open Y75 (Z2 mul mate add sub B2 LO mul_b mate_b B2.mono)
local macro_rules | `(tactic| walk_at "bd") => `(tactic| (repeat (first | assumption | apply Bd.mul | apply Bd.add | apply Bd.sub | apply Bd.neg | exact Bd.z | exact Bd.of _)))
local macro_rules | `(tactic| walk_at "bm") => `(tactic| (first | assumption | exact Bd.mono (by walk_at "bd") (by decide)))
local macro_rules | `(tactic| walk_at "b2") => `(tactic| (repeat (first | assumption | apply And.intro | walk_at "bm" | decide | omega)))
/-- two spans, as numbers and over one denominator -/
structure Wi (k N : Int) (p0 p1 q0 q1 : Z2) (a b n c e u a2 b2 n2 c2 e2 u2 L : Int) : Prop where
  kd : Kd k
  h0 : 0 < N
  s1 : Nb 52 a b n
  s2 : Nb 52 c e u
  s3 : Nb 52 a2 b2 n2
  s4 : Nb 52 c2 e2 u2
  v1 : Vl N p0 a b n
  v2 : Vl N p1 c e u
  v3 : Vl N q0 a2 b2 n2
  v4 : Vl N q1 c2 e2 u2
  lp : le k (sub p1 p0) (sc N (L, 0))
  lq : le k (sub q1 q0) (sc N (6, 0))
  l0 : 0 ≤ L
  l1 : L ≤ 1000
theorem cut_le {k N M : Int} {p q : Z2} (hk : Kd k) (g1 : le k p (sc N (M, 0))) (g2 : le k (sc N (-M, 0)) p) (g3 : le k q (sc N (M, 0))) (g4 : le k (sc N (-M, 0)) q) : le k (sub p q) (sc N (2 * M, 0)) ∧ le k (sc N (-(2 * M), 0)) (sub p q) := by
  have s1 := le_sub2 hk g1 g4
  have s2 := le_sub2 hk g2 g3
  rw [← sc_sub, show sub (M, 0) (-M, 0) = (2 * M, 0) from Prod.ext (by show M - -M = 2 * M; omega) (by show (0 : Int) - 0 = 0; omega)] at s1
  rw [← sc_sub, show sub (-M, 0) (M, 0) = (-(2 * M), 0) from Prod.ext (by show -M - M = -(2 * M); omega) (by show (0 : Int) - 0 = 0; omega)] at s2
  exact ⟨s1, s2⟩
/-- first and last of a row of a -/
def firI (k a b n a2 b2 n2 t : Int) : Int := if ceI k (a2 - (mate k (0, t)).1 * n2) (b2 - (mate k (0, t)).2 * n2) n2 > ceI k (a - (0, t).1 * n) (b - (0, t).2 * n) n then ceI k (a2 - (mate k (0, t)).1 * n2) (b2 - (mate k (0, t)).2 * n2) n2 else ceI k (a - (0, t).1 * n) (b - (0, t).2 * n) n
def lasI (k a b n a2 b2 n2 t : Int) : Int := if flI k (a2 - (mate k (0, t)).1 * n2) (b2 - (mate k (0, t)).2 * n2) n2 < flI k (a - (0, t).1 * n) (b - (0, t).2 * n) n then flI k (a2 - (mate k (0, t)).1 * n2) (b2 - (mate k (0, t)).2 * n2) n2 else flI k (a - (0, t).1 * n) (b - (0, t).2 * n) n
section
variable {k N : Int} {p0 p1 q0 q1 : Z2} {a b n c e u a2 b2 n2 c2 e2 u2 L : Int}
theorem Wi.mx (W : Wi k N p0 p1 q0 q1 a b n c e u a2 b2 n2 c2 e2 u2 L) : (le k p0 (sc N (18014398509481984, 0)) ∧ le k (sc N (-18014398509481984, 0)) p0) ∧ (le k p1 (sc N (18014398509481984, 0)) ∧ le k (sc N (-18014398509481984, 0)) p1) ∧ (le k q0 (sc N (18014398509481984, 0)) ∧ le k (sc N (-18014398509481984, 0)) q0) ∧ (le k q1 (sc N (18014398509481984, 0)) ∧ le k (sc N (-18014398509481984, 0)) q1) := by
  have f : (2 : Int) ^ (52 + 2) = 18014398509481984 := rfl
  have h1 := up_v W.kd W.h0 W.s1.p W.s1.a W.s1.b W.v1
  have h2 := up_v W.kd W.h0 W.s2.p W.s2.a W.s2.b W.v2
  have h3 := up_v W.kd W.h0 W.s3.p W.s3.a W.s3.b W.v3
  have h4 := up_v W.kd W.h0 W.s4.p W.s4.a W.s4.b W.v4
  rw [f] at h1 h2 h3 h4
  exact ⟨h1, h2, h3, h4⟩
theorem Wi.lohi (W : Wi k N p0 p1 q0 q1 a b n c e u a2 b2 n2 c2 e2 u2 L) {lo hi : Int} (hlo : ∀ t : Int, lo ≤ t ↔ le k (sub p0 q1) (sc N (sc t (dW k)))) (hhi : ∀ t : Int, t ≤ hi ↔ le k (sc N (sc t (dW k))) (sub p1 q0)) : (-18014398509481984 ≤ lo ∧ lo ≤ 18014398509481984) ∧ (-18014398509481984 ≤ hi ∧ hi ≤ 18014398509481984) ∧ hi - lo ≤ 503 := by
  obtain ⟨⟨x1, y1⟩, ⟨x2, y2⟩, ⟨x3, y3⟩, ⟨x4, y4⟩⟩ := W.mx
  obtain ⟨c1, c2⟩ := cut_le W.kd x1 y1 x4 y4
  obtain ⟨c3, c4⟩ := cut_le W.kd x2 y2 x3 y3
  have few := b_few W.kd W.h0 hlo hhi W.lp W.lq W.l0
  have l1 := W.l1
  exact ⟨lo_bd W.kd W.h0 (by decide) hlo c1 c2, hi_bd W.kd W.h0 (by decide) hhi c3 c4, by omega⟩
theorem Wi.fir (W : Wi k N p0 p1 q0 q1 a b n c e u a2 b2 n2 c2 e2 u2 L) (t s : Int) : firI k a b n a2 b2 n2 t ≤ s ↔ le k p0 (sc N (add (s, 0) (0, t))) ∧ le k q0 (sc N (add (s, 0) (mate k (0, t)))) := by
  have h1 : ceI k (a - (0, t).1 * n) (b - (0, t).2 * n) n ≤ s ↔ _ := ab_is (q := (0, t)) W.kd W.h0 W.s1.p W.v1
  have h2 : ceI k (a2 - (mate k (0, t)).1 * n2) (b2 - (mate k (0, t)).2 * n2) n2 ≤ s ↔ _ := ab_is (q := mate k (0, t)) W.kd W.h0 W.s3.p W.v3
  rw [← h1, ← h2]
  unfold firI
  generalize ceI k (a2 - (mate k (0, t)).1 * n2) (b2 - (mate k (0, t)).2 * n2) n2 = X
  generalize ceI k (a - (0, t).1 * n) (b - (0, t).2 * n) n = Y
  split <;> omega
theorem Wi.las (W : Wi k N p0 p1 q0 q1 a b n c e u a2 b2 n2 c2 e2 u2 L) (t s : Int) : s ≤ lasI k c e u c2 e2 u2 t ↔ le k (sc N (add (s, 0) (0, t))) p1 ∧ le k (sc N (add (s, 0) (mate k (0, t)))) q1 := by
  have h1 : s ≤ flI k (c - (0, t).1 * u) (e - (0, t).2 * u) u ↔ _ := be_is (q := (0, t)) W.kd W.h0 W.s2.p W.v2
  have h2 : s ≤ flI k (c2 - (mate k (0, t)).1 * u2) (e2 - (mate k (0, t)).2 * u2) u2 ↔ _ := be_is (q := mate k (0, t)) W.kd W.h0 W.s4.p W.v4
  rw [← h1, ← h2]
  unfold lasI
  generalize flI k (c2 - (mate k (0, t)).1 * u2) (e2 - (mate k (0, t)).2 * u2) u2 = X
  generalize flI k (c - (0, t).1 * u) (e - (0, t).2 * u) u = Y
  split <;> omega
theorem Wi.rng (W : Wi k N p0 p1 q0 q1 a b n c e u a2 b2 n2 c2 e2 u2 L) (t : Int) (ht : -18014398509481984 ≤ t ∧ t ≤ 18014398509481984) : (-72057594037927936 ≤ firI k a b n a2 b2 n2 t ∧ firI k a b n a2 b2 n2 t ≤ 72057594037927936) ∧ (-72057594037927936 ≤ lasI k c e u c2 e2 u2 t ∧ lasI k c e u c2 e2 u2 t ≤ 72057594037927936) ∧ lasI k c e u c2 e2 u2 t - firI k a b n a2 b2 n2 t ≤ 6 := by
  obtain ⟨⟨x1, y1⟩, ⟨x2, y2⟩, ⟨x3, y3⟩, ⟨x4, y4⟩⟩ := W.mx
  obtain ⟨m1, m2⟩ := mate_nb (k := k) (b := t) (B := 18014398509481984) (by omega)
  have g1 := ab_bd (c := ceI k (a - (0, t).1 * n) (b - (0, t).2 * n) n) W.kd W.h0 (fun s => ab_is (q := (0, t)) W.kd W.h0 W.s1.p W.v1) x1 y1 m2
  have g2 := ab_bd (c := ceI k (a2 - (mate k (0, t)).1 * n2) (b2 - (mate k (0, t)).2 * n2) n2) W.kd W.h0 (fun s => ab_is (q := mate k (0, t)) W.kd W.h0 W.s3.p W.v3) x3 y3 m1
  have g3 := be_bd (c := flI k (c - (0, t).1 * u) (e - (0, t).2 * u) u) W.kd W.h0 (fun s => be_is (q := (0, t)) W.kd W.h0 W.s2.p W.v2) x2 y2 m2
  have g4 := be_bd (c := flI k (c2 - (mate k (0, t)).1 * u2) (e2 - (mate k (0, t)).2 * u2) u2) W.kd W.h0 (fun s => be_is (q := mate k (0, t)) W.kd W.h0 W.s4.p W.v4) x4 y4 m1
  have g5 := a_few (f := ceI k (a2 - (mate k (0, t)).1 * n2) (b2 - (mate k (0, t)).2 * n2) n2) (l := flI k (c2 - (mate k (0, t)).1 * u2) (e2 - (mate k (0, t)).2 * u2) u2) W.kd W.h0 (fun s => ab_is (q := mate k (0, t)) W.kd W.h0 W.s3.p W.v3) (fun s => be_is (q := mate k (0, t)) W.kd W.h0 W.s4.p W.v4) W.lq
  unfold firI lasI
  generalize ceI k (a2 - (mate k (0, t)).1 * n2) (b2 - (mate k (0, t)).2 * n2) n2 = X1 at *
  generalize ceI k (a - (0, t).1 * n) (b - (0, t).2 * n) n = X2 at *
  generalize flI k (c2 - (mate k (0, t)).1 * u2) (e2 - (mate k (0, t)).2 * u2) u2 = X3 at *
  generalize flI k (c - (0, t).1 * u) (e - (0, t).2 * u) u = X4 at *
  clear x1 x2 x3 x4 y1 y2 y3 y4 m1 m2
  split <;> (split <;> omega)
theorem Wi.row (W : Wi k N p0 p1 q0 q1 a b n c e u a2 b2 n2 c2 e2 u2 L) (t : Int) (z : Z2) : z ∈ rowL (firI k a b n a2 b2 n2 t) t (lasI k c e u c2 e2 u2 t + 1 - firI k a b n a2 b2 n2 t).toNat ↔ z.2 = t ∧ Wb k N p0 p1 q0 q1 z := by
  rw [rowL_mem]
  have key : z.2 = t → (Wb k N p0 p1 q0 q1 z ↔ firI k a b n a2 b2 n2 t ≤ z.1 ∧ z.1 ≤ lasI k c e u c2 e2 u2 t) := fun h => by
    rw [W.fir, W.las]
    subst h
    exact wb_ab
  constructor
  · rintro ⟨h1, h2, h3⟩
    exact ⟨h1, (key h1).mpr ⟨h2, by omega⟩⟩
  · rintro ⟨h1, h2⟩
    obtain ⟨h3, h4⟩ := (key h1).mp h2
    exact ⟨h1, h3, by omega⟩
theorem Wi.bz (W : Wi k N p0 p1 q0 q1 a b n c e u a2 b2 n2 c2 e2 u2 L) {z : Z2} (h : Wb k N p0 p1 q0 q1 z) : B2 60 z := by
  obtain ⟨⟨x1, y1⟩, ⟨x2, y2⟩, ⟨x3, y3⟩, ⟨x4, y4⟩⟩ := W.mx
  obtain ⟨h1, h2, h3, h4⟩ := h
  have g := part_b W.kd (m := 18014398509481984) (z := z) (by decide) ((le_sc W.kd W.h0).mp (le_trans W.kd h2 x2)) ((le_sc W.kd W.h0).mp (le_trans W.kd y1 h1)) ((le_sc W.kd W.h0).mp (le_trans W.kd h4 x4)) ((le_sc W.kd W.h0).mp (le_trans W.kd y3 h3))
  constructor
  · show z.1.natAbs < 2 ^ 60
    omega
  · show z.2.natAbs < 2 ^ 60
    omega
end
/-- so far -/
structure Sf (k N : Int) (p0 p1 q0 q1 : Z2) (lo : Int) (j : Nat) (R : List Z2) : Prop where
  nd : R.Nodup
  mem : ∀ z, z ∈ R ↔ lo ≤ z.2 ∧ z.2 < lo + (j : Int) ∧ Wb k N p0 p1 q0 q1 z
  len : R.length ≤ 7 * j
theorem Sf.nil {k N : Int} {p0 p1 q0 q1 : Z2} {lo : Int} : Sf k N p0 p1 q0 q1 lo 0 [] := ⟨List.nodup_nil, fun z => ⟨fun h => (by cases h), fun h => (by have := h.1; have := h.2.1; omega)⟩, Nat.zero_le _⟩
theorem Sf.next {k N : Int} {p0 p1 q0 q1 : Z2} {a b n c e u a2 b2 n2 c2 e2 u2 L lo : Int} {j : Nat} {R : List Z2} (S : Sf k N p0 p1 q0 q1 lo j R) (W : Wi k N p0 p1 q0 q1 a b n c e u a2 b2 n2 c2 e2 u2 L) (ht : -18014398509481984 ≤ lo + (j : Int) ∧ lo + (j : Int) ≤ 18014398509481984) : Sf k N p0 p1 q0 q1 lo (j + 1) (R ++ rowL (firI k a b n a2 b2 n2 (lo + (j : Int))) (lo + (j : Int)) (lasI k c e u c2 e2 u2 (lo + (j : Int)) + 1 - firI k a b n a2 b2 n2 (lo + (j : Int))).toNat) := by
  have rg := (W.rng _ ht).2.2
  refine ⟨List.nodup_append.mpr ⟨S.nd, rowL_nodup, fun x hx y hy e => ?_⟩, fun z => ?_, ?_⟩
  · subst e
    have h1 := ((S.mem x).mp hx).2.1
    have h2 := (rowL_mem.mp hy).1
    omega
  · rw [List.mem_append, S.mem, W.row]
    constructor
    · rintro (⟨h1, h2, h3⟩ | ⟨h1, h2⟩)
      · exact ⟨h1, by omega, h3⟩
      · exact ⟨by omega, by omega, h2⟩
    · rintro ⟨h1, h2, h3⟩
      by_cases e : z.2 = lo + (j : Int)
      · exact .inr ⟨e, h3⟩
      · exact .inl ⟨h1, by omega, h3⟩
  · rw [List.length_append, rowL_len]
    have := S.len
    omega
theorem Sf.all {k N : Int} {p0 p1 q0 q1 : Z2} {lo hi : Int} {R : List Z2} (S : Sf k N p0 p1 q0 q1 lo (hi + 1 - lo).toNat R) (hk : Kd k) (hlo : ∀ t : Int, lo ≤ t ↔ le k (sub p0 q1) (sc N (sc t (dW k)))) (hhi : ∀ t : Int, t ≤ hi ↔ le k (sc N (sc t (dW k))) (sub p1 q0)) (z : Z2) : z ∈ R ↔ Wb k N p0 p1 q0 q1 z := by
  rw [S.mem]
  constructor
  · exact fun h => h.2.2
  · intro h
    obtain ⟨g1, g2⟩ := wb_b hk h
    have a := (hlo _).mpr g1
    have b := (hhi _).mpr g2
    exact ⟨a, by omega, h⟩
abbrev tgD (k : Int) (z : Z2) : Dat := n3D (mtI k z, z.1, z.2)
theorem tg_nl (k : Int) (R : List Z2) : (R.map (tgD k)).all noL = true := List.all_eq_true.mpr fun d hd => by
  obtain ⟨z, _, rfl⟩ := List.mem_map.mp hd
  rfl
theorem tg_row {k a b : Int} {l : Nat} : (rowL a b l).map (tgD k) ++ [tgD k (a + (l : Int), b)] = (rowL a b (l + 1)).map (tgD k) := by
  rw [rowL_succ, List.map_append]
  rfl
def fsD : Dat → Dat
  | .tup (a :: _) => a
  | d => d
def snD : Dat → Dat
  | .tup (_ :: b :: _) => b
  | d => d
theorem n3_two {ts : List I3} {z : Dat} (h : z ∈ ts.map (fun t => n3D t)) : z = .tup [fsD z, snD z] := by
  obtain ⟨t, _, rfl⟩ := List.mem_map.mp h
  rfl
theorem map_get {α : Type} {f : α → Dat} {ts : List α} {l : Nat} {d : Dat} (h : (ts.map f)[l]? = some d) : ∃ t, ts[l]? = some t ∧ d = f t := by
  rw [List.getElem?_map] at h
  cases ht : ts[l]? with
  | none => rw [ht] at h; cases h
  | some t =>
    rw [ht] at h
    exact ⟨t, rfl, (Option.some.inj h).symm⟩
theorem take_next {α β : Type} {f : α → β} {ts : List α} {l : Nat} {t : α} (h : ts[l]? = some t) : (ts.take l).map f ++ [f t] = (ts.take (l + 1)).map f := by
  rw [List.take_add_one, h, List.map_append]
  rfl
theorem srt_out {f : Z2 → Int} {R : List Z2} {ts : List I3} (hp : ts.Perm (R.map fun z => (f z, z.1, z.2))) : (ts.map (fun t => ((t.2.1, t.2.2) : Z2))).Perm R := by
  have h := hp.map (fun t : I3 => ((t.2.1, t.2.2) : Z2))
  rw [List.map_map] at h
  have e : R.map ((fun t : I3 => ((t.2.1, t.2.2) : Z2)) ∘ fun z => (f z, z.1, z.2)) = R := by
    refine Eq.trans (List.map_congr_left fun z _ => ?_) (List.map_id R)
    rfl
  rw [e] at h
  exact h
theorem perm_mem {R S : List Z2} (h : R.Perm S) (z : Z2) : z ∈ R ↔ z ∈ S := h.mem_iff
set_option exponentiation.threshold 1000000
section
variable {P : Program} {w : World} {K : PySem.W.Frag} {mg : Str → Option Value} {base : Heap}

end
end Y37

set_option Elab.async false
set_option linter.all false
set_option maxRecDepth 100000
set_option maxHeartbeats 8000000
namespace Y37
open PySem PySem.Spec PyProof.Rows L2 Evl Wz
open Y02 (Kd Nm psD sgP flQ flA flN rtF g3 sg sq_nn lsD)
open Y75 (Z2 mul mate add sub B2 LO mul_b mate_b B2.mono)
local macro_rules | `(tactic| walk_at "bd") => `(tactic| (repeat (first | assumption | apply Bd.mul | apply Bd.add | apply Bd.sub | apply Bd.neg | exact Bd.z | exact Bd.of _)))
local macro_rules | `(tactic| walk_at "bm") => `(tactic| (first | assumption | exact Bd.mono (by walk_at "bd") (by decide)))
local macro_rules | `(tactic| walk_at "b2") => `(tactic| (repeat (first | assumption | apply And.intro | walk_at "bm" | decide | omega)))
theorem bd60 {x : Int} (h1 : -1152921504606846976 < x) (h2 : x < 1152921504606846976) : Bd 60 x := by
  show x.natAbs < 2 ^ 60
  omega
set_option exponentiation.threshold 1000000
section
variable {P : Program} {w : World} {K : PySem.W.Frag} {mg : Str → Option Value} {base : Heap}

/-! ### wholes_between -/
abbrev s_wholes_between : Stmt := topS 26
theorem sc_wholes_between : FnScope ["kind", "span", "mates", "least", "greatest", "found", "b", "back", "first", "last", "a", "_", "pair"] ["kind", "span", "mates"] (defScope s_wholes_between) := ⟨rfl, rfl, rfl, by decide +kernel, rfl, by decide +kernel, by decide +kernel⟩
def F_wholes_between : FN := fun ds Q => ∃ k N p0 p1 q0 q1 a b n c e u a2 b2 n2 c2 e2 u2 L, ds = [.int k, n2D a b n c e u, n2D a2 b2 n2 c2 e2 u2] ∧ Wi k N p0 p1 q0 q1 a b n c e u a2 b2 n2 c2 e2 u2 L ∧ ∀ R : List Z2, R.Nodup → (∀ z, z ∈ R ↔ Wb k N p0 p1 q0 q1 z) → R.length ≤ 4000 → Q (R.map (fun z => pD z))
theorem ok_wholes_between {f : Addr} {fd : FuncData} (Fn : Fun K "wholes_between" "wholes_between" s_wholes_between f fd) (c__factors_of_w : Cl P w K mg base 3 "_factors_of_w" ["kind", "span", "mates"] (spP K F__factors_of_w)) (c_pair_mate : Cl P w K mg base 1 "pair_mate" ["kind", "p"] (spP K F_pair_mate)) (c__above : Cl P w K mg base 3 "_above" ["kind", "p", "back"] (spP K F__above)) (c__below : Cl P w K mg base 2 "_below" ["kind", "p", "back"] (spP K F__below)) (c__by_mate : Cl P w K mg base 2 "_by_mate" ["kind", "pair"] (spP K F__by_mate)) (m_range : mg "range" = none) (m_max : mg "max" = none) (m_min : mg "min" = none) (m_sorted : mg "sorted" = none) : FnOk P w K mg base CX0 4 f fd ["kind", "span", "mates"] (spN K F_wholes_between) := by
  refine fn_N Fn sc_wholes_between (fun ds G h => ?_) (fun cdv A outer s H Q E ds G hr hF hQ => ?_)
  · obtain ⟨k, N, p0, p1, q0, q1, a, b, n, c, e, u, a2, b2, n2, c2, e2, u2, L, rfl, W, hG⟩ := h
    rfl
  · obtain ⟨k, N, p0, p1, q0, q1, a, b, n, c, e, u, a2, b2, n2, c2, e2, u2, L, rfl, W, hG⟩ := hF
    refine (as_unp2 (i := 3) (j := 4) ?h1 rfl (c_call c__factors_of_w (hr.mono (by decide)) (ca_cons (nm 0 rfl (ca_cons (nm 1 rfl (ca_cons (nm 2 rfl (ca_nil ⟨k, a, b, n, c, e, u, a2, b2, n2, c2, e2, u2, N, p0, p1, q0, q1, rfl, ⟨W.kd, W.s1.mono (by decide), W.s2.mono (by decide), W.s3.mono (by decide), W.s4.mono (by decide), W.h0, W.v1, W.v2, W.v3, W.v4⟩, fun lo hi hlo hhi => And.intro rfl ⟨_, _, rfl, (as_asgN (i := 5) ?h2 (n_disp (ca_nil (And.intro (And.intro rfl (Nat.le_of_ble_eq_true rfl)) (And.intro ?h3 (fun _ => (as_forR2 (i := 6) (hx := .inr rfl) ?h4 rfl PassesOwn.never m_range (ca_cons (nm 3 rfl (ca_cons (c_add (nm 4 rfl (c_int (ca_nil ⟨_, _, (fun j es q => ∃ (o6 o7 o8 o9 o10 o11 o12 : Option Dat) (R : List Z2), es = [some (.int k), some (n2D a b n c e u), some (n2D a2 b2 n2 c2 e2 u2), some (.int lo), some (.int hi), some (.cel 0), o6, o7, o8, o9, o10, o11, o12] ∧ q = [R.map (tgD k)] ∧ Sf k N p0 p1 q0 q1 lo j R), (fun _ _ => False), rfl, ?h30, ⟨_, _, _, _, _, _, _, [], rfl, rfl, Sf.nil⟩, ⟨fun H10 e10 fr0 j d es q hj hd hw => ?h5, fun es q hw => ?h6, fun _ _ h => h.elim⟩⟩))))))))))))))⟩⟩)))))))))
    case h1 =>
      exact sc_wholes_between.nd
    case h2 =>
      exact sc_wholes_between.nd
    case h3 =>
      first | rfl | exact tg_nl _ _
    case h4 =>
      exact sc_wholes_between.nd
    case h5 =>
      obtain ⟨o6, o7, o8, o9, o10, o11, o12, R, rfl, rfl, S⟩ := hw
      cases hd
      obtain ⟨⟨l1, l2⟩, ⟨g1, g2⟩, few⟩ := W.lohi hlo hhi
      have htj : -18014398509481984 ≤ lo + (j : Int) ∧ lo + (j : Int) ≤ 18014398509481984 := by omega
      obtain ⟨⟨r1, r2⟩, ⟨r3, r4⟩, r5⟩ := W.rng _ htj
      have q1b : B2 1000 ((0, lo + (j : Int)) : Z2) := ⟨(bd60 (x := 0) (by decide) (by decide)).mono (by decide), (bd60 (by omega) (by omega)).mono (by decide)⟩
      have q2b : B2 1000 (mate k (0, lo + (j : Int))) := (mate_b (k := k) (p := (0, lo + (j : Int))) (n := 60) ⟨bd60 (x := 0) (by decide) (by decide), bd60 (by omega) (by omega)⟩).mono (by decide)
      refine (as_asg (i := 7) ?h7 (c_call c_pair_mate (hr.mono (by decide)) (ca_cons (nm 0 rfl (ca_cons (c_tup (ca_cons (c_int (ca_cons (nm 6 rfl (ca_nil (And.intro (And.intro rfl (Nat.le_of_ble_eq_true rfl)) (ca_nil ⟨_, (0, lo + (j : Int)), rfl, And.intro rfl (as_asg (i := 8) ?h8 (c_max rfl m_max (ca_cons (c_call c__above (hr.mono (by decide)) (ca_cons (nm 0 rfl (ca_cons (c_ixTn (nm 1 rfl (c_int (And.intro (by decide) (ca_cons (c_tup (ca_cons (c_int (ca_cons (nm 6 rfl (ca_nil (And.intro (And.intro rfl (Nat.le_of_ble_eq_true rfl)) (ca_nil ⟨_, _, _, _, (_, _), rfl, ?h9, And.intro rfl (ca_cons (c_call c__above (hr.mono (by decide)) (ca_cons (nm 0 rfl (ca_cons (c_ixTn (nm 2 rfl (c_int (And.intro (by decide) (ca_cons (nm 7 rfl (ca_nil ⟨_, _, _, _, (_, _), rfl, ?h10, And.intro rfl (ca_nil (as_asg (i := 9) ?h11 (c_min rfl m_min (ca_cons (c_call c__below (hr.mono (by decide)) (ca_cons (nm 0 rfl (ca_cons (c_ixTn (nm 1 rfl (c_int (And.intro (by decide) (ca_cons (c_tup (ca_cons (c_int (ca_cons (nm 6 rfl (ca_nil (And.intro (And.intro rfl (Nat.le_of_ble_eq_true rfl)) (ca_nil ⟨_, _, _, _, (_, _), rfl, ?h12, And.intro rfl (ca_cons (c_call c__below (hr.mono (by decide)) (ca_cons (nm 0 rfl (ca_cons (c_ixTn (nm 2 rfl (c_int (And.intro (by decide) (ca_cons (nm 7 rfl (ca_nil ⟨_, _, _, _, (_, _), rfl, ?h13, And.intro rfl (ca_nil (as_drop (c_extend (nm 5 rfl (n_lcR2 (j := 10) rfl ?h14 m_range (blkOk_by (N := ["kind", "span", "mates", "least", "greatest", "found", "b", "back", "first", "last", "a", "_", "pair"]) (sc := defScope s_wholes_between) (by decide +kernel)) (fun _ _ _ _ _ => pg_name (i := 10) sc_wholes_between.nd rfl (Or.inl rfl)) (ca_cons (nm 8 rfl (ca_cons (c_add (nm 9 rfl (c_int (ca_nil ⟨?h22, (fun l acc q => q = [R.map (tgD k)] ∧ acc = (rowL (firI k a b n a2 b2 n2 (lo + (j : Int))) (lo + (j : Int)) l).map (tgD k)), ⟨rfl, rfl⟩, ⟨fun _ _ _ _ _ l d acc q hl hd hw => ?h15⟩, fun acc q hw ha => ?h16⟩))))))))))))⟩))))))))))))⟩)))))))))))))))))))))⟩))))))))))))⟩))))))))))))))))))))⟩)))))))))))))
      case h7 =>
        exact sc_wholes_between.nd
      case h8 =>
        exact sc_wholes_between.nd
      case h9 =>
        first
          | exact ⟨W.kd, W.s1.mono (by decide), q1b⟩
          | exact ⟨W.kd, W.s2.mono (by decide), q1b⟩
          | exact ⟨W.kd, W.s3.mono (by decide), q2b⟩
          | exact ⟨W.kd, W.s4.mono (by decide), q2b⟩
      case h10 =>
        first
          | exact ⟨W.kd, W.s1.mono (by decide), q1b⟩
          | exact ⟨W.kd, W.s2.mono (by decide), q1b⟩
          | exact ⟨W.kd, W.s3.mono (by decide), q2b⟩
          | exact ⟨W.kd, W.s4.mono (by decide), q2b⟩
      case h11 =>
        exact sc_wholes_between.nd
      case h12 =>
        first
          | exact ⟨W.kd, W.s1.mono (by decide), q1b⟩
          | exact ⟨W.kd, W.s2.mono (by decide), q1b⟩
          | exact ⟨W.kd, W.s3.mono (by decide), q2b⟩
          | exact ⟨W.kd, W.s4.mono (by decide), q2b⟩
      case h13 =>
        first
          | exact ⟨W.kd, W.s1.mono (by decide), q1b⟩
          | exact ⟨W.kd, W.s2.mono (by decide), q1b⟩
          | exact ⟨W.kd, W.s3.mono (by decide), q2b⟩
          | exact ⟨W.kd, W.s4.mono (by decide), q2b⟩
      case h14 =>
        exact sc_wholes_between.nd
      case h15 =>
        obtain ⟨rfl, rfl⟩ := hw
        cases hd
        refine (c_call c__by_mate (hr.mono (by decide)) (ca_cons (nm 0 rfl (ca_cons (c_tup (ca_cons (nm 10 rfl (ca_cons (nm 6 rfl (ca_nil (And.intro (And.intro rfl (Nat.le_of_ble_eq_true rfl)) (ca_nil ⟨_, (_, _), rfl, ?h17, And.intro rfl (And.intro rfl ⟨rfl, ?h18⟩)⟩))))))))))))
        case h17 =>
          have hl2 : l < ((lasI k c e u c2 e2 u2 (lo + (j : Int))) + 1 - (firI k a b n a2 b2 n2 (lo + (j : Int)))).toNat := hl
          exact ⟨W.kd, (bd60 (x := (firI k a b n a2 b2 n2 (lo + (j : Int))) + (l : Int)) (by omega) (by omega)).mono (by decide), (bd60 (x := lo + (j : Int)) (by omega) (by omega)).mono (by decide)⟩
        case h18 =>
          exact tg_row
      case h16 =>
        obtain ⟨rfl, rfl⟩ := hw
        refine ⟨?h19, _, rfl, ?h20, (as_end rfl ?h21)⟩
        case h19 =>
          first | rfl | exact tg_nl _ _
        case h20 =>
          have h1 := S.len
          have h3 : (R.map (tgD k)).length = R.length := List.length_map ..
          have h2 : ((rowL (firI k a b n a2 b2 n2 (lo + (j : Int))) (lo + (j : Int)) ((lasI k c e u c2 e2 u2 (lo + (j : Int))) + 1 - (firI k a b n a2 b2 n2 (lo + (j : Int)))).toNat).map (tgD k)).length = ((lasI k c e u c2 e2 u2 (lo + (j : Int))) + 1 - (firI k a b n a2 b2 n2 (lo + (j : Int)))).toNat := by rw [List.length_map, rowL_len]
          show (R.map (tgD k)).length + ((rowL (firI k a b n a2 b2 n2 (lo + (j : Int))) (lo + (j : Int)) ((lasI k c e u c2 e2 u2 (lo + (j : Int))) + 1 - (firI k a b n a2 b2 n2 (lo + (j : Int)))).toNat).map (tgD k)).length ≤ 10000
          omega
        case h21 =>
          exact ⟨_, _, _, _, _, _, _, _, rfl, by rw [List.map_append]; rfl, S.next W htj⟩
      case h22 =>
        first
          | (show -(2 ^ 62) ≤ (firI k a b n a2 b2 n2 (lo + (j : Int))) ∧ (firI k a b n a2 b2 n2 (lo + (j : Int))) < 2 ^ 62 ∧ -(2 ^ 62) ≤ (lasI k c e u c2 e2 u2 (lo + (j : Int))) + 1 ∧ (lasI k c e u c2 e2 u2 (lo + (j : Int))) + 1 < 2 ^ 62 ∧ (lasI k c e u c2 e2 u2 (lo + (j : Int))) + 1 - (firI k a b n a2 b2 n2 (lo + (j : Int))) ≤ 10000
             omega)
          | (rw [List.length_map, hperm.length_eq, List.length_map]
             have := S.len
             omega)
    case h6 =>
      obtain ⟨o6, o7, o8, o9, o10, o11, o12, R, rfl, rfl, S⟩ := hw
      obtain ⟨⟨l1, l2⟩, ⟨g1, g2⟩, few⟩ := W.lohi hlo hhi
      refine (as_retN hQ (n_lcL2 (i := 11) (j := 12) (by decide) rfl ?h23 (blkOk_by (N := ["kind", "span", "mates", "least", "greatest", "found", "b", "back", "first", "last", "a", "_", "pair"]) (sc := defScope s_wholes_between) (by decide +kernel)) (fun _ _ _ _ _ => pg_tup rfl (pgs_cons (pg_name (i := 11) sc_wholes_between.nd rfl (Or.inl rfl)) (pgs_cons (pg_name (i := 12) sc_wholes_between.nd rfl (Or.inl rfl)) pgs_nil))) (c_ofN (n_sorted3 hr.units m_sorted (ca_cons (nm 5 rfl (ca_nil ⟨R.map (fun z => (mtI k z, z.1, z.2)), ?h24, fun ts hperm hpw => ⟨?h29, (fun l acc q => acc = (ts.take l).map (fun t => pD (t.2.1, t.2.2)) ∧ q = [R.map (tgD k)]), fsD, snD, ⟨rfl, rfl⟩, fun z hz => n3_two hz, ⟨fun _ _ _ _ _ l d acc q hl hd hw => ?h25⟩, fun acc q hw ha => ?h26⟩⟩)))))))
      case h23 =>
        exact sc_wholes_between.nd
      case h24 =>
        rw [List.map_map]
        rfl
      case h25 =>
        obtain ⟨rfl, rfl⟩ := hw
        obtain ⟨t, ht, rfl⟩ := map_get hd
        refine (nm 12 rfl (And.intro rfl ⟨?h27, rfl⟩))
        case h27 =>
          exact take_next ht
      case h26 =>
        obtain ⟨rfl, rfl⟩ := hw
        refine ?h28
        case h28 =>
          rw [List.length_map, List.take_length]
          have hp := srt_out hperm
          have hf := hG (ts.map (fun t => ((t.2.1, t.2.2) : Z2))) (hp.nodup_iff.mpr S.nd) (fun z => (perm_mem hp z).trans (S.all W.kd hlo hhi z)) (by rw [hp.length_eq]; have := S.len; omega)
          rw [List.map_map] at hf
          exact hf
      case h29 =>
        first
          | (show -(2 ^ 62) ≤ (firI k a b n a2 b2 n2 (lo + (j : Int))) ∧ (firI k a b n a2 b2 n2 (lo + (j : Int))) < 2 ^ 62 ∧ -(2 ^ 62) ≤ (lasI k c e u c2 e2 u2 (lo + (j : Int))) + 1 ∧ (lasI k c e u c2 e2 u2 (lo + (j : Int))) + 1 < 2 ^ 62 ∧ (lasI k c e u c2 e2 u2 (lo + (j : Int))) + 1 - (firI k a b n a2 b2 n2 (lo + (j : Int))) ≤ 10000
             omega)
          | (rw [List.length_map, hperm.length_eq, List.length_map]
             have := S.len
             omega)
    case h30 =>
      obtain ⟨⟨l1, l2⟩, ⟨g1, g2⟩, few⟩ := W.lohi hlo hhi
      omega

end
end Y37

set_option Elab.async false
set_option linter.all false
set_option maxRecDepth 100000
set_option maxHeartbeats 8000000
namespace Y37
open PySem PySem.Spec PyProof.Rows L2 Evl Wz
open Y02 (Kd Nm psD sgP flQ flA flN rtF g3 sg sq_nn lsD)
open Y75 (Z2 mul mate add sub B2 LO mul_b mate_b B2.mono)
local macro_rules | `(tactic| walk_at "bd") => `(tactic| (repeat (first | assumption | apply Bd.mul | apply Bd.add | apply Bd.sub | apply Bd.neg | exact Bd.z | exact Bd.of _)))
local macro_rules | `(tactic| walk_at "bm") => `(tactic| (first | assumption | exact Bd.mono (by walk_at "bd") (by decide)))
local macro_rules | `(tactic| walk_at "b2") => `(tactic| (repeat (first | assumption | apply And.intro | walk_at "bm" | decide | omega)))
abbrev uS (k : Int) : Z2 := ((suF k).1, (suF k).2.1)
theorem uS_is (k : Int) : uS k = unS k ∧ (suF k).2.2 = 1 := by
  show ((suF k).1, (suF k).2.1) = unS k ∧ _
  unfold suF unS
  split
  · exact ⟨rfl, rfl⟩
  · split <;> exact ⟨rfl, rfl⟩
theorem uS_b {k : Int} (hk : Kd k) : B2 3 (uS k) := by
  rcases hk with rfl | rfl | rfl <;> (constructor <;> (show Int.natAbs _ < 2 ^ 3; decide))
theorem uSm_b {k : Int} (hk : Kd k) : B2 3 (mate k (uS k)) := by
  rcases hk with rfl | rfl | rfl <;> (constructor <;> (show Int.natAbs _ < 2 ^ 3; decide))
theorem ord_lt {k N x y z x2 y2 z2 s : Int} {p q : Z2} (hk : Kd k) (hN : 0 < N) (V : Vl N p x y z) (V2 : Vl N q x2 y2 z2) (hz : 0 < z) (hz2 : 0 < z2) (hs : s = psD k (x * z2 - x2 * z) (y * z2 - y2 * z)) : s < 0 ↔ lt k p q := by
  rw [hs, Y02.ps_ls hk]
  exact V.lt V2 hk hN hz hz2
/-- what the loops of scale_of hold -/
structure S1 (k N : Int) (d : Z2) (mm : Nat) (x y z : Int) (s : Z2) : Prop where
  v : Vl N (mul k d s) x y z
  nb : Nb (74 - 7 * mm) x y z
  bs : B2 (15 - 7 * mm) s
  st : St1 k N d mm s
structure S2 (k N : Int) (d : Z2) (mm : Nat) (x y z : Int) (s : Z2) : Prop where
  v : Vl N (mul k d s) x y z
  nb : Nb (81 - 7 * mm) x y z
  bs : B2 (22 - 7 * mm) s
  st : St2 k N d mm s
theorem S1.next {k N : Int} {d s : Z2} {mm : Nat} {x y z x' y' z' : Int} (h : S1 k N d mm x y z s) (hk : Kd k) (hN : 0 < N) (hd : le k (sc N (1, 0)) (sc 4 d)) (g : lt k (mul k d s) (sc N (1, 0))) (l : LO (mul k (x, y) (uS k)).1 (mul k (x, y) (uS k)).2 z x' y' z') (nb : Nb (74 - 7 * mm + 3 + 4) x' y' z') : ∃ m', m' < mm ∧ S1 k N d m' x' y' z' (mul k s (uS k)) := by
  obtain ⟨m', hm, st⟩ := h.st.next hk hN hd g
  have hm2 := st1_le h.st
  refine ⟨m', hm, ?_, nb.mono (by omega), (mul_b hk h.bs (uS_b hk)).mono (by omega), ?_⟩
  · rw [← Y75.mul_assoc]
    exact (h.v.mul (uS k)).lo l h.nb.p
  · rw [(uS_is k).1]
    exact st
theorem S1.two {k N : Int} {d s : Z2} {mm : Nat} {x y z : Int} (h : S1 k N d mm x y z s) (hk : Kd k) (h6 : le k d (sc N (6, 0))) (g : ¬ lt k (mul k d s) (sc N (1, 0))) : S2 k N d 1 x y z s :=
  ⟨h.v, h.nb.mono (by omega), h.bs.mono (by omega), h.st.two hk h6 g⟩
theorem S2.next {k N : Int} {d s : Z2} {mm : Nat} {x y z x' y' z' : Int} (h : S2 k N d mm x y z s) (hk : Kd k) (hN : 0 < N) (g : ¬ lt k (mul k d s) (sc N (unS k))) (l : LO (mul k (x, y) (mate k (uS k))).1 (mul k (x, y) (mate k (uS k))).2 z x' y' z') (nb : Nb (81 - 7 * mm + 3 + 4) x' y' z') : ∃ m', m' < mm ∧ S2 k N d m' x' y' z' (mul k s (mate k (uS k))) := by
  obtain ⟨e, st⟩ := h.st.next hk hN g
  subst e
  refine ⟨0, by decide, ?_, nb.mono (by omega), (mul_b hk h.bs (uSm_b hk)).mono (by omega), ?_⟩
  · rw [← Y75.mul_assoc]
    exact (h.v.mul (mate k (uS k))).lo l h.nb.p
  · rw [(uS_is k).1]
    exact st
theorem one_v (N : Int) : Vl N (sc N (1, 0)) 1 0 1 := Vl.int (1, 0)
theorem un_v (N k : Int) : Vl N (sc N (unS k)) (suF k).1 (suF k).2.1 (suF k).2.2 := by
  obtain ⟨e1, e2⟩ := uS_is k
  rw [e2, ← e1]
  exact Vl.int (uS k)
theorem one_nb : Nb 1900 1 0 1 := ⟨by decide, (Bd.of (1 : Int)).mono (by decide), (Bd.of (0 : Int)).mono (by decide), (Bd.of (1 : Int)).mono (by decide)⟩
theorem un_nb {k : Int} (hk : Kd k) : Nb 1900 (suF k).1 (suF k).2.1 (suF k).2.2 := by
  obtain ⟨e1, e2⟩ := uS_is k
  refine ⟨by rw [e2]; decide, (uS_b hk).1.mono (by decide), (uS_b hk).2.mono (by decide), ?_⟩
  rw [e2]
  exact one_nb.n
set_option exponentiation.threshold 1000000
section
variable {P : Program} {w : World} {K : PySem.W.Frag} {mg : Str → Option Value} {base : Heap}

/-! ### scale_of -/
abbrev s_scale_of : Stmt := topS 36
theorem sc_scale_of : FnScope ["kind", "length", "unit", "back", "scale"] ["kind", "length"] (defScope s_scale_of) := ⟨rfl, rfl, rfl, by decide +kernel, rfl, by decide +kernel, by decide +kernel⟩
def F_scale_of : FP := fun ds Q => ∃ k a b n N d, ds = [.int k, nD a b n] ∧ (Kd k ∧ 0 < N ∧ Nb 60 a b n ∧ Vl N d a b n ∧ le k (sc N (1, 0)) (sc 4 d) ∧ le k d (sc N (6, 0))) ∧ ∀ s, Sc k s → B2 22 s → le k (sc N (1, 0)) (mul k d s) → lt k (mul k d s) (sc N (unS k)) → Q (pD s)
theorem ok_scale_of {f : Addr} {fd : FuncData} (Fn : Fun K "scale_of" "scale_of" s_scale_of f fd) (c_pair_mate : Cl P w K mg base 1 "pair_mate" ["kind", "p"] (spP K F_pair_mate)) (c_number_order : Cl P w K mg base 2 "number_order" ["kind", "p", "q"] (spP K F_number_order)) (c_pair_times : Cl P w K mg base 1 "pair_times" ["kind", "p", "q"] (spP K F_pair_times)) (c_number_times : Cl P w K mg base 2 "number_times" ["kind", "p", "pair"] (spP K F_number_times)) (t_STRETCH_UNITS : KDI P w K mg "STRETCH_UNITS" suF) : FnOk P w K mg base CX0 3 f fd ["kind", "length"] (spP K F_scale_of) := by
  refine fn_P Fn sc_scale_of (fun ds G h => ?_) (fun cdv A outer s H Q E ds G hr hF hQ => ?_)
  · obtain ⟨k, a, b, n, N, d, rfl, ⟨hk, hN, hnb, V, h4, h6⟩, hG⟩ := h
    rfl
  · obtain ⟨k, a, b, n, N, d, rfl, ⟨hk, hN, hnb, V, h4, h6⟩, hG⟩ := hF
    have S0 : S1 k N d 2 a b n (1, 0) := ⟨by rw [Y75.mul_one]; exact V, hnb, ⟨Bd.of _, Bd.of _⟩, .inl ⟨rfl, rfl⟩⟩
    refine (as_asg (i := 2) ?h1 (c_cutT (c_kdi t_STRETCH_UNITS (nm 0 rfl (And.intro ?h2 (o_none (o_some (c_int (as_asg (i := 3) ?h3 (c_call c_pair_mate (hr.mono (by decide)) (ca_cons (nm 0 rfl (ca_cons (nm 2 rfl (ca_nil ⟨_, uS k, rfl, And.intro rfl (as_asg (i := 4) ?h4 (c_tup (ca_cons (c_int (ca_cons (c_int (ca_nil (And.intro (And.intro rfl (Nat.le_of_ble_eq_true rfl)) (as_while (W := fun mm es q => ∃ (x y z : Int) (s : Z2), es = [some (.int k), some (nD x y z), some (pD (uS k)), some (pD (mate k (uS k))), some (pD s)] ∧ q = [] ∧ S1 k N d mm x y z s) (B := fun _ _ => False) PassesOwn.never (2) ⟨a, b, n, (1, 0), rfl, rfl, S0⟩ (fun mm es q hw => ?h5) (fun _ _ h => h.elim))))))))))⟩)))))))))))))))
    case h1 =>
      exact sc_scale_of.nd
    case h2 =>
      assumption
    case h3 =>
      exact sc_scale_of.nd
    case h4 =>
      exact sc_scale_of.nd
    case h5 =>
      clear S0
      obtain ⟨x, y, z, s, rfl, rfl, S⟩ := hw
      refine (t_lt (c_call c_number_order (hr.mono (by decide)) (ca_cons (nm 0 rfl (ca_cons (nm 1 rfl (ca_cons (c_tup (ca_cons (c_int (ca_cons (c_int (ca_cons (c_int (ca_nil (And.intro (And.intro rfl (Nat.le_of_ble_eq_true rfl)) (ca_nil ⟨_, _, _, _, _, _, _, rfl, ?h6, fun no1 hno1 => And.intro rfl (c_int (And.intro (fun b1 => (as_asg (i := 4) ?h7 (c_call c_pair_times (hr.mono (by decide)) (ca_cons (nm 0 rfl (ca_cons (nm 4 rfl (ca_cons (nm 2 rfl (ca_nil ⟨_, s, uS k, rfl, ?h8, And.intro rfl (as_asg (i := 1) ?h9 (c_call c_number_times (hr.mono (by decide)) (ca_cons (nm 0 rfl (ca_cons (nm 1 rfl (ca_cons (nm 2 rfl (ca_nil ⟨_, _, _, _, (_, _), (74 - 7 * mm), 3, rfl, ?h10, fun tx1 ty1 tz1 tl1 tn1 => And.intro rfl (as_end rfl ?h11)⟩)))))))))⟩)))))))))) (fun b1 => (as_while (W := fun mm es q => ∃ (x y z : Int) (s : Z2), es = [some (.int k), some (nD x y z), some (pD (uS k)), some (pD (mate k (uS k))), some (pD s)] ∧ q = [] ∧ S2 k N d mm x y z s) (B := fun _ _ => False) PassesOwn.never (1) ⟨x, y, z, s, rfl, rfl, ?h12⟩ (fun mm es q hw => ?h13) (fun _ _ h => h.elim)))))⟩)))))))))))))))))
      case h6 =>
        first | exact ⟨hk, S.nb.mono (by omega), one_nb⟩ | exact ⟨hk, T.nb.mono (by omega), un_nb hk⟩
      case h7 =>
        exact sc_scale_of.nd
      case h8 =>
        first | exact ⟨hk, S.bs.mono (by omega), (uS_b hk).mono (by decide)⟩ | exact ⟨hk, T.bs.mono (by omega), (uSm_b hk).mono (by decide)⟩
      case h9 =>
        exact sc_scale_of.nd
      case h10 =>
        first | exact ⟨hk, S.nb, uS_b hk, by omega⟩ | exact ⟨hk, T.nb, uSm_b hk, by omega⟩
      case h11 =>
        obtain ⟨m2, hm2, S2⟩ := S.next hk hN h4 ((ord_lt hk hN S.v (one_v N) S.nb.p (by decide) hno1).mp (by assumption)) tl1 tn1
        exact ⟨m2, hm2, _, _, _, _, rfl, rfl, S2⟩
      case h12 =>
        exact S.two hk h6 (fun z => absurd ((ord_lt hk hN S.v (one_v N) S.nb.p (by decide) hno1).mpr z) (by assumption))
      case h13 =>
        clear S
        obtain ⟨x, y, z, s, rfl, rfl, T⟩ := hw
        refine (t_ge (c_call c_number_order (hr.mono (by decide)) (ca_cons (nm 0 rfl (ca_cons (nm 1 rfl (ca_cons (c_kdi t_STRETCH_UNITS (nm 0 rfl (And.intro ?h14 (ca_nil ⟨_, _, _, _, _, _, _, rfl, ?h15, fun no2 hno2 => And.intro rfl (c_int (And.intro (fun b2 => (as_asg (i := 4) ?h16 (c_call c_pair_times (hr.mono (by decide)) (ca_cons (nm 0 rfl (ca_cons (nm 4 rfl (ca_cons (nm 3 rfl (ca_nil ⟨_, s, mate k (uS k), rfl, ?h17, And.intro rfl (as_asg (i := 1) ?h18 (c_call c_number_times (hr.mono (by decide)) (ca_cons (nm 0 rfl (ca_cons (nm 1 rfl (ca_cons (nm 3 rfl (ca_nil ⟨_, _, _, _, (_, _), (81 - 7 * mm), 3, rfl, ?h19, fun tx2 ty2 tz2 tl2 tn2 => And.intro rfl (as_end rfl ?h20)⟩)))))))))⟩)))))))))) (fun b2 => (as_ret hQ (nm 4 rfl (And.intro rfl ?h21))))))⟩)))))))))))
        case h14 =>
          assumption
        case h15 =>
          first | exact ⟨hk, S.nb.mono (by omega), one_nb⟩ | exact ⟨hk, T.nb.mono (by omega), un_nb hk⟩
        case h16 =>
          exact sc_scale_of.nd
        case h17 =>
          first | exact ⟨hk, S.bs.mono (by omega), (uS_b hk).mono (by decide)⟩ | exact ⟨hk, T.bs.mono (by omega), (uSm_b hk).mono (by decide)⟩
        case h18 =>
          exact sc_scale_of.nd
        case h19 =>
          first | exact ⟨hk, S.nb, uS_b hk, by omega⟩ | exact ⟨hk, T.nb, uSm_b hk, by omega⟩
        case h20 =>
          obtain ⟨m2, hm2, S2⟩ := T.next hk hN (fun z => absurd ((ord_lt hk hN T.v (un_v N k) T.nb.p (un_nb hk).p hno2).mpr z) (by omega)) tl2 tn2
          exact ⟨m2, hm2, _, _, _, _, rfl, rfl, S2⟩
        case h21 =>
          exact hG _ T.st.1 (T.bs.mono (by omega)) T.st.2.1 ((ord_lt hk hN T.v (un_v N k) T.nb.p (un_nb hk).p hno2).mp (by omega))

end
end Y37

set_option Elab.async false
set_option linter.all false
set_option maxRecDepth 100000
set_option maxHeartbeats 8000000
namespace Y37
open PySem PySem.Spec PyProof.Rows L2 Evl Wz
open Y02 (Kd Nm psD sgP flQ flA flN rtF g3 sg sq_nn lsD)
open Y75 (Z2 mul mate add sub B2 LO mul_b mate_b B2.mono)
local macro_rules | `(tactic| walk_at "bd") => `(tactic| (repeat (first | assumption | apply Bd.mul | apply Bd.add | apply Bd.sub | apply Bd.neg | exact Bd.z | exact Bd.of _)))
local macro_rules | `(tactic| walk_at "bm") => `(tactic| (first | assumption | exact Bd.mono (by walk_at "bd") (by decide)))
local macro_rules | `(tactic| walk_at "b2") => `(tactic| (repeat (first | assumption | apply And.intro | walk_at "bm" | decide | omega)))
/-- a row and a stretch, over one denominator -/
structure Pb (k N : Int) (p q l h : Z2) (a b n c e u x y v x2 y2 v2 : Int) : Prop where
  kd : Kd k
  h0 : 0 < N
  s1 : Nb 24 a b n
  s2 : Nb 24 c e u
  s3 : Nb 24 x y v
  s4 : Nb 24 x2 y2 v2
  w1 : Vl N l a b n
  w2 : Vl N h c e u
  w3 : Vl N p x y v
  w4 : Vl N q x2 y2 v2
  z4 : le k (sc N (1, 0)) (sc 4 (sub h l))
  z6 : le k (sub h l) (sc N (6, 0))
  o : le k p q
  d : le k (sub q p) (sc N (150, 0))
theorem map_nl (R : List Z2) : (R.map (fun z => pD z)).all noL = true := List.all_eq_true.mpr fun d hd => by
  obtain ⟨z, _, rfl⟩ := List.mem_map.mp hd
  rfl
theorem mul_subr (k : Int) (p q r : Z2) : mul k (sub p q) r = sub (mul k p r) (mul k q r) := by
  rw [Y75.mul_comm, Y75.mul_sub, Y75.mul_comm k r, Y75.mul_comm k r]
/-- the scaled ones -/
theorem Pb.wi {k N : Int} {p q l h : Z2} {a b n c e u x y v x2 y2 v2 : Int} (W : Pb k N p q l h a b n c e u x y v x2 y2 v2) {s : Z2} (hs : Sc k s) (hge : le k (sc N (1, 0)) (mul k (sub h l) s)) (hlt : lt k (mul k (sub h l) s) (sc N (unS k)))
    {a' b' n' c' e' u' x' y' v' x2' y2' v2' : Int} (l1 : LO (mul k (a, b) s).1 (mul k (a, b) s).2 n a' b' n') (l2 : LO (mul k (c, e) s).1 (mul k (c, e) s).2 u c' e' u') (l3 : LO (mul k (x, y) (mate k s)).1 (mul k (x, y) (mate k s)).2 v x' y' v') (l4 : LO (mul k (x2, y2) (mate k s)).1 (mul k (x2, y2) (mate k s)).2 v2 x2' y2' v2')
    (n1 : Nb 52 a' b' n') (n2 : Nb 52 c' e' u') (n3 : Nb 52 x' y' v') (n4 : Nb 52 x2' y2' v2') : Wi k N (mul k p (mate k s)) (mul k q (mate k s)) (mul k l s) (mul k h s) x' y' v' x2' y2' v2' a' b' n' c' e' u' 900 := by
  have hk := W.kd
  have hms : le k (mate k s) (6, 0) := by
    have g := (le_mulr hk hs.q).mpr hge
    rw [sc_mulr, Y75.one_mul, sc_back hs] at g
    exact (le_sc hk W.h0).mp (le_trans hk g W.z6)
  refine ⟨hk, W.h0, n3, n4, n1, n2, (W.w3.mul _).lo l3 W.s3.p, (W.w4.mul _).lo l4 W.s4.p, (W.w1.mul _).lo l1 W.s1.p, (W.w2.mul _).lo l2 W.s2.p, ?_, ?_, by decide, by decide⟩
  · rw [← mul_subr]
    have g := (le_mulr hk hs.q).mpr W.d
    rw [sc_mulr] at g
    refine le_trans hk g ((le_sc hk W.h0).mpr ?_)
    rw [sc_mul]
    refine le_trans hk ((le_sc hk (by decide)).mpr hms) (le_of_eq hk ?_)
    rw [sc_int]
    rfl
  · rw [← mul_subr]
    exact lt_le hk (lt_le_t hk hlt (lt_le hk ((lt_sc hk W.h0).mpr (un_lt6 hk))))
instance ltDec {k : Int} {p q : Z2} : Decidable (lt k p q) := by
  unfold lt pos
  exact inferInstance
theorem e8 : (2 : Int) ^ (3 : Int).toNat = 8 := rfl
abbrev f8 (k : Int) (z : Z2) : Int := flI k (z.1 * 2 ^ (3 : Int).toNat) (z.2 * 2 ^ (3 : Int).toNat) 1
abbrev t8D (k : Int) (z : Z2) : Dat := n3D (f8 k z, z.1, z.2)
theorem t8_nl (k : Int) (R : List Z2) : (R.map (t8D k)).all noL = true := List.all_eq_true.mpr fun d hd => by
  obtain ⟨z, _, rfl⟩ := List.mem_map.mp hd
  rfl
theorem fil_yes {α : Type} {R : List α} {P : α → Bool} {j : Nat} {z : α} (h : R[j]? = some z) (p : P z = true) : (R.take (j + 1)).filter P = (R.take j).filter P ++ [z] := by
  rw [List.take_add_one, h, List.filter_append]
  show _ ++ List.filter P [z] = _
  rw [List.filter_cons_of_pos p]
  rfl
theorem fil_no {α : Type} {R : List α} {P : α → Bool} {j : Nat} {z : α} (h : R[j]? = some z) (p : ¬ P z = true) : (R.take (j + 1)).filter P = (R.take j).filter P := by
  rw [List.take_add_one, h, List.filter_append]
  show _ ++ List.filter P [z] = _
  rw [List.filter_cons_of_neg p]
  exact List.append_nil _
theorem fil_len {α : Type} (R : List α) (P : α → Bool) (j : Nat) : ((R.take j).filter P).length ≤ R.length := Nat.le_trans (List.length_filter_le ..) (by rw [List.length_take]; exact Nat.min_le_right ..)
abbrev prZ (t : I3) : Z2 := (t.2.1, t.2.2)
theorem srt_mem {f : Z2 → Int} {R : List Z2} {ts : List I3} (hp : ts.Perm (R.map fun z => (f z, z.1, z.2))) {t : I3} (ht : t ∈ ts) : prZ t ∈ R ∧ t.1 = f (prZ t) := by
  obtain ⟨z, hz, e⟩ := List.mem_map.mp (hp.mem_iff.mp ht)
  subst e
  exact ⟨hz, rfl⟩
/-- what members_between tells -/
theorem Pb.out {k N : Int} {p q l h s : Z2} {M : List Z2} {ts : List I3} (hk : Kd k) (hN : 0 < N) (hs : Sc k s) (hq : le k (sub (mul k h s) (mul k l s)) (sc N (6, 0))) (nd : M.Nodup) (mem : ∀ z, z ∈ M ↔ Mb k N (mul k p (mate k s)) (mul k q (mate k s)) (mul k l s) (mul k h s) z) (hp : ts.Perm (M.map fun z => (f8 k z, z.1, z.2))) (hpw : ts.Pairwise (fun x y => ¬ lt3 y x)) :
    (ts.map fun t => mul k (prZ t) s).Pairwise (lt k) ∧ (∀ z, z ∈ (ts.map fun t => mul k (prZ t) s) ↔ Mb k N p q l h z) ∧ (ts.map fun t => mul k (prZ t) s).length = M.length := by
  have pm := srt_out hp
  have nd2 : ts.Pairwise (fun x y => prZ x ≠ prZ y) := List.pairwise_map.mp (pm.nodup_iff.mpr nd)
  refine ⟨List.pairwise_map.mpr ((hpw.and nd2).imp_of_mem fun {x y} hx hy g => ?_), fun z => ?_, ?_⟩
  · obtain ⟨g1, g2⟩ := g
    obtain ⟨mx, ex⟩ := srt_mem hp hx
    obtain ⟨my, ey⟩ := srt_mem hp hy
    refine (lt_mulr hk hs.p).mpr (Mb.ord hk hN hq ((mem _).mp mx) ((mem _).mp my) g2 fun z => g1 (.inl ?_))
    rw [ex, ey]
    exact z
  · rw [List.mem_map]
    constructor
    · rintro ⟨t, ht, rfl⟩
      exact (mb_sc hk hs).mpr ((mem _).mp (srt_mem hp ht).1)
    · intro hz
      have w : mul k z (mate k s) ∈ M := (mem _).mpr (by
        rw [← mb_sc hk hs, sc_fore hs]
        exact hz)
      refine ⟨(f8 k (mul k z (mate k s)), (mul k z (mate k s)).1, (mul k z (mate k s)).2), hp.mem_iff.mpr (List.mem_map.mpr ⟨_, w, rfl⟩), ?_⟩
      exact sc_fore hs z
  · rw [List.length_map, hp.length_eq, List.length_map]
set_option exponentiation.threshold 1000000
section
variable {P : Program} {w : World} {K : PySem.W.Frag} {mg : Str → Option Value} {base : Heap}

/-! ### members_between -/
abbrev s_members_between : Stmt := topS 37
theorem sc_members_between : FnScope ["kind", "stretch", "span", "scale", "mates", "near", "found", "pair", "_"] ["kind", "stretch", "span"] (defScope s_members_between) := ⟨rfl, rfl, rfl, by decide +kernel, rfl, by decide +kernel, by decide +kernel⟩
def F_members_between : FN := fun ds Q => ∃ k N p q l h a b n c e u x y v x2 y2 v2, ds = [.int k, n2D a b n c e u, n2D x y v x2 y2 v2] ∧ Pb k N p q l h a b n c e u x y v x2 y2 v2 ∧ ∀ R : List Z2, R.Pairwise (lt k) → (∀ z, z ∈ R ↔ Mb k N p q l h z) → R.length ≤ 4000 → Q (R.map (fun z => pD z))
theorem ok_members_between {f : Addr} {fd : FuncData} (Fn : Fun K "members_between" "members_between" s_members_between f fd) (c_scale_of : Cl P w K mg base 3 "scale_of" ["kind", "length"] (spP K F_scale_of)) (c_length_of : Cl P w K mg base 3 "length_of" ["stretch"] (spP K F_length_of)) (c_stretch_times : Cl P w K mg base 3 "stretch_times" ["kind", "stretch", "pair"] (spP K F_stretch_times)) (c_pair_mate : Cl P w K mg base 1 "pair_mate" ["kind", "p"] (spP K F_pair_mate)) (c_wholes_between : Cl P w K mg base 4 "wholes_between" ["kind", "span", "mates"] (spN K F_wholes_between)) (c_number_order : Cl P w K mg base 2 "number_order" ["kind", "p", "q"] (spP K F_number_order)) (c_mate_number : Cl P w K mg base 2 "mate_number" ["kind", "pair"] (spP K F_mate_number)) (c_whole_floor : Cl P w K mg base 1 "whole_floor" ["kind", "a", "b", "n"] (spP K F_whole_floor)) (c_pair_times : Cl P w K mg base 1 "pair_times" ["kind", "p", "q"] (spP K F_pair_times)) (m_sorted : mg "sorted" = none) (t_FINE_spacings : KI mg "FINE_spacings" 3) : FnOk P w K mg base CX0 5 f fd ["kind", "stretch", "span"] (spN K F_members_between) := by
  refine fn_N Fn sc_members_between (fun ds G h => ?_) (fun cdv A outer s H Q E ds G hr hF hQ => ?_)
  · obtain ⟨k, N, p, q, l, h, a, b, n, c, e, u, x, y, v, x2, y2, v2, rfl, W, hG⟩ := h
    rfl
  · obtain ⟨k, N, p, q, l, h, a, b, n, c, e, u, x, y, v, x2, y2, v2, rfl, W, hG⟩ := hF
    have hk := W.kd
    have hN := W.h0
    refine (as_asg (i := 3) (hx := .inr rfl) ?h1 (c_call c_scale_of (hr.mono (by decide)) (ca_cons (nm 0 rfl (ca_cons (c_call c_length_of (hr.mono (by decide)) (ca_cons (nm 1 rfl (ca_nil ⟨_, _, _, _, _, _, 24, rfl, ?h2, fun gx gy gz gl gn => And.intro rfl (ca_nil ⟨_, _, _, _, N, sub h l, rfl, ?h3, fun s hsc hsb hge hlt => And.intro rfl (as_asg (i := 4) ?h4 (c_call c_stretch_times (hr.mono (by decide)) (ca_cons (nm 0 rfl (ca_cons (nm 1 rfl (ca_cons (nm 3 rfl (ca_nil ⟨_, _, _, _, _, _, _, s, 24, 22, rfl, ?h5, fun ax1 ay1 az1 cx1 cy1 cz1 al1 an1 cl1 cn1 => And.intro rfl (as_asg (i := 5) ?h6 (c_call c_stretch_times (hr.mono (by decide)) (ca_cons (nm 0 rfl (ca_cons (nm 2 rfl (ca_cons (c_call c_pair_mate (hr.mono (by decide)) (ca_cons (nm 0 rfl (ca_cons (nm 3 rfl (ca_nil ⟨_, s, rfl, And.intro rfl (ca_nil ⟨_, _, _, _, _, _, _, (mate k s), 24, 23, rfl, ?h7, fun ax2 ay2 az2 cx2 cy2 cz2 al2 an2 cl2 cn2 => And.intro rfl (as_asgN (i := 6) ?h8 (n_disp (ca_nil (And.intro (And.intro rfl (Nat.le_of_ble_eq_true rfl)) (And.intro ?h9 (fun _ => (as_forL (i := 7) ?h10 rfl PassesOwn.never (c_ofN (n_call c_wholes_between (hr.mono (by decide)) (ca_cons (nm 0 rfl (ca_cons (nm 5 rfl (ca_cons (nm 4 rfl (ca_nil ⟨_, N, mul k p (mate k s), mul k q (mate k s), mul k l s, mul k h s, _, _, _, _, _, _, _, _, _, _, _, _, 900, rfl, W.wi hsc hge hlt al1 cl1 al2 cl2 (an1.mono (by decide)) (cn1.mono (by decide)) (an2.mono (by decide)) (cn2.mono (by decide)), fun R hnd hmem hlen => And.intro (map_nl R) ⟨(fun j es q => ∃ (o7 o8 : Option Dat), es = [some (.int k), some (n2D a b n c e u), some (n2D x y v x2 y2 v2), some (pD s), some (n2D ax1 ay1 az1 cx1 cy1 cz1), some (n2D ax2 ay2 az2 cx2 cy2 cz2), some (.cel 0), o7, o8] ∧ q = [((R.take j).filter (fun z => decide (lt k (sc N (mate k z)) (mul k h s)))).map (t8D k)]), (fun _ _ => False), ⟨_, _, rfl, rfl⟩, ⟨fun H10 e10 fr0 j d es q hj hd hw => ?h11, fun es q hw => ?h12, fun _ _ h => h.elim⟩⟩⟩))))))))))))))))⟩)⟩)))))))))))))⟩)))))))))⟩)⟩)))))))))
    case h1 =>
      exact sc_members_between.nd
    case h2 =>
      exact ⟨W.s1, W.s2, by decide⟩
    case h3 =>
      exact ⟨hk, hN, gn.mono (by decide), (W.w2.sub W.w1).lo gl (Int.mul_pos W.s2.p W.s1.p), W.z4, W.z6⟩
    case h4 =>
      exact sc_members_between.nd
    case h5 =>
      first | exact ⟨hk, W.s1, W.s2, hsb, by decide⟩ | exact ⟨hk, W.s3, W.s4, mate_b hsb, by decide⟩
    case h6 =>
      exact sc_members_between.nd
    case h7 =>
      first | exact ⟨hk, W.s1, W.s2, hsb, by decide⟩ | exact ⟨hk, W.s3, W.s4, mate_b hsb, by decide⟩
    case h8 =>
      exact sc_members_between.nd
    case h9 =>
      first | rfl | exact t8_nl _ _
    case h10 =>
      exact sc_members_between.nd
    case h11 =>
      have W2 := W.wi hsc hge hlt al1 cl1 al2 cl2 (an1.mono (by decide)) (cn1.mono (by decide)) (an2.mono (by decide)) (cn2.mono (by decide))
      have VH : Vl N (mul k h s) cx1 cy1 cz1 := (W.w2.mul s).lo cl1 W.s2.p
      obtain ⟨o7, o8, rfl, rfl⟩ := hw
      obtain ⟨z, hz, rfl⟩ := map_get hd
      have hzb := W2.bz ((hmem z).mp (List.mem_of_getElem? hz))
      have hmz := mate_b (k := k) hzb
      refine (as_ifn (t_lt (c_call c_number_order (hr.mono (by decide)) (ca_cons (nm 0 rfl (ca_cons (c_call c_mate_number (hr.mono (by decide)) (ca_cons (nm 0 rfl (ca_cons (nm 7 rfl (ca_nil ⟨_, z, rfl, And.intro rfl (ca_cons (c_ixTn (nm 4 rfl (c_int (And.intro (by decide) (ca_nil ⟨_, _, _, _, _, _, _, rfl, ?h13, fun no1 hno1 => And.intro rfl (c_int (And.intro (fun b1 => (as_drop (c_append (nm 6 rfl (ca_cons (c_tup (ca_cons (c_call c_whole_floor (hr.mono (by decide)) (ca_cons (nm 0 rfl (ca_cons (c_shl (c_ixTn (nm 7 rfl (c_int (And.intro (by decide) (c_ki t_FINE_spacings (And.intro ?h14 (ca_cons (c_shl (c_ixTn (nm 7 rfl (c_int (And.intro (by decide) (c_ki t_FINE_spacings (And.intro ?h15 (ca_cons (c_int (ca_nil ⟨_, _, _, _, rfl, ?h16, fun wf1 hwf1 => And.intro rfl (ca_cons (nm 7 rfl (ca_nil (And.intro (And.intro rfl (Nat.le_of_ble_eq_true rfl)) (ca_nil ⟨rfl, _, rfl, ?h17, (as_go (as_end rfl ?h18))⟩)))))⟩))))))))))))))))))))))))))))) (fun b1 => (as_end rfl ?h19))))⟩))))))⟩))))))))))))
      case h13 =>
        exact ⟨hk, ⟨by decide, hmz.1.mono (by decide), hmz.2.mono (by decide), (Bd.of (1 : Int)).mono (by decide)⟩, cn1.mono (by decide)⟩
      case h14 =>
        first | exact shl_ok hzb.1 (by decide) | exact shl_ok hzb.2 (by decide)
      case h15 =>
        first | exact shl_ok hzb.1 (by decide) | exact shl_ok hzb.2 (by decide)
      case h16 =>
        exact ⟨hk, (hzb.1.mul (show Bd 4 ((2 : Int) ^ (3 : Int).toNat) by show Int.natAbs _ < 2 ^ 4; decide)).mono (by decide), (hzb.2.mul (show Bd 4 ((2 : Int) ^ (3 : Int).toNat) by show Int.natAbs _ < 2 ^ 4; decide)).mono (by decide), (Bd.of (1 : Int)).mono (by decide), by decide⟩
      case h17 =>
        rw [List.length_map]
        exact Nat.lt_of_le_of_lt (fil_len _ _ _) (by omega)
      case h18 =>
        first
          | exact ⟨_, _, rfl, by rw [fil_yes hz (decide_eq_true ((ord_lt hk hN (Vl.int (mate k z)) VH (by decide) cn1.p hno1).mp (by assumption))), List.map_append, hwf1]; rfl⟩
          | exact ⟨_, _, rfl, by rw [fil_no hz (fun gg => absurd ((ord_lt hk hN (Vl.int (mate k z)) VH (by decide) cn1.p hno1).mpr (of_decide_eq_true gg)) (by assumption))]⟩
      case h19 =>
        first
          | exact ⟨_, _, rfl, by rw [fil_yes hz (decide_eq_true ((ord_lt hk hN (Vl.int (mate k z)) VH (by decide) cn1.p hno1).mp (by assumption))), List.map_append, hwf1]; rfl⟩
          | exact ⟨_, _, rfl, by rw [fil_no hz (fun gg => absurd ((ord_lt hk hN (Vl.int (mate k z)) VH (by decide) cn1.p hno1).mpr (of_decide_eq_true gg)) (by assumption))]⟩
    case h12 =>
      have W2 := W.wi hsc hge hlt al1 cl1 al2 cl2 (an1.mono (by decide)) (cn1.mono (by decide)) (an2.mono (by decide)) (cn2.mono (by decide))
      have VH : Vl N (mul k h s) cx1 cy1 cz1 := (W.w2.mul s).lo cl1 W.s2.p
      obtain ⟨o7, o8, rfl, rfl⟩ := hw
      refine (as_retN hQ (n_lcL2 (i := 8) (j := 7) (by decide) rfl ?h20 (blkOk_by (N := ["kind", "stretch", "span", "scale", "mates", "near", "found", "pair", "_"]) (sc := defScope s_members_between) (by decide +kernel)) (fun _ _ _ _ _ => pg_tup rfl (pgs_cons (pg_name (i := 8) sc_members_between.nd rfl (Or.inl rfl)) (pgs_cons (pg_name (i := 7) sc_members_between.nd rfl (Or.inl rfl)) pgs_nil))) (c_ofN (n_sorted3 hr.units m_sorted (ca_cons (nm 6 rfl (ca_nil ⟨((R.take (R.map (fun z => pD z)).length).filter (fun z => decide (lt k (sc N (mate k z)) (mul k h s)))).map (fun z => (f8 k z, z.1, z.2)), ?h21, fun ts hperm hpw => ⟨?h26, (fun l acc q => acc = (ts.take l).map (fun t => pD (mul k (prZ t) s)) ∧ q = [(((R.take (R.map (fun z => pD z)).length).filter (fun z => decide (lt k (sc N (mate k z)) (mul k h s)))).map (t8D k))]), fsD, snD, ⟨rfl, rfl⟩, fun z hz => n3_two hz, ⟨fun _ _ _ _ _ l d acc q hl hd hw => ?h22⟩, fun acc q hw ha => ?h23⟩⟩)))))))
      case h20 =>
        exact sc_members_between.nd
      case h21 =>
        rw [List.map_map]
        rfl
      case h22 =>
        obtain ⟨rfl, rfl⟩ := hw
        obtain ⟨t, ht, rfl⟩ := map_get hd
        have htb : B2 60 (prZ t) := W2.bz ((hmem _).mp (List.mem_of_mem_take (List.mem_filter.mp (srt_mem hperm (List.mem_of_getElem? ht)).1).1))
        refine (c_call c_pair_times (hr.mono (by decide)) (ca_cons (nm 0 rfl (ca_cons (nm 7 rfl (ca_cons (nm 3 rfl (ca_nil ⟨_, prZ t, s, rfl, ⟨hk, htb.mono (by decide), hsb.mono (by decide)⟩, And.intro rfl (And.intro rfl ⟨?h24, rfl⟩)⟩))))))))
        case h24 =>
          exact take_next ht
      case h23 =>
        obtain ⟨rfl, rfl⟩ := hw
        refine ?h25
        case h25 =>
          rw [List.length_map, List.take_length]
          rw [show R.take (R.map (fun z => pD z)).length = R by rw [List.length_map, List.take_length]] at hperm
          obtain ⟨r1, r2, r3⟩ := Pb.out (p := p) (q := q) hk hN hsc W2.lq (hnd.filter _) (fun z => by rw [List.mem_filter, Mb.wb hk, hmem, decide_eq_true_iff]) hperm hpw
          have hf := hG _ r1 r2 (by rw [r3]; exact Nat.le_trans (List.length_filter_le ..) hlen)
          rw [List.map_map] at hf
          exact hf
      case h26 =>
        rw [List.length_map, hperm.length_eq, List.length_map]
        exact Nat.le_trans (fil_len _ _ _) (by omega)

end
end Y37

set_option Elab.async false
set_option linter.all false
set_option maxRecDepth 100000
set_option maxHeartbeats 8000000
namespace Y37
open PySem PySem.Spec PyProof.Rows L2 Evl Wz
open Y02 (Kd Nm psD sgP flQ flA flN rtF g3 sg sq_nn lsD)
open Y75 (Z2 mul mate add sub B2 LO mul_b mate_b B2.mono)
local macro_rules | `(tactic| walk_at "bd") => `(tactic| (repeat (first | assumption | apply Bd.mul | apply Bd.add | apply Bd.sub | apply Bd.neg | exact Bd.z | exact Bd.of _)))
local macro_rules | `(tactic| walk_at "bm") => `(tactic| (first | assumption | exact Bd.mono (by walk_at "bd") (by decide)))
local macro_rules | `(tactic| walk_at "b2") => `(tactic| (repeat (first | assumption | apply And.intro | walk_at "bm" | decide | omega)))
theorem Pb.rw {k N : Int} {p q l h : Z2} {a b n c e u x y v x2 y2 v2 : Int} (W : Pb k N p q l h a b n c e u x y v x2 y2 v2) (h1 : Nm a b n) (h2 : Nm c e u) : Rw k a b n c e u :=
  ⟨W.kd, h1, h2, W.s1.mono (by decide), W.s2.mono (by decide), (ord_lt W.kd W.h0 W.w1 W.w2 W.s1.p W.s2.p rfl).mpr (pos_ge W.kd W.h0 W.z4)⟩
theorem Pb.no {k N : Int} {p q l h : Z2} {a b n c e u x y v x2 y2 v2 s : Int} (W : Pb k N p q l h a b n c e u x y v x2 y2 v2) (hs : s = psD k (x * v2 - x2 * v) (y * v2 - y2 * v)) (g : s > 0) : False := by
  rw [hs, Y02.ps_ls W.kd, ls_sub] at g
  exact W.o ((W.w4.lt W.w3 W.kd W.h0 W.s4.p W.s3.p).mp (by omega))
set_option exponentiation.threshold 1000000
section
variable {P : Program} {w : World} {K : PySem.W.Frag} {mg : Str → Option Value} {base : Heap}

/-! ### members -/
abbrev s_members : Stmt := topS 44
theorem sc_members : FnScope ["row", "left", "right"] ["row", "left", "right"] (defScope s_members) := ⟨rfl, rfl, rfl, by decide +kernel, rfl, by decide +kernel, by decide +kernel⟩
def F_members : FN := fun ds Q => ∃ k N p q l h a b n c e u x y v x2 y2 v2, ds = [rwD k a b n c e u, nD x y v, nD x2 y2 v2] ∧ (Pb k N p q l h a b n c e u x y v x2 y2 v2 ∧ Nm a b n ∧ Nm c e u ∧ Nm x y v ∧ Nm x2 y2 v2) ∧ ∀ R : List Z2, R.Pairwise (lt k) → (∀ z, z ∈ R ↔ Mb k N p q l h z) → R.length ≤ 4000 → Q (R.map (fun z => pD z))
theorem ok_members {f : Addr} {fd : FuncData} (Fn : Fun K "members" "members" s_members f fd) (c_check_row : Cl P w K mg base 4 "check_row" ["told"] (spP K F_check_row)) (c_check_number : Cl P w K mg base 3 "check_number" ["told"] (spP K F_check_number)) (c_number_order : Cl P w K mg base 2 "number_order" ["kind", "p", "q"] (spP K F_number_order)) (c_members_between : Cl P w K mg base 5 "members_between" ["kind", "stretch", "span"] (spN K F_members_between)) : FnOk P w K mg base CX0 6 f fd ["row", "left", "right"] (spN K F_members) := by
  refine fn_N Fn sc_members (fun ds G h => ?_) (fun cdv A outer s H Q E ds G hr hF hQ => ?_)
  · obtain ⟨k, N, p, q, l, h, a, b, n, c, e, u, x, y, v, x2, y2, v2, rfl, ⟨W, hm1, hm2, hm3, hm4⟩, hG⟩ := h
    rfl
  · obtain ⟨k, N, p, q, l, h, a, b, n, c, e, u, x, y, v, x2, y2, v2, rfl, ⟨W, hm1, hm2, hm3, hm4⟩, hG⟩ := hF
    refine (as_drop (c_call c_check_row (hr.mono (by decide)) (ca_cons (nm 0 rfl (ca_nil ⟨_, _, _, _, _, _, _, rfl, ?h1, And.intro rfl (as_drop (c_call c_check_number (hr.mono (by decide)) (ca_cons (nm 1 rfl (ca_nil ⟨_, _, _, rfl, ?h2, And.intro rfl (as_drop (c_call c_check_number (hr.mono (by decide)) (ca_cons (nm 2 rfl (ca_nil ⟨_, _, _, rfl, ?h3, And.intro rfl (as_ifn (t_gt (c_call c_number_order (hr.mono (by decide)) (ca_cons (c_ixTn (nm 0 rfl (c_int (And.intro (by decide) (ca_cons (nm 1 rfl (ca_cons (nm 2 rfl (ca_nil ⟨_, _, _, _, _, _, _, rfl, ?h4, fun no1 hno1 => And.intro rfl (c_int (And.intro (fun b1 => ?h5) (fun b1 => (as_retN hQ (n_call c_members_between (hr.mono (by decide)) (ca_cons (c_ixTn (nm 0 rfl (c_int (And.intro (by decide) (ca_cons (c_cutT (nm 0 rfl (o_some (c_int (o_none (ca_cons (c_tup (ca_cons (nm 1 rfl (ca_cons (nm 2 rfl (ca_nil (And.intro (And.intro rfl (Nat.le_of_ble_eq_true rfl)) (ca_nil ⟨_, N, p, q, l, h, _, _, _, _, _, _, _, _, _, _, _, _, rfl, W, fun R hpw hmem hlen => And.intro (map_nl R) ?h6⟩)))))))))))))))))))))))))⟩)))))))))))))⟩)))))⟩)))))⟩)))))
    case h1 =>
      exact W.rw hm1 hm2
    case h2 =>
      first | exact hm3 | exact hm4
    case h3 =>
      first | exact hm3 | exact hm4
    case h4 =>
      exact ⟨W.kd, W.s3.mono (by decide), W.s4.mono (by decide)⟩
    case h5 =>
      exact (W.no hno1 (by assumption)).elim
    case h6 =>
      exact hG R hpw hmem hlen

theorem dW_mt {k : Int} (hk : Kd k) : mul k (dW k) (mate k (dW k)) = (-(if k = 2 then 8 else if k = 3 then 12 else 5), 0) := by rcases hk with rfl | rfl | rfl <;> decide
theorem dW_b {k : Int} (hk : Kd k) : B2 3 (dW k) := by
  rcases hk with rfl | rfl | rfl <;> (constructor <;> (show Int.natAbs _ < 2 ^ 3; decide))
def nrD (k : Int) : Int := if k = 2 then 8 else if k = 3 then 12 else 5
theorem nrD_b {k : Int} : 0 < nrD k ∧ Bd 4 (nrD k) := by
  unfold nrD
  split
  · exact ⟨by decide, by show Int.natAbs _ < 2 ^ 4; decide⟩
  · split <;> exact ⟨by decide, by show Int.natAbs _ < 2 ^ 4; decide⟩
/-- what below is -/
theorem below_is {k x y z : Int} (hk : Kd k) (l : LO (mul k ((dW k).1, (dW k).2) (mate k ((dW k).1, (dW k).2))).1 (mul k ((dW k).1, (dW k).2) (mate k ((dW k).1, (dW k).2))).2 (1 * 1) x y z) : x = -(nrD k) ∧ z = 1 := by
  obtain ⟨h1, _, h3⟩ := l.one rfl
  refine ⟨h1.trans ?_, h3⟩
  have e : mul k ((dW k).1, (dW k).2) (mate k ((dW k).1, (dW k).2)) = (-(nrD k), 0) := dW_mt hk
  rw [e]
theorem by_nb {k X Y Z : Int} {l : Nat} (h : Nb l X Y Z) : Nb (l + 4) (-1 * X * 1) (-1 * Y * 1) (Z * nrD k) := by
  refine ⟨Int.mul_pos h.p nrD_b.1, ?_, ?_, h.n.mul nrD_b.2⟩
  · rw [Int.mul_one, Int.neg_mul, Int.one_mul]
    exact h.a.neg.mono (by omega)
  · rw [Int.mul_one, Int.neg_mul, Int.one_mul]
    exact h.b.neg.mono (by omega)
theorem by_ok {k a b n X Y Z x y z : Int} (hk : Kd k) (hn : 0 < n) (l1 : LO (mul k (a, b) (mate k ((dW k).1, (dW k).2))).1 (mul k (a, b) (mate k ((dW k).1, (dW k).2))).2 (n * 1) X Y Z) (hZ : 0 < Z) (l3 : LO (-1 * X * 1) (-1 * Y * 1) (Z * nrD k) x y z) (hz : 0 < z) (t : Int) : t ≤ flI k x y z ↔ nge k a b n (sc t (dW k)) := by_is hk hn nrD_b.1 (dW_mt hk) l1 hZ l3 hz
theorem by_lo {k X Y Z x2 z2 x y z : Int} (hx : x2 = -(nrD k)) (hz : z2 = 1) (l : LO (-1 * X * z2) (-1 * Y * z2) (Z * (if x2 < 0 then -x2 else x2)) x y z) : LO (-1 * X * 1) (-1 * Y * 1) (Z * nrD k) x y z := by
  subst hx hz
  have := (nrD_b (k := k)).1
  rw [if_pos (by omega), Int.neg_neg] at l
  exact l
set_option exponentiation.threshold 1000000
/-! ### _law_by -/
abbrev s__law_by : Stmt := topS 59
theorem sc__law_by : FnScope ["kind", "p", "q", "other", "top", "below", "sign"] ["kind", "p", "q"] (defScope s__law_by) := ⟨rfl, rfl, rfl, by decide +kernel, rfl, by decide +kernel, by decide +kernel⟩
def F__law_by : FP := fun ds Q => ∃ k a b n c e q, ds = [.int k, nD a b n, nD c e q] ∧ (Kd k ∧ Nb 60 a b n ∧ c = (dW k).1 ∧ e = (dW k).2 ∧ q = 1) ∧ ∀ x y z, Nb 1809 x y z → (∀ t : Int, t ≤ flI k x y z ↔ nge k a b n (sc t (dW k))) → Q (nD x y z)
theorem ok__law_by {f : Addr} {fd : FuncData} (Fn : Fun K "_law_by" "_law_by" s__law_by f fd) (c__law_mate : Cl P w K mg base 1 "_law_mate" ["kind", "p"] (spP K F__law_mate)) (c__law_times : Cl P w K mg base 2 "_law_times" ["kind", "p", "q"] (spP K F__law_times)) (c__law_form : Cl P w K mg base 1 "_law_form" ["a", "b", "n"] (spP K F__law_form)) (m_abs : mg "abs" = none) : FnOk P w K mg base CX0 3 f fd ["kind", "p", "q"] (spP K F__law_by) := by
  refine fn_P Fn sc__law_by (fun ds G h => ?_) (fun cdv A outer s H Q E ds G hr hF hQ => ?_)
  · obtain ⟨k, a, b, n, c, e, q, rfl, ⟨hk, hnb, rfl, rfl, rfl⟩, hG⟩ := h
    rfl
  · obtain ⟨k, a, b, n, c, e, q, rfl, ⟨hk, hnb, rfl, rfl, rfl⟩, hG⟩ := hF
    have hmt := mate_b (k := k) (dW_b hk)
    have hmn : Nb 900 (mate k ((dW k).1, (dW k).2)).1 (mate k ((dW k).1, (dW k).2)).2 1 := ⟨by decide, hmt.1.mono (by decide), hmt.2.mono (by decide), (Bd.of (1 : Int)).mono (by decide)⟩
    have hdn : Nb 900 (dW k).1 (dW k).2 1 := ⟨by decide, (dW_b hk).1.mono (by decide), (dW_b hk).2.mono (by decide), (Bd.of (1 : Int)).mono (by decide)⟩
    have hd0 := nrD_b (k := k)
    have hd1 := hd0.1
    have neg1 : Bd 1 (-1 : Int) := by show Int.natAbs _ < 2 ^ 1; decide
    have pos1 : Bd 1 (1 : Int) := by show Int.natAbs _ < 2 ^ 1; decide
    refine (as_asg (i := 3) ?h1 (c_call c__law_mate (hr.mono (by decide)) (ca_cons (nm 0 rfl (ca_cons (nm 2 rfl (ca_nil ⟨_, _, _, _, rfl, And.intro rfl (as_par (i := 4) (j := 5) ?h2 rfl (ca_cons (c_call c__law_times (hr.mono (by decide)) (ca_cons (nm 0 rfl (ca_cons (nm 1 rfl (ca_cons (nm 3 rfl (ca_nil ⟨_, _, _, _, _, _, _, rfl, ?h3, fun qx1 qy1 qz1 ql1 qb1 => And.intro rfl (ca_cons (c_call c__law_times (hr.mono (by decide)) (ca_cons (nm 0 rfl (ca_cons (nm 2 rfl (ca_cons (nm 3 rfl (ca_nil ⟨_, _, _, _, _, _, _, rfl, ?h4, fun qx2 qy2 qz2 ql2 qb2 => And.intro rfl (ca_nil ⟨_, _, rfl, (as_asg (i := 6) ?h5 (c_if (t_gt (c_ixTn (nm 5 rfl (c_int (And.intro (by decide) (c_int (And.intro (fun b1 => (c_int (as_ret hQ (c_call c__law_form (hr.mono (by decide)) (ca_cons (c_mul (c_mul (nm 6 rfl (c_ixTn (nm 4 rfl (c_int (And.intro (by decide) (And.intro ?h6 (c_ixTn (nm 5 rfl (c_int (And.intro (by decide) (And.intro ?h7 (ca_cons (c_mul (c_mul (nm 6 rfl (c_ixTn (nm 4 rfl (c_int (And.intro (by decide) (And.intro ?h8 (c_ixTn (nm 5 rfl (c_int (And.intro (by decide) (And.intro ?h9 (ca_cons (c_mul (c_ixTn (nm 4 rfl (c_int (And.intro (by decide) (c_abs m_abs (ca_cons (c_ixTn (nm 5 rfl (c_int (And.intro (by decide) (ca_nil (And.intro ?h10 (ca_nil ⟨_, _, _, 1809, rfl, ?h11, fun x1 y1 z1 lo1 nb1 => And.intro rfl (And.intro rfl ?h12)⟩))))))))))))))))))))))))))))))))))))))))))))))) (fun b1 => (c_neg (c_int (as_ret hQ (c_call c__law_form (hr.mono (by decide)) (ca_cons (c_mul (c_mul (nm 6 rfl (c_ixTn (nm 4 rfl (c_int (And.intro (by decide) (And.intro ?h13 (c_ixTn (nm 5 rfl (c_int (And.intro (by decide) (And.intro ?h14 (ca_cons (c_mul (c_mul (nm 6 rfl (c_ixTn (nm 4 rfl (c_int (And.intro (by decide) (And.intro ?h15 (c_ixTn (nm 5 rfl (c_int (And.intro (by decide) (And.intro ?h16 (ca_cons (c_mul (c_ixTn (nm 4 rfl (c_int (And.intro (by decide) (c_abs m_abs (ca_cons (c_ixTn (nm 5 rfl (c_int (And.intro (by decide) (ca_nil (And.intro ?h17 (ca_nil ⟨_, _, _, 1809, rfl, ?h18, fun x2 y2 z2 lo2 nb2 => And.intro rfl (And.intro rfl ?h19)⟩)))))))))))))))))))))))))))))))))))))))))))))))))))))))))⟩)⟩)))))))))⟩))))))))))⟩)))))))
    case h1 =>
      exact sc__law_by.nd
    case h2 =>
      exact sc__law_by.nd
    case h3 =>
      first | exact ⟨hk, hnb.mono (by decide), hmn⟩ | exact ⟨hk, hdn, hmn⟩
    case h4 =>
      first | exact ⟨hk, hnb.mono (by decide), hmn⟩ | exact ⟨hk, hdn, hmn⟩
    case h5 =>
      exact sc__law_by.nd
    case h6 =>
      first
        | exact (show False by have e := (below_is hk ql2).1; have d := hd0.1; omega).elim
        | (obtain ⟨e1, e2⟩ := below_is hk ql2
           subst e1 e2
           first
             | exact cm (n := 1) (m := 1805) neg1 qb1.a (by decide)
             | exact cm (n := 1) (m := 1805) neg1 qb1.b (by decide)
             | exact cm (n := 1806) (m := 1) (neg1.mul qb1.a) pos1 (by decide)
             | exact cm (n := 1806) (m := 1) (neg1.mul qb1.b) pos1 (by decide)
             | (rw [if_pos (by omega), Int.neg_neg]
                exact cm (n := 1805) (m := 4) qb1.n hd0.2 (by decide)))
    case h7 =>
      first
        | exact (show False by have e := (below_is hk ql2).1; have d := hd0.1; omega).elim
        | (obtain ⟨e1, e2⟩ := below_is hk ql2
           subst e1 e2
           first
             | exact cm (n := 1) (m := 1805) neg1 qb1.a (by decide)
             | exact cm (n := 1) (m := 1805) neg1 qb1.b (by decide)
             | exact cm (n := 1806) (m := 1) (neg1.mul qb1.a) pos1 (by decide)
             | exact cm (n := 1806) (m := 1) (neg1.mul qb1.b) pos1 (by decide)
             | (rw [if_pos (by omega), Int.neg_neg]
                exact cm (n := 1805) (m := 4) qb1.n hd0.2 (by decide)))
    case h8 =>
      first
        | exact (show False by have e := (below_is hk ql2).1; have d := hd0.1; omega).elim
        | (obtain ⟨e1, e2⟩ := below_is hk ql2
           subst e1 e2
           first
             | exact cm (n := 1) (m := 1805) neg1 qb1.a (by decide)
             | exact cm (n := 1) (m := 1805) neg1 qb1.b (by decide)
             | exact cm (n := 1806) (m := 1) (neg1.mul qb1.a) pos1 (by decide)
             | exact cm (n := 1806) (m := 1) (neg1.mul qb1.b) pos1 (by decide)
             | (rw [if_pos (by omega), Int.neg_neg]
                exact cm (n := 1805) (m := 4) qb1.n hd0.2 (by decide)))
    case h9 =>
      first
        | exact (show False by have e := (below_is hk ql2).1; have d := hd0.1; omega).elim
        | (obtain ⟨e1, e2⟩ := below_is hk ql2
           subst e1 e2
           first
             | exact cm (n := 1) (m := 1805) neg1 qb1.a (by decide)
             | exact cm (n := 1) (m := 1805) neg1 qb1.b (by decide)
             | exact cm (n := 1806) (m := 1) (neg1.mul qb1.a) pos1 (by decide)
             | exact cm (n := 1806) (m := 1) (neg1.mul qb1.b) pos1 (by decide)
             | (rw [if_pos (by omega), Int.neg_neg]
                exact cm (n := 1805) (m := 4) qb1.n hd0.2 (by decide)))
    case h10 =>
      first
        | exact (show False by have e := (below_is hk ql2).1; have d := hd0.1; omega).elim
        | (obtain ⟨e1, e2⟩ := below_is hk ql2
           subst e1 e2
           first
             | exact cm (n := 1) (m := 1805) neg1 qb1.a (by decide)
             | exact cm (n := 1) (m := 1805) neg1 qb1.b (by decide)
             | exact cm (n := 1806) (m := 1) (neg1.mul qb1.a) pos1 (by decide)
             | exact cm (n := 1806) (m := 1) (neg1.mul qb1.b) pos1 (by decide)
             | (rw [if_pos (by omega), Int.neg_neg]
                exact cm (n := 1805) (m := 4) qb1.n hd0.2 (by decide)))
    case h11 =>
      first
        | exact (show False by have e := (below_is hk ql2).1; have d := hd0.1; omega).elim
        | (obtain ⟨e1, e2⟩ := below_is hk ql2
           subst e1 e2
           rw [if_pos (by omega), Int.neg_neg]
           exact ⟨by_nb qb1, by decide⟩)
    case h12 =>
      first
        | exact (show False by have e := (below_is hk ql2).1; have d := hd0.1; omega).elim
        | exact hG _ _ _ nb2 (by_ok hk hnb.p ql1 qb1.p (by_lo (below_is hk ql2).1 (below_is hk ql2).2 lo2) nb2.p)
    case h13 =>
      first
        | exact (show False by have e := (below_is hk ql2).1; have d := hd0.1; omega).elim
        | (obtain ⟨e1, e2⟩ := below_is hk ql2
           subst e1 e2
           first
             | exact cm (n := 1) (m := 1805) neg1 qb1.a (by decide)
             | exact cm (n := 1) (m := 1805) neg1 qb1.b (by decide)
             | exact cm (n := 1806) (m := 1) (neg1.mul qb1.a) pos1 (by decide)
             | exact cm (n := 1806) (m := 1) (neg1.mul qb1.b) pos1 (by decide)
             | (rw [if_pos (by omega), Int.neg_neg]
                exact cm (n := 1805) (m := 4) qb1.n hd0.2 (by decide)))
    case h14 =>
      first
        | exact (show False by have e := (below_is hk ql2).1; have d := hd0.1; omega).elim
        | (obtain ⟨e1, e2⟩ := below_is hk ql2
           subst e1 e2
           first
             | exact cm (n := 1) (m := 1805) neg1 qb1.a (by decide)
             | exact cm (n := 1) (m := 1805) neg1 qb1.b (by decide)
             | exact cm (n := 1806) (m := 1) (neg1.mul qb1.a) pos1 (by decide)
             | exact cm (n := 1806) (m := 1) (neg1.mul qb1.b) pos1 (by decide)
             | (rw [if_pos (by omega), Int.neg_neg]
                exact cm (n := 1805) (m := 4) qb1.n hd0.2 (by decide)))
    case h15 =>
      first
        | exact (show False by have e := (below_is hk ql2).1; have d := hd0.1; omega).elim
        | (obtain ⟨e1, e2⟩ := below_is hk ql2
           subst e1 e2
           first
             | exact cm (n := 1) (m := 1805) neg1 qb1.a (by decide)
             | exact cm (n := 1) (m := 1805) neg1 qb1.b (by decide)
             | exact cm (n := 1806) (m := 1) (neg1.mul qb1.a) pos1 (by decide)
             | exact cm (n := 1806) (m := 1) (neg1.mul qb1.b) pos1 (by decide)
             | (rw [if_pos (by omega), Int.neg_neg]
                exact cm (n := 1805) (m := 4) qb1.n hd0.2 (by decide)))
    case h16 =>
      first
        | exact (show False by have e := (below_is hk ql2).1; have d := hd0.1; omega).elim
        | (obtain ⟨e1, e2⟩ := below_is hk ql2
           subst e1 e2
           first
             | exact cm (n := 1) (m := 1805) neg1 qb1.a (by decide)
             | exact cm (n := 1) (m := 1805) neg1 qb1.b (by decide)
             | exact cm (n := 1806) (m := 1) (neg1.mul qb1.a) pos1 (by decide)
             | exact cm (n := 1806) (m := 1) (neg1.mul qb1.b) pos1 (by decide)
             | (rw [if_pos (by omega), Int.neg_neg]
                exact cm (n := 1805) (m := 4) qb1.n hd0.2 (by decide)))
    case h17 =>
      first
        | exact (show False by have e := (below_is hk ql2).1; have d := hd0.1; omega).elim
        | (obtain ⟨e1, e2⟩ := below_is hk ql2
           subst e1 e2
           first
             | exact cm (n := 1) (m := 1805) neg1 qb1.a (by decide)
             | exact cm (n := 1) (m := 1805) neg1 qb1.b (by decide)
             | exact cm (n := 1806) (m := 1) (neg1.mul qb1.a) pos1 (by decide)
             | exact cm (n := 1806) (m := 1) (neg1.mul qb1.b) pos1 (by decide)
             | (rw [if_pos (by omega), Int.neg_neg]
                exact cm (n := 1805) (m := 4) qb1.n hd0.2 (by decide)))
    case h18 =>
      first
        | exact (show False by have e := (below_is hk ql2).1; have d := hd0.1; omega).elim
        | (obtain ⟨e1, e2⟩ := below_is hk ql2
           subst e1 e2
           rw [if_pos (by omega), Int.neg_neg]
           exact ⟨by_nb qb1, by decide⟩)
    case h19 =>
      first
        | exact (show False by have e := (below_is hk ql2).1; have d := hd0.1; omega).elim
        | exact hG _ _ _ nb2 (by_ok hk hnb.p ql1 qb1.p (by_lo (below_is hk ql2).1 (below_is hk ql2).2 lo2) nb2.p)

/-- what a row of a is told by -/
structure Wr (k N : Int) (l h : Z2) (a b n c e u t : Int) : Prop where
  kd : Kd k
  h0 : 0 < N
  s1 : Nb 24 a b n
  s2 : Nb 24 c e u
  w1 : Vl N l a b n
  w2 : Vl N h c e u
  z6 : le k (sub h l) (sc N (6, 0))
  t1 : -1152921504606846 ≤ t
  t2 : t ≤ 1152921504606846
theorem mate_neg {k t : Int} : mate k (0, -t) = neg (mate k (0, t)) := by
  unfold Y75.mate neg
  split
  · exact Prod.ext (by dsimp only; omega) rfl
  · exact Prod.ext (by dsimp only; omega) rfl
theorem ty_lo {a b n x y z k t : Int} (l : LO (a * 1 + (mate k (0, -t)).1 * n) (b * 1 + (mate k (0, -t)).2 * n) (n * 1) x y z) : LO (a * 1 + -(mate k (0, t)).1 * n) (b * 1 + -(mate k (0, t)).2 * n) (n * 1) x y z := by
  rw [mate_neg] at l
  exact l
theorem Wr.bd {k N : Int} {l h : Z2} {a b n c e u t : Int} (W : Wr k N l h a b n c e u t) : Nb 60 (mate k (0, -t)).1 (mate k (0, -t)).2 1 := by
  have g1 := W.t1
  have g2 := W.t2
  have e : B2 55 ((0, -t) : Z2) := ⟨by show Int.natAbs 0 < 2 ^ 55; decide, by show (-t).natAbs < 2 ^ 55; omega⟩
  have m := mate_b (k := k) e
  exact ⟨by decide, m.1.mono (by decide), m.2.mono (by decide), (Bd.of (1 : Int)).mono (by decide)⟩
/-- the ends -/
theorem Wr.ends {k N : Int} {l h : Z2} {a b n c e u t f g : Int} (W : Wr k N l h a b n c e u t) (hf : ∀ s : Int, f ≤ s ↔ le k l (sc N (add (s, 0) (mate k (0, t))))) (hg : ∀ s : Int, g ≤ s ↔ le k h (sc N (add (s, 0) (mate k (0, t))))) : (-1152921504606846976 ≤ f ∧ f ≤ 1152921504606846976) ∧ (-1152921504606846976 ≤ g ∧ g ≤ 1152921504606846976) ∧ g - f ≤ 7 := by
  have e : (2 : Int) ^ (24 + 2) = 67108864 := rfl
  have x1 := up_v W.kd W.h0 W.s1.p W.s1.a W.s1.b W.w1
  have x2 := up_v W.kd W.h0 W.s2.p W.s2.a W.s2.b W.w2
  rw [e] at x1 x2
  have g1 := W.t1
  have g2 := W.t2
  have mb := (mate_nb (k := k) (b := t) (B := 1152921504606846) (by omega)).1
  have y1 := ab_bd W.kd W.h0 hf x1.1 x1.2 mb
  have y2 := ab_bd W.kd W.h0 hg x2.1 x2.2 mb
  have y3 := row_few W.kd W.h0 hf hg W.z6
  exact ⟨by omega, by omega, y3⟩
set_option exponentiation.threshold 1000000
/-! ### _law_whole_in -/
abbrev s__law_whole_in : Stmt := topS 62
theorem sc__law_whole_in : FnScope ["kind", "low", "high", "b", "turned", "first", "last"] ["kind", "low", "high", "b"] (defScope s__law_whole_in) := ⟨rfl, rfl, rfl, by decide +kernel, rfl, by decide +kernel, by decide +kernel⟩
def F__law_whole_in : FN := fun ds Q => ∃ k N l h a b n c e u t, ds = [.int k, nD a b n, nD c e u, .int t] ∧ Wr k N l h a b n c e u t ∧ ∀ (f : Int) (mm : Nat), mm ≤ 7 → -1152921504606846976 ≤ f → f ≤ 1152921504606846976 → (∀ s : Int, (f ≤ s ∧ s < f + (mm : Int)) ↔ le k l (sc N (add (s, 0) (mate k (0, t)))) ∧ lt k (sc N (add (s, 0) (mate k (0, t)))) h) → Q ((List.range mm).map fun i : Nat => Dat.int (f + (i : Int)))
theorem ok__law_whole_in {f : Addr} {fd : FuncData} (Fn : Fun K "_law_whole_in" "_law_whole_in" s__law_whole_in f fd) (c__law_mate : Cl P w K mg base 1 "_law_mate" ["kind", "p"] (spP K F__law_mate)) (c__law_floor : Cl P w K mg base 2 "_law_floor" ["kind", "p"] (spP K F__law_floor)) (c__law_minus : Cl P w K mg base 3 "_law_minus" ["p", "q"] (spP K F__law_minus)) (c__law_plus : Cl P w K mg base 2 "_law_plus" ["p", "q"] (spP K F__law_plus)) (m_list : mg "list" = none) (m_range : mg "range" = none) : FnOk P w K mg base CX0 4 f fd ["kind", "low", "high", "b"] (spN K F__law_whole_in) := by
  refine fn_N Fn sc__law_whole_in (fun ds G h => ?_) (fun cdv A outer s H Q E ds G hr hF hQ => ?_)
  · obtain ⟨k, N, l, h, a, b, n, c, e, u, t, rfl, W, hG⟩ := h
    rfl
  · obtain ⟨k, N, l, h, a, b, n, c, e, u, t, rfl, W, hG⟩ := hF
    have hk := W.kd
    have htb := W.bd
    have z0 : Nb 121 0 0 1 := ⟨by decide, (Bd.of (0 : Int)).mono (by decide), (Bd.of (0 : Int)).mono (by decide), (Bd.of (1 : Int)).mono (by decide)⟩
    refine (as_asg (i := 4) ?h1 (c_call c__law_mate (hr.mono (by decide)) (ca_cons (nm 0 rfl (ca_cons (c_tup (ca_cons (c_int (ca_cons (c_neg (nm 3 rfl (ca_cons (c_int (ca_nil (And.intro (And.intro rfl (Nat.le_of_ble_eq_true rfl)) (ca_nil ⟨_, 0, -t, _, rfl, And.intro rfl (as_asg (i := 5) ?h2 (c_sub (c_int (c_call c__law_floor (hr.mono (by decide)) (ca_cons (nm 0 rfl (ca_cons (c_call c__law_minus (hr.mono (by decide)) (ca_cons (c_tup (ca_cons (c_int (ca_cons (c_int (ca_cons (c_int (ca_nil (And.intro (And.intro rfl (Nat.le_of_ble_eq_true rfl)) (ca_cons (c_call c__law_plus (hr.mono (by decide)) (ca_cons (nm 1 rfl (ca_cons (nm 4 rfl (ca_nil ⟨_, _, _, _, _, _, 60, rfl, ?h3, fun px1 py1 pz1 pl1 pb1 => And.intro rfl (ca_nil ⟨_, _, _, _, _, _, 121, rfl, ?h4, fun mx2 my2 mz2 ml2 mb2 => And.intro rfl (ca_nil ⟨_, _, _, _, rfl, ?h5, And.intro rfl (as_asg (i := 6) ?h6 (c_sub (c_sub (c_int (c_call c__law_floor (hr.mono (by decide)) (ca_cons (nm 0 rfl (ca_cons (c_call c__law_minus (hr.mono (by decide)) (ca_cons (c_tup (ca_cons (c_int (ca_cons (c_int (ca_cons (c_int (ca_nil (And.intro (And.intro rfl (Nat.le_of_ble_eq_true rfl)) (ca_cons (c_call c__law_plus (hr.mono (by decide)) (ca_cons (nm 2 rfl (ca_cons (nm 4 rfl (ca_nil ⟨_, _, _, _, _, _, 60, rfl, ?h7, fun px3 py3 pz3 pl3 pb3 => And.intro rfl (ca_nil ⟨_, _, _, _, _, _, 121, rfl, ?h8, fun mx4 my4 mz4 ml4 mb4 => And.intro rfl (ca_nil ⟨_, _, _, _, rfl, ?h9, And.intro rfl (c_int (as_retN hQ (n_listR2 rfl m_list m_range (nm 5 rfl (c_add (nm 6 rfl (c_int (And.intro ?h10 ?h11))))))))⟩)⟩)⟩))))))))))))))))))))))))))⟩)⟩)⟩)))))))))))))))))))))))))⟩))))))))))))))))
    case h1 =>
      exact sc__law_whole_in.nd
    case h2 =>
      exact sc__law_whole_in.nd
    case h3 =>
      first | exact ⟨W.s1.mono (by decide), htb, by decide⟩ | exact ⟨W.s2.mono (by decide), htb, by decide⟩
    case h4 =>
      first | exact ⟨z0, pb1, by decide⟩ | exact ⟨z0, pb3, by decide⟩ | exact ⟨z0, pb2, by decide⟩
    case h5 =>
      first | exact ⟨hk, mb1.p, mb1.a.mono (by decide), mb1.b.mono (by decide), mb1.n.mono (by decide)⟩ | exact ⟨hk, mb2.p, mb2.a.mono (by decide), mb2.b.mono (by decide), mb2.n.mono (by decide)⟩ | exact ⟨hk, mb3.p, mb3.a.mono (by decide), mb3.b.mono (by decide), mb3.n.mono (by decide)⟩ | exact ⟨hk, mb4.p, mb4.a.mono (by decide), mb4.b.mono (by decide), mb4.n.mono (by decide)⟩
    case h6 =>
      exact sc__law_whole_in.nd
    case h7 =>
      first | exact ⟨W.s1.mono (by decide), htb, by decide⟩ | exact ⟨W.s2.mono (by decide), htb, by decide⟩
    case h8 =>
      first | exact ⟨z0, pb1, by decide⟩ | exact ⟨z0, pb3, by decide⟩ | exact ⟨z0, pb2, by decide⟩
    case h9 =>
      first | exact ⟨hk, mb1.p, mb1.a.mono (by decide), mb1.b.mono (by decide), mb1.n.mono (by decide)⟩ | exact ⟨hk, mb2.p, mb2.a.mono (by decide), mb2.b.mono (by decide), mb2.n.mono (by decide)⟩ | exact ⟨hk, mb3.p, mb3.a.mono (by decide), mb3.b.mono (by decide), mb3.n.mono (by decide)⟩ | exact ⟨hk, mb4.p, mb4.a.mono (by decide), mb4.b.mono (by decide), mb4.n.mono (by decide)⟩
    case h10 =>
      have hf : ∀ s : Int, 0 - flI k mx2 my2 mz2 ≤ s ↔ _ := fun s => wi_is (t := s) hk W.h0 W.s1.p W.w1 (ty_lo pl1) pb1.p ml2 mb2.p
      have hg : ∀ s : Int, 0 - flI k mx4 my4 mz4 ≤ s ↔ _ := fun s => wi_is (t := s) hk W.h0 W.s2.p W.w2 (ty_lo pl3) pb3.p ml4 mb4.p
      obtain ⟨r1, r2, r3⟩ := W.ends hf hg
      omega
    case h11 =>
      have hf : ∀ s : Int, 0 - flI k mx2 my2 mz2 ≤ s ↔ _ := fun s => wi_is (t := s) hk W.h0 W.s1.p W.w1 (ty_lo pl1) pb1.p ml2 mb2.p
      have hg : ∀ s : Int, 0 - flI k mx4 my4 mz4 ≤ s ↔ _ := fun s => wi_is (t := s) hk W.h0 W.s2.p W.w2 (ty_lo pl3) pb3.p ml4 mb4.p
      obtain ⟨r1, r2, r3⟩ := W.ends hf hg
      refine hG (0 - flI k mx2 my2 mz2) _ (by omega) r1.1 r1.2 (fun s => ?_)
      rw [← hf s]
      have e : lt k (sc N (add (s, 0) (mate k (0, t)))) h ↔ ¬ (0 - flI k mx4 my4 mz4 ≤ s) := by
        rw [hg s]
        exact Classical.not_not.symm
      rw [e]
      generalize flI k mx2 my2 mz2 = F at *
      generalize flI k mx4 my4 mz4 = F2 at *
      omega

end
end Y37

set_option Elab.async false
set_option linter.all false
set_option maxRecDepth 100000
set_option maxHeartbeats 8000000
namespace Y37
open PySem PySem.Spec PyProof.Rows L2 Evl Wz
open Y02 (Kd Nm psD sgP flQ flA flN rtF g3 sg sq_nn lsD)
open Y75 (Z2 mul mate add sub B2 LO mul_b mate_b B2.mono)
local macro_rules | `(tactic| walk_at "bd") => `(tactic| (repeat (first | assumption | apply Bd.mul | apply Bd.add | apply Bd.sub | apply Bd.neg | exact Bd.z | exact Bd.of _)))
local macro_rules | `(tactic| walk_at "bm") => `(tactic| (first | assumption | exact Bd.mono (by walk_at "bd") (by decide)))
local macro_rules | `(tactic| walk_at "b2") => `(tactic| (repeat (first | assumption | apply And.intro | walk_at "bm" | decide | omega)))
theorem bd62 {x : Int} (h1 : -4611686018427387904 < x) (h2 : x < 4611686018427387904) : Bd 62 x := by
  show x.natAbs < 2 ^ 62
  omega
abbrev zD (z : Z2) : Dat := nD z.1 z.2 1
theorem z_nl (R : List Z2) : (R.map (fun z => zD z)).all noL = true := List.all_eq_true.mpr fun d hd => by
  obtain ⟨z, _, rfl⟩ := List.mem_map.mp hd
  rfl
theorem rg_nl (f : Int) (mm : Nat) : ((List.range mm).map fun i : Nat => Dat.int (f + (i : Int))).all noL = true := List.all_eq_true.mpr fun d hd => by
  obtain ⟨z, _, rfl⟩ := List.mem_map.mp hd
  rfl
theorem rg_get {f : Int} {mm i : Nat} {d : Dat} (h : ((List.range mm).map fun i : Nat => Dat.int (f + (i : Int)))[i]? = some d) : i < mm ∧ d = .int (f + (i : Int)) := by
  rw [List.getElem?_map] at h
  cases hl : (List.range mm)[i]? with
  | none => rw [hl] at h; cases h
  | some w =>
    rw [hl] at h
    have hi := (List.getElem?_eq_some_iff.mp hl).1
    rw [List.length_range] at hi
    rw [List.getElem?_range hi] at hl
    cases hl
    exact ⟨hi, (Option.some.inj h).symm⟩
section
variable {k N : Int} {p q l h : Z2} {a b n c e u x y v x2 y2 v2 : Int}
theorem Pb.mx (W : Pb k N p q l h a b n c e u x y v x2 y2 v2) : (le k p (sc N (67108864, 0)) ∧ le k (sc N (-67108864, 0)) p) ∧ (le k q (sc N (67108864, 0)) ∧ le k (sc N (-67108864, 0)) q) ∧ (le k l (sc N (67108864, 0)) ∧ le k (sc N (-67108864, 0)) l) ∧ (le k h (sc N (67108864, 0)) ∧ le k (sc N (-67108864, 0)) h) := by
  have f : (2 : Int) ^ (24 + 2) = 67108864 := rfl
  have h1 := up_v W.kd W.h0 W.s1.p W.s1.a W.s1.b W.w1
  have h2 := up_v W.kd W.h0 W.s2.p W.s2.a W.s2.b W.w2
  have h3 := up_v W.kd W.h0 W.s3.p W.s3.a W.s3.b W.w3
  have h4 := up_v W.kd W.h0 W.s4.p W.s4.a W.s4.b W.w4
  rw [f] at h1 h2 h3 h4
  exact ⟨h3, h4, h1, h2⟩
theorem Pb.bz (W : Pb k N p q l h a b n c e u x y v x2 y2 v2) {z : Z2} (m : Mb k N p q l h z) : B2 28 z := by
  obtain ⟨⟨x1, y1⟩, ⟨x2, y2⟩, ⟨x3, y3⟩, ⟨x4, y4⟩⟩ := W.mx
  obtain ⟨h1, h2, h3, h4⟩ := m
  have g := part_b W.kd (m := 67108864) (z := z) (by decide) ((le_sc W.kd W.h0).mp (le_trans W.kd h2 x2)) ((le_sc W.kd W.h0).mp (le_trans W.kd y1 h1)) ((le_sc W.kd W.h0).mp (le_trans W.kd (lt_le W.kd h4) x4)) ((le_sc W.kd W.h0).mp (le_trans W.kd y3 h3))
  constructor
  · show z.1.natAbs < 2 ^ 28
    omega
  · show z.2.natAbs < 2 ^ 28
    omega
theorem Pb.ends (W : Pb k N p q l h a b n c e u x y v x2 y2 v2) {F G : Int} (hF : ∀ t : Int, t ≤ F ↔ le k (sc N (sc t (dW k))) (sub p h)) (hG : ∀ t : Int, t ≤ G ↔ le k (sc N (sc t (dW k))) (sub q l)) : (-67108864 ≤ F ∧ F ≤ 67108864) ∧ (-67108864 ≤ G ∧ G ≤ 67108864) ∧ G - F ≤ 79 := by
  obtain ⟨⟨x1, y1⟩, ⟨x2, y2⟩, ⟨x3, y3⟩, ⟨x4, y4⟩⟩ := W.mx
  obtain ⟨c1, c2⟩ := cut_le W.kd x1 y1 x4 y4
  obtain ⟨c3, c4⟩ := cut_le W.kd x2 y2 x3 y3
  exact ⟨hi_bd W.kd W.h0 (by decide) hF c1 c2, hi_bd W.kd W.h0 (by decide) hG c3 c4, mb_few W.kd W.h0 hF hG W.d W.z6⟩
theorem Pb.wr (W : Pb k N p q l h a b n c e u x y v x2 y2 v2) {t : Int} (t1 : -67108864 ≤ t) (t2 : t ≤ 67109000) : Wr k N l h a b n c e u t := ⟨W.kd, W.h0, W.s1, W.s2, W.w1, W.w2, W.z6, by omega, by omega⟩
end
/-- so far: whole rows -/
structure Sm (k N : Int) (p q l h : Z2) (F : Int) (j : Nat) (R : List Z2) : Prop where
  pw : R.Pairwise (lt k)
  mem : ∀ z, z ∈ R ↔ (F ≤ z.2 ∧ z.2 < F + (j : Int)) ∧ Mb k N p q l h z
  len : R.length ≤ 7 * j
/-- and so much of a row -/
structure Si (k N : Int) (p q l h : Z2) (F f : Int) (j i : Nat) (R : List Z2) : Prop where
  pw : R.Pairwise (lt k)
  mem : ∀ z, z ∈ R ↔ ((F ≤ z.2 ∧ z.2 < F + (j : Int)) ∨ (z.2 = F + (j : Int) ∧ f ≤ z.1 ∧ z.1 < f + (i : Int))) ∧ Mb k N p q l h z
  len : R.length ≤ 7 * j + i
section
variable {k N : Int} {p q l h : Z2} {F f G : Int} {j i : Nat} {R : List Z2}
theorem Sm.nil : Sm k N p q l h F 0 [] := ⟨List.Pairwise.nil, fun z => ⟨fun h => (by cases h), fun h => (by have := h.1; omega)⟩, Nat.zero_le _⟩
theorem Sm.row (S : Sm k N p q l h F j R) : Si k N p q l h F f j 0 R := ⟨S.pw, fun z => by
  rw [S.mem]
  constructor
  · rintro ⟨a, b⟩
    exact ⟨.inl a, b⟩
  · rintro ⟨a | a, b⟩
    · exact ⟨a, b⟩
    · omega, S.len⟩
theorem mate_ab (t s : Int) : add (t, 0) (mate k (0, s)) = mate k (t, s) := by
  unfold Y75.add Y75.mate
  split
  · exact Prod.ext (by dsimp only; omega) (by dsimp only; omega)
  · exact Prod.ext (by dsimp only; omega) (by dsimp only; omega)
theorem Si.done {mm : Nat} (S : Si k N p q l h F f j mm R) (hm : mm ≤ 7) (hr : ∀ s : Int, (f ≤ s ∧ s < f + (mm : Int)) ↔ le k l (sc N (add (s, 0) (mate k (0, F + (j : Int))))) ∧ lt k (sc N (add (s, 0) (mate k (0, F + (j : Int))))) h) : Sm k N p q l h F (j + 1) R := ⟨S.pw, fun z => by
  rw [S.mem]
  constructor
  · rintro ⟨a | a, b⟩
    · exact ⟨by omega, b⟩
    · exact ⟨by omega, b⟩
  · rintro ⟨a, b⟩
    by_cases e : z.2 = F + (j : Int)
    · refine ⟨.inr ⟨e, (hr z.1).mpr ?_⟩, b⟩
      rw [mate_ab, ← e]
      exact ⟨b.2.2.1, b.2.2.2⟩
    · exact ⟨.inl (by omega), b⟩, by have := S.len; omega⟩
theorem Si.skip (S : Si k N p q l h F f j i R) (no : ¬ Mb k N p q l h (f + (i : Int), F + (j : Int))) : Si k N p q l h F f j (i + 1) R := ⟨S.pw, fun z => by
  rw [S.mem]
  constructor
  · rintro ⟨a | a, b⟩
    · exact ⟨.inl a, b⟩
    · exact ⟨.inr (by omega), b⟩
  · rintro ⟨a | a, b⟩
    · exact ⟨.inl a, b⟩
    · by_cases e : z.1 = f + (i : Int)
      · exact (no (by rw [show (f + (i : Int), F + (j : Int)) = z from Prod.ext e.symm a.1.symm]; exact b)).elim
      · exact ⟨.inr (by omega), b⟩, by have := S.len; omega⟩
theorem Si.new (S : Si k N p q l h F f j i R) : (f + (i : Int), F + (j : Int)) ∉ R := fun g => by
  have := ((S.mem _).mp g).1
  dsimp only at this
  omega
theorem Si.put {t : Nat} (S : Si k N p q l h F f j i R) (hk : Kd k) (yes : Mb k N p q l h (f + (i : Int), F + (j : Int))) (h1 : ∀ y ∈ R.take t, lt k y (f + (i : Int), F + (j : Int))) (h2 : ∀ y, R[t]? = some y → ¬ lt k y (f + (i : Int), F + (j : Int))) : Si k N p q l h F f j (i + 1) (R.take t ++ [(f + (i : Int), F + (j : Int))] ++ R.drop t) := ⟨ins_pw hk S.pw S.new h1 h2, fun z => by
  rw [ins_mem, S.mem]
  constructor
  · rintro (⟨a | a, b⟩ | e)
    · exact ⟨.inl a, b⟩
    · exact ⟨.inr (by omega), b⟩
    · subst e
      exact ⟨.inr ⟨rfl, by dsimp only; omega, by dsimp only; omega⟩, yes⟩
  · rintro ⟨a | a, b⟩
    · exact .inl ⟨.inl a, b⟩
    · by_cases e : z.1 = f + (i : Int)
      · exact .inr (Prod.ext e a.1)
      · exact .inl ⟨.inr (by omega), b⟩, by rw [ins_len]; have := S.len; omega⟩
theorem Sm.all (S : Sm k N p q l h F (G + 1 - F).toNat R) (hk : Kd k) (hF : ∀ t : Int, t ≤ F ↔ le k (sc N (sc t (dW k))) (sub p h)) (hG : ∀ t : Int, t ≤ G ↔ le k (sc N (sc t (dW k))) (sub q l)) (z : Z2) : z ∈ R ↔ Mb k N p q l h z := by
  rw [S.mem]
  constructor
  · exact fun g => g.2
  · intro g
    obtain ⟨g1, g2⟩ := mb_b hk g
    rw [← hF] at g1
    rw [← hG] at g2
    exact ⟨by omega, g⟩
theorem get_some {t : Nat} (g : ((t : Nat) : Int) < ((R.map (fun z => zD z)).length : Int)) : t < R.length ∧ R[t]? = some (R.getD t (0, 0)) ∧ (R.map (fun z => zD z))[t]? = some (zD (R.getD t (0, 0))) := by
  rw [List.length_map] at g
  have hl : t < R.length := by omega
  have e : R[t]? = some (R.getD t (0, 0)) := by rw [List.getD_eq_getElem?_getD, List.getElem?_eq_getElem hl]; rfl
  exact ⟨hl, e, by rw [List.getElem?_map, e]; rfl⟩
theorem yz_lt (hk : Kd k) (hN : 0 < N) (y z : Z2) : lsD k (y.1 * 1 - z.1 * 1) (y.2 * 1 - z.2 * 1) < 0 ↔ lt k y z := by
  have g := (Vl.int (N := N) y).lt (Vl.int (N := N) z) hk hN (by decide) (by decide)
  rw [lt_sc hk hN] at g
  exact g
theorem m01 (hk : Kd k) : Nb 24 (mate k (0, 1)).1 (mate k (0, 1)).2 1 ∧ Nb 24 0 1 1 := by
  have b1 : ∀ i : Int, i.natAbs < 2 → Bd 24 i := fun i hi => by
    show i.natAbs < 2 ^ 24
    omega
  refine ⟨⟨by decide, ?_, ?_, b1 _ (by decide)⟩, by decide, b1 _ (by decide), b1 _ (by decide), b1 _ (by decide)⟩
  · rcases hk with rfl | rfl | rfl <;> exact b1 _ (by decide)
  · rcases hk with rfl | rfl | rfl <;> exact b1 _ (by decide)
theorem ap_is {x y z : Int} (hk : Kd k) (g : LO (0 * 1 - (mate k (0, 1)).1 * 1) (1 * 1 - (mate k (0, 1)).2 * 1) (1 * 1) x y z) : x = (dW k).1 ∧ y = (dW k).2 ∧ z = 1 := by
  obtain ⟨h1, h2, h3⟩ := g.one rfl
  refine ⟨h1.trans ?_, h2.trans ?_, h3⟩
  · rcases hk with rfl | rfl | rfl <;> decide
  · rcases hk with rfl | rfl | rfl <;> decide
theorem ins_map {t : Nat} {z : Z2} : (R.map (fun z => zD z)).take t ++ [zD z] ++ (R.map (fun z => zD z)).drop t = (R.take t ++ [z] ++ R.drop t).map (fun z => zD z) := by
  rw [List.map_append, List.map_append, List.map_take, List.map_drop]
  rfl
theorem row_of {mm i : Nat} (hr : ∀ s : Int, (f ≤ s ∧ s < f + (mm : Int)) ↔ le k l (sc N (add (s, 0) (mate k (0, F + (j : Int))))) ∧ lt k (sc N (add (s, 0) (mate k (0, F + (j : Int))))) h) (hi : i < mm) : le k l (sc N (mate k (f + (i : Int), F + (j : Int)))) ∧ lt k (sc N (mate k (f + (i : Int), F + (j : Int)))) h := by
  have g := (hr (f + (i : Int))).mp (by omega)
  rw [mate_ab] at g
  exact g
end
set_option exponentiation.threshold 1000000
section
variable {P : Program} {w : World} {K : PySem.W.Frag} {mg : Str → Option Value} {base : Heap}

/-! ### _law_members -/
abbrev s__law_members : Stmt := topS 63
theorem sc__law_members : FnScope ["row", "left", "right", "kind", "low", "high", "found", "apart", "first", "last", "b", "a", "z", "at"] ["row", "left", "right"] (defScope s__law_members) := ⟨rfl, rfl, rfl, by decide +kernel, rfl, by decide +kernel, by decide +kernel⟩
def F__law_members : FN := fun ds Q => ∃ k N p q l h a b n c e u x y v x2 y2 v2, ds = [rwD k a b n c e u, nD x y v, nD x2 y2 v2] ∧ Pb k N p q l h a b n c e u x y v x2 y2 v2 ∧ ∀ R : List Z2, R.Pairwise (lt k) → (∀ z, z ∈ R ↔ Mb k N p q l h z) → R.length ≤ 4000 → Q (R.map (fun z => pD z))
theorem ok__law_members {f : Addr} {fd : FuncData} (Fn : Fun K "_law_members" "_law_members" s__law_members f fd) (c__law_minus : Cl P w K mg base 3 "_law_minus" ["p", "q"] (spP K F__law_minus)) (c__law_mate : Cl P w K mg base 1 "_law_mate" ["kind", "p"] (spP K F__law_mate)) (c__law_floor : Cl P w K mg base 2 "_law_floor" ["kind", "p"] (spP K F__law_floor)) (c__law_by : Cl P w K mg base 3 "_law_by" ["kind", "p", "q"] (spP K F__law_by)) (c__law_whole_in : Cl P w K mg base 4 "_law_whole_in" ["kind", "low", "high", "b"] (spN K F__law_whole_in)) (c__law_under : Cl P w K mg base 4 "_law_under" ["kind", "p", "q"] (spP K F__law_under)) (m_range : mg "range" = none) (m_len : mg "len" = none) : FnOk P w K mg base CX0 5 f fd ["row", "left", "right"] (spN K F__law_members) := by
  refine fn_N Fn sc__law_members (fun ds G h => ?_) (fun cdv A outer s H Q E ds G hr hF hQ => ?_)
  · obtain ⟨k, N, p, q, l, h, a, b, n, c, e, u, x, y, v, x2, y2, v2, rfl, W, hG⟩ := h
    rfl
  · obtain ⟨k, N, p, q, l, h, a, b, n, c, e, u, x, y, v, x2, y2, v2, rfl, W, hG⟩ := hF
    have hk := W.kd
    have hN := W.h0
    refine (as_unp3 (i := 3) (j := 4) (l := 5) ?h1 rfl (nm 0 rfl ⟨_, _, _, rfl, (as_parN (i := 6) (j := 7) ?h2 rfl (n_disp (ca_nil (And.intro (And.intro rfl (Nat.le_of_ble_eq_true rfl)) (And.intro ?h3 (fun _ => (c_call c__law_minus (hr.mono (by decide)) (ca_cons (c_tup (ca_cons (c_int (ca_cons (c_int (ca_cons (c_int (ca_nil (And.intro (And.intro rfl (Nat.le_of_ble_eq_true rfl)) (ca_cons (c_call c__law_mate (hr.mono (by decide)) (ca_cons (nm 3 rfl (ca_cons (c_tup (ca_cons (c_int (ca_cons (c_int (ca_cons (c_int (ca_nil (And.intro (And.intro rfl (Nat.le_of_ble_eq_true rfl)) (ca_nil ⟨_, 0, 1, _, rfl, And.intro rfl (ca_nil ⟨_, _, _, _, _, _, 24, rfl, ?h4, fun mx1 my1 mz1 ml1 mb1 => And.intro rfl (as_asg (i := 8) ?h5 (c_call c__law_floor (hr.mono (by decide)) (ca_cons (nm 3 rfl (ca_cons (c_call c__law_by (hr.mono (by decide)) (ca_cons (nm 3 rfl (ca_cons (c_call c__law_minus (hr.mono (by decide)) (ca_cons (nm 1 rfl (ca_cons (nm 5 rfl (ca_nil ⟨_, _, _, _, _, _, 24, rfl, ?h6, fun mx2 my2 mz2 ml2 mb2 => And.intro rfl (ca_cons (nm 7 rfl (ca_nil ⟨_, _, _, _, _, _, _, rfl, ?h7, fun bx1 by1 bz1 bn1 bi1 => And.intro rfl (ca_nil ⟨_, _, _, _, rfl, ?h8, And.intro rfl (as_asg (i := 9) ?h9 (c_call c__law_floor (hr.mono (by decide)) (ca_cons (nm 3 rfl (ca_cons (c_call c__law_by (hr.mono (by decide)) (ca_cons (nm 3 rfl (ca_cons (c_call c__law_minus (hr.mono (by decide)) (ca_cons (nm 2 rfl (ca_cons (nm 4 rfl (ca_nil ⟨_, _, _, _, _, _, 24, rfl, ?h10, fun mx3 my3 mz3 ml3 mb3 => And.intro rfl (ca_cons (nm 7 rfl (ca_nil ⟨_, _, _, _, _, _, _, rfl, ?h11, fun bx2 by2 bz2 bn2 bi2 => And.intro rfl (ca_nil ⟨_, _, _, _, rfl, ?h12, And.intro rfl (as_forR2 (i := 10) ?h13 rfl PassesOwn.never m_range (ca_cons (nm 8 rfl (ca_cons (c_add (nm 9 rfl (c_int (ca_nil ⟨_, _, (fun j es qq => ∃ (o10 o11 o12 o13 : Option Dat) (R : List Z2), es = [some (rwD k a b n c e u), some (nD x y v), some (nD x2 y2 v2), some (.int k), some (nD a b n), some (nD c e u), some (.cel 0), some (nD mx1 my1 mz1), some (.int (flI k bx1 by1 bz1)), some (.int (flI k bx2 by2 bz2)), o10, o11, o12, o13] ∧ qq = [R.map (fun z => zD z)] ∧ Sm k N p q l h (flI k bx1 by1 bz1) j R), (fun _ _ => False), rfl, ?h44, ⟨_, _, _, _, [], rfl, rfl, Sm.nil⟩, ⟨fun H10 e10 fr0 j d es q hj hd hw => ?h14, fun es q hw => ?h15, fun _ _ h => h.elim⟩⟩))))))))⟩)⟩)))⟩)))))))))))))))⟩)⟩)))⟩)))))))))))))))⟩)⟩))))))))))))))))))))))))))))))))⟩))
    case h1 =>
      exact sc__law_members.nd
    case h2 =>
      exact sc__law_members.nd
    case h3 =>
      rfl
    case h4 =>
      first | exact ⟨(m01 hk).2, (m01 hk).1, by decide⟩ | exact ⟨W.s3, W.s2, by decide⟩ | exact ⟨W.s4, W.s1, by decide⟩
    case h5 =>
      exact sc__law_members.nd
    case h6 =>
      first | exact ⟨(m01 hk).2, (m01 hk).1, by decide⟩ | exact ⟨W.s3, W.s2, by decide⟩ | exact ⟨W.s4, W.s1, by decide⟩
    case h7 =>
      first | exact ⟨hk, mb2.mono (by decide), ap_is hk ml1⟩ | exact ⟨hk, mb3.mono (by decide), ap_is hk ml1⟩
    case h8 =>
      first | exact ⟨hk, bn1.p, bn1.a.mono (by decide), bn1.b.mono (by decide), bn1.n.mono (by decide)⟩ | exact ⟨hk, bn2.p, bn2.a.mono (by decide), bn2.b.mono (by decide), bn2.n.mono (by decide)⟩
    case h9 =>
      exact sc__law_members.nd
    case h10 =>
      first | exact ⟨(m01 hk).2, (m01 hk).1, by decide⟩ | exact ⟨W.s3, W.s2, by decide⟩ | exact ⟨W.s4, W.s1, by decide⟩
    case h11 =>
      first | exact ⟨hk, mb2.mono (by decide), ap_is hk ml1⟩ | exact ⟨hk, mb3.mono (by decide), ap_is hk ml1⟩
    case h12 =>
      first | exact ⟨hk, bn1.p, bn1.a.mono (by decide), bn1.b.mono (by decide), bn1.n.mono (by decide)⟩ | exact ⟨hk, bn2.p, bn2.a.mono (by decide), bn2.b.mono (by decide), bn2.n.mono (by decide)⟩
    case h13 =>
      exact sc__law_members.nd
    case h14 =>
      obtain ⟨o10, o11, o12, o13, R, rfl, rfl, S⟩ := hw
      cases hd
      have hF : ∀ t : Int, t ≤ (flI k bx1 by1 bz1) ↔ le k (sc N (sc t (dW k))) (sub p h) := fun t => (bi1 t).trans (((W.w3.sub W.w2).lo ml2 (Int.mul_pos W.s3.p W.s2.p)).nge hk hN mb2.p)
      have hG2 : ∀ t : Int, t ≤ (flI k bx2 by2 bz2) ↔ le k (sc N (sc t (dW k))) (sub q l) := fun t => (bi2 t).trans (((W.w4.sub W.w1).lo ml3 (Int.mul_pos W.s4.p W.s1.p)).nge hk hN mb3.p)
      obtain ⟨⟨F1, F2⟩, ⟨G1, G2⟩, FG⟩ := W.ends hF hG2
      refine (as_forL (i := 11) ?h16 rfl PassesOwn.never (c_ofN (n_call c__law_whole_in (hr.mono (by decide)) (ca_cons (nm 3 rfl (ca_cons (nm 4 rfl (ca_cons (nm 5 rfl (ca_cons (nm 10 rfl (ca_nil ⟨_, N, l, h, _, _, _, _, _, _, _, rfl, ?h17, fun f mm hmm hf1 hf2 hrow => And.intro (rg_nl _ _) ⟨(fun i es qq => ∃ (o11 o12 o13 : Option Dat) (R : List Z2), es = [some (rwD k a b n c e u), some (nD x y v), some (nD x2 y2 v2), some (.int k), some (nD a b n), some (nD c e u), some (.cel 0), some (nD mx1 my1 mz1), some (.int (flI k bx1 by1 bz1)), some (.int (flI k bx2 by2 bz2)), some (.int ((flI k bx1 by1 bz1) + (j : Int))), o11, o12, o13] ∧ qq = [R.map (fun z => zD z)] ∧ Si k N p q l h (flI k bx1 by1 bz1) f j i R), (fun _ _ => False), ⟨_, _, _, R, rfl, rfl, S.row⟩, ⟨fun H11 e11 fr1 i d es q hj hd hw => ?h18, fun es q hw => ?h19, fun _ _ h => h.elim⟩⟩⟩))))))))))))
      case h16 =>
        exact sc__law_members.nd
      case h17 =>
        exact W.wr (by omega) (by omega)
      case h18 =>
        have S1 := S
        clear S
        obtain ⟨o11, o12, o13, R, rfl, rfl, S⟩ := hw
        obtain ⟨hi, rfl⟩ := rg_get hd
        have hro := row_of hrow hi
        have hzb : Nb 1500 (f + (i : Int)) (flI k bx1 by1 bz1 + (j : Int)) 1 := ⟨by decide, (bd62 (by omega) (by omega)).mono (by decide), (bd62 (by omega) (by omega)).mono (by decide), (Bd.of (1 : Int)).mono (by decide)⟩
        refine (as_asg (i := 12) ?h20 (c_tup (ca_cons (nm 11 rfl (ca_cons (nm 10 rfl (ca_cons (c_int (ca_nil (And.intro (And.intro rfl (Nat.le_of_ble_eq_true rfl)) (as_ifn (t_w (w_and (t_not (t_valB (c_call c__law_under (hr.mono (by decide)) (ca_cons (nm 3 rfl (ca_cons (nm 12 rfl (ca_cons (nm 1 rfl (ca_nil ⟨_, _, _, _, _, _, _, rfl, ?h21, And.intro rfl (And.intro (fun b1 => (as_end rfl ?h22)) (fun b1 => (w_and1 (t_not (t_valB (c_call c__law_under (hr.mono (by decide)) (ca_cons (nm 3 rfl (ca_cons (nm 2 rfl (ca_cons (nm 12 rfl (ca_nil ⟨_, _, _, _, _, _, _, rfl, ?h23, And.intro rfl (And.intro (fun b2 => (as_end rfl ?h24)) (fun b2 => (as_asg (i := 13) ?h25 (c_int (as_while (W := fun mw es qq => ∃ t : Nat, es = [some (rwD k a b n c e u), some (nD x y v), some (nD x2 y2 v2), some (.int k), some (nD a b n), some (nD c e u), some (.cel 0), some (nD mx1 my1 mz1), some (.int (flI k bx1 by1 bz1)), some (.int (flI k bx2 by2 bz2)), some (.int ((flI k bx1 by1 bz1) + (j : Int))), some (.int (f + (i : Int))), some (zD (f + (i : Int), (flI k bx1 by1 bz1) + (j : Int))), some (.int ((t : Nat) : Int))] ∧ qq = [R.map (fun z => zD z)] ∧ t ≤ R.length ∧ (∀ y ∈ R.take t, lt k y (f + (i : Int), (flI k bx1 by1 bz1) + (j : Int))) ∧ R.length - t ≤ mw) (B := fun _ _ => False) PassesOwn.never (R.length) ⟨0, rfl, rfl, Nat.zero_le _, fun y hy => (by cases hy), Nat.le_refl _⟩ (fun mw es q hw => ?h26) (fun _ _ h => h.elim))))))⟩)))))))))))))⟩)))))))))))))))))))))))
        case h20 =>
          exact sc__law_members.nd
        case h21 =>
          first
            | exact ⟨hk, hzb, W.s3.mono (by decide)⟩
            | exact ⟨hk, W.s4.mono (by decide), hzb⟩
            | (have hyb := W.bz ((S.mem _).mp (List.mem_of_getElem? (get_some (by assumption)).2.1)).2
               exact ⟨hk, ⟨by decide, hyb.1.mono (by decide), hyb.2.mono (by decide), (Bd.of (1 : Int)).mono (by decide)⟩, hzb⟩)
        case h22 =>
          first
            | exact ⟨_, _, _, R, rfl, rfl, S.skip (fun gg => ((Vl.int (f + (i : Int), (flI k bx1 by1 bz1) + (j : Int))).ge W.w3 hk hN (by decide) W.s3.p).mpr gg.1 (of_decide_eq_true (by assumption)))⟩
            | exact ⟨_, _, _, R, rfl, rfl, S.skip (fun gg => (W.w4.ge (Vl.int (f + (i : Int), (flI k bx1 by1 bz1) + (j : Int))) hk hN W.s4.p (by decide)).mpr gg.2.1 (of_decide_eq_true (by assumption)))⟩
            | (have hb3 : ¬ ((t : Nat) : Int) < ((R.map (fun z => zD z)).length : Int) := by assumption
               rw [List.length_map] at hb3
               exact ⟨_, _, _, _, rfl, by rw [← ins_map]; rfl, S.put (t := t) hk ⟨((Vl.int (f + (i : Int), (flI k bx1 by1 bz1) + (j : Int))).ge W.w3 hk hN (by decide) W.s3.p).mp (of_decide_eq_false (by assumption)), (W.w4.ge (Vl.int (f + (i : Int), (flI k bx1 by1 bz1) + (j : Int))) hk hN W.s4.p (by decide)).mp (of_decide_eq_false (by assumption)), hro.1, hro.2⟩ hlt (fun y hy => by
                have hl3 := (List.getElem?_eq_some_iff.mp hy).1
                omega)⟩)
            | (have gs := (get_some (R := R) (t := t) (by assumption)).2.1
               have hn3 := of_decide_eq_false (p := lsD k ((R.getD t (0, 0)).1 * 1 - (f + (i : Int), (flI k bx1 by1 bz1) + (j : Int)).1 * 1) ((R.getD t (0, 0)).2 * 1 - (f + (i : Int), (flI k bx1 by1 bz1) + (j : Int)).2 * 1) < 0) (by assumption)
               exact ⟨_, _, _, _, rfl, by rw [← ins_map]; rfl, S.put (t := t) hk ⟨((Vl.int (f + (i : Int), (flI k bx1 by1 bz1) + (j : Int))).ge W.w3 hk hN (by decide) W.s3.p).mp (of_decide_eq_false (by assumption)), (W.w4.ge (Vl.int (f + (i : Int), (flI k bx1 by1 bz1) + (j : Int))) hk hN W.s4.p (by decide)).mp (of_decide_eq_false (by assumption)), hro.1, hro.2⟩ hlt (fun y hy gy => by
                rw [gs] at hy
                cases hy
                exact hn3 ((yz_lt hk hN _ _).mpr gy))⟩)
        case h23 =>
          first
            | exact ⟨hk, hzb, W.s3.mono (by decide)⟩
            | exact ⟨hk, W.s4.mono (by decide), hzb⟩
            | (have hyb := W.bz ((S.mem _).mp (List.mem_of_getElem? (get_some (by assumption)).2.1)).2
               exact ⟨hk, ⟨by decide, hyb.1.mono (by decide), hyb.2.mono (by decide), (Bd.of (1 : Int)).mono (by decide)⟩, hzb⟩)
        case h24 =>
          first
            | exact ⟨_, _, _, R, rfl, rfl, S.skip (fun gg => ((Vl.int (f + (i : Int), (flI k bx1 by1 bz1) + (j : Int))).ge W.w3 hk hN (by decide) W.s3.p).mpr gg.1 (of_decide_eq_true (by assumption)))⟩
            | exact ⟨_, _, _, R, rfl, rfl, S.skip (fun gg => (W.w4.ge (Vl.int (f + (i : Int), (flI k bx1 by1 bz1) + (j : Int))) hk hN W.s4.p (by decide)).mpr gg.2.1 (of_decide_eq_true (by assumption)))⟩
            | (have hb3 : ¬ ((t : Nat) : Int) < ((R.map (fun z => zD z)).length : Int) := by assumption
               rw [List.length_map] at hb3
               exact ⟨_, _, _, _, rfl, by rw [← ins_map]; rfl, S.put (t := t) hk ⟨((Vl.int (f + (i : Int), (flI k bx1 by1 bz1) + (j : Int))).ge W.w3 hk hN (by decide) W.s3.p).mp (of_decide_eq_false (by assumption)), (W.w4.ge (Vl.int (f + (i : Int), (flI k bx1 by1 bz1) + (j : Int))) hk hN W.s4.p (by decide)).mp (of_decide_eq_false (by assumption)), hro.1, hro.2⟩ hlt (fun y hy => by
                have hl3 := (List.getElem?_eq_some_iff.mp hy).1
                omega)⟩)
            | (have gs := (get_some (R := R) (t := t) (by assumption)).2.1
               have hn3 := of_decide_eq_false (p := lsD k ((R.getD t (0, 0)).1 * 1 - (f + (i : Int), (flI k bx1 by1 bz1) + (j : Int)).1 * 1) ((R.getD t (0, 0)).2 * 1 - (f + (i : Int), (flI k bx1 by1 bz1) + (j : Int)).2 * 1) < 0) (by assumption)
               exact ⟨_, _, _, _, rfl, by rw [← ins_map]; rfl, S.put (t := t) hk ⟨((Vl.int (f + (i : Int), (flI k bx1 by1 bz1) + (j : Int))).ge W.w3 hk hN (by decide) W.s3.p).mp (of_decide_eq_false (by assumption)), (W.w4.ge (Vl.int (f + (i : Int), (flI k bx1 by1 bz1) + (j : Int))) hk hN W.s4.p (by decide)).mp (of_decide_eq_false (by assumption)), hro.1, hro.2⟩ hlt (fun y hy gy => by
                rw [gs] at hy
                cases hy
                exact hn3 ((yz_lt hk hN _ _).mpr gy))⟩)
        case h25 =>
          exact sc__law_members.nd
        case h26 =>
          obtain ⟨t, rfl, rfl, ht, hlt, hmw⟩ := hw
          refine (t_w (w_and (t_lt (nm 13 rfl (c_lenL m_len (ca_cons (nm 6 rfl (ca_nil (And.intro (fun b3 => (w_and1 (t_valB (c_call c__law_under (hr.mono (by decide)) (ca_cons (nm 3 rfl (ca_cons (c_ixL (nm 6 rfl (nm 13 rfl ⟨t, zD (R.getD t (0, 0)), rfl, ?h27, (ca_cons (nm 12 rfl (ca_nil ⟨_, _, _, _, _, _, _, rfl, ?h28, And.intro rfl (And.intro (fun b4 => (as_asg (i := 13) ?h29 (c_add (nm 13 rfl (c_int (as_end rfl ?h30)))))) (fun b4 => (as_drop (c_insert (nm 6 rfl (ca_cons (nm 13 rfl (ca_cons (nm 12 rfl (ca_nil ⟨rfl, ?h31, _, rfl, ?h32, (as_go (as_end rfl ?h33))⟩))))))))))⟩)))⟩)))))))))) (fun b3 => (as_drop (c_insert (nm 6 rfl (ca_cons (nm 13 rfl (ca_cons (nm 12 rfl (ca_nil ⟨rfl, ?h34, _, rfl, ?h35, (as_go (as_end rfl ?h36))⟩))))))))))))))))))
          case h27 =>
            exact (get_some (by assumption)).2.2
          case h28 =>
            first
              | exact ⟨hk, hzb, W.s3.mono (by decide)⟩
              | exact ⟨hk, W.s4.mono (by decide), hzb⟩
              | (have hyb := W.bz ((S.mem _).mp (List.mem_of_getElem? (get_some (by assumption)).2.1)).2
                 exact ⟨hk, ⟨by decide, hyb.1.mono (by decide), hyb.2.mono (by decide), (Bd.of (1 : Int)).mono (by decide)⟩, hzb⟩)
          case h29 =>
            exact sc__law_members.nd
          case h30 =>
            have gs := get_some (by assumption)
            have hl2 := gs.1
            exact ⟨R.length - (t + 1), by omega, t + 1, rfl, rfl, by omega, take_more hlt gs.2.1 ((yz_lt hk hN _ _).mp (of_decide_eq_true (by assumption))), Nat.le_refl _⟩
          case h31 =>
            have := S.len
            constructor <;> omega
          case h32 =>
            rw [List.length_map]
            have := S.len
            omega
          case h33 =>
            first
              | exact ⟨_, _, _, R, rfl, rfl, S.skip (fun gg => ((Vl.int (f + (i : Int), (flI k bx1 by1 bz1) + (j : Int))).ge W.w3 hk hN (by decide) W.s3.p).mpr gg.1 (of_decide_eq_true (by assumption)))⟩
              | exact ⟨_, _, _, R, rfl, rfl, S.skip (fun gg => (W.w4.ge (Vl.int (f + (i : Int), (flI k bx1 by1 bz1) + (j : Int))) hk hN W.s4.p (by decide)).mpr gg.2.1 (of_decide_eq_true (by assumption)))⟩
              | (have hb3 : ¬ ((t : Nat) : Int) < ((R.map (fun z => zD z)).length : Int) := by assumption
                 rw [List.length_map] at hb3
                 exact ⟨_, _, _, _, rfl, by rw [← ins_map]; rfl, S.put (t := t) hk ⟨((Vl.int (f + (i : Int), (flI k bx1 by1 bz1) + (j : Int))).ge W.w3 hk hN (by decide) W.s3.p).mp (of_decide_eq_false (by assumption)), (W.w4.ge (Vl.int (f + (i : Int), (flI k bx1 by1 bz1) + (j : Int))) hk hN W.s4.p (by decide)).mp (of_decide_eq_false (by assumption)), hro.1, hro.2⟩ hlt (fun y hy => by
                  have hl3 := (List.getElem?_eq_some_iff.mp hy).1
                  omega)⟩)
              | (have gs := (get_some (R := R) (t := t) (by assumption)).2.1
                 have hn3 := of_decide_eq_false (p := lsD k ((R.getD t (0, 0)).1 * 1 - (f + (i : Int), (flI k bx1 by1 bz1) + (j : Int)).1 * 1) ((R.getD t (0, 0)).2 * 1 - (f + (i : Int), (flI k bx1 by1 bz1) + (j : Int)).2 * 1) < 0) (by assumption)
                 exact ⟨_, _, _, _, rfl, by rw [← ins_map]; rfl, S.put (t := t) hk ⟨((Vl.int (f + (i : Int), (flI k bx1 by1 bz1) + (j : Int))).ge W.w3 hk hN (by decide) W.s3.p).mp (of_decide_eq_false (by assumption)), (W.w4.ge (Vl.int (f + (i : Int), (flI k bx1 by1 bz1) + (j : Int))) hk hN W.s4.p (by decide)).mp (of_decide_eq_false (by assumption)), hro.1, hro.2⟩ hlt (fun y hy gy => by
                  rw [gs] at hy
                  cases hy
                  exact hn3 ((yz_lt hk hN _ _).mpr gy))⟩)
          case h34 =>
            have := S.len
            constructor <;> omega
          case h35 =>
            rw [List.length_map]
            have := S.len
            omega
          case h36 =>
            first
              | exact ⟨_, _, _, R, rfl, rfl, S.skip (fun gg => ((Vl.int (f + (i : Int), (flI k bx1 by1 bz1) + (j : Int))).ge W.w3 hk hN (by decide) W.s3.p).mpr gg.1 (of_decide_eq_true (by assumption)))⟩
              | exact ⟨_, _, _, R, rfl, rfl, S.skip (fun gg => (W.w4.ge (Vl.int (f + (i : Int), (flI k bx1 by1 bz1) + (j : Int))) hk hN W.s4.p (by decide)).mpr gg.2.1 (of_decide_eq_true (by assumption)))⟩
              | (have hb3 : ¬ ((t : Nat) : Int) < ((R.map (fun z => zD z)).length : Int) := by assumption
                 rw [List.length_map] at hb3
                 exact ⟨_, _, _, _, rfl, by rw [← ins_map]; rfl, S.put (t := t) hk ⟨((Vl.int (f + (i : Int), (flI k bx1 by1 bz1) + (j : Int))).ge W.w3 hk hN (by decide) W.s3.p).mp (of_decide_eq_false (by assumption)), (W.w4.ge (Vl.int (f + (i : Int), (flI k bx1 by1 bz1) + (j : Int))) hk hN W.s4.p (by decide)).mp (of_decide_eq_false (by assumption)), hro.1, hro.2⟩ hlt (fun y hy => by
                  have hl3 := (List.getElem?_eq_some_iff.mp hy).1
                  omega)⟩)
              | (have gs := (get_some (R := R) (t := t) (by assumption)).2.1
                 have hn3 := of_decide_eq_false (p := lsD k ((R.getD t (0, 0)).1 * 1 - (f + (i : Int), (flI k bx1 by1 bz1) + (j : Int)).1 * 1) ((R.getD t (0, 0)).2 * 1 - (f + (i : Int), (flI k bx1 by1 bz1) + (j : Int)).2 * 1) < 0) (by assumption)
                 exact ⟨_, _, _, _, rfl, by rw [← ins_map]; rfl, S.put (t := t) hk ⟨((Vl.int (f + (i : Int), (flI k bx1 by1 bz1) + (j : Int))).ge W.w3 hk hN (by decide) W.s3.p).mp (of_decide_eq_false (by assumption)), (W.w4.ge (Vl.int (f + (i : Int), (flI k bx1 by1 bz1) + (j : Int))) hk hN W.s4.p (by decide)).mp (of_decide_eq_false (by assumption)), hro.1, hro.2⟩ hlt (fun y hy gy => by
                  rw [gs] at hy
                  cases hy
                  exact hn3 ((yz_lt hk hN _ _).mpr gy))⟩)
      case h19 =>
        obtain ⟨o11, o12, o13, R, rfl, rfl, S2⟩ := hw
        refine (as_end rfl ?h37)
        case h37 =>
          rw [List.length_map, List.length_range] at S2
          exact ⟨_, _, _, _, R, rfl, rfl, S2.done hmm hrow⟩
    case h15 =>
      obtain ⟨o10, o11, o12, o13, R, rfl, rfl, S⟩ := hw
      have hF : ∀ t : Int, t ≤ (flI k bx1 by1 bz1) ↔ le k (sc N (sc t (dW k))) (sub p h) := fun t => (bi1 t).trans (((W.w3.sub W.w2).lo ml2 (Int.mul_pos W.s3.p W.s2.p)).nge hk hN mb2.p)
      have hG2 : ∀ t : Int, t ≤ (flI k bx2 by2 bz2) ↔ le k (sc N (sc t (dW k))) (sub q l) := fun t => (bi2 t).trans (((W.w4.sub W.w1).lo ml3 (Int.mul_pos W.s4.p W.s1.p)).nge hk hN mb3.p)
      obtain ⟨⟨F1, F2⟩, ⟨G1, G2⟩, FG⟩ := W.ends hF hG2
      refine (as_shut ⟨[], rfl⟩ (as_retN hQ (n_lcL (j := 12) rfl ?h38 (blkOk_by (N := ["row", "left", "right", "kind", "low", "high", "found", "apart", "first", "last", "b", "a", "z", "at"]) (sc := defScope s__law_members) (by decide +kernel)) (fun _ _ _ _ _ => pg_name (i := 12) sc__law_members.nd rfl (Or.inl rfl)) (nm 6 rfl ⟨?h43, (fun l acc qq => acc = (R.take l).map (fun z => pD z) ∧ qq = []), ⟨rfl, rfl⟩, ⟨fun _ _ _ _ _ l d acc q hl hd hw => ?h39⟩, fun acc q hw ha => ?h40⟩))))
      case h38 =>
        exact sc__law_members.nd
      case h39 =>
        obtain ⟨rfl, rfl⟩ := hw
        obtain ⟨z, hz, rfl⟩ := map_get hd
        refine (c_cutT (nm 12 rfl (o_none (o_some (c_int (And.intro rfl ⟨?h41, rfl⟩))))))
        case h41 =>
          exact take_next hz
      case h40 =>
        obtain ⟨rfl, rfl⟩ := hw
        refine ?h42
        case h42 =>
          rw [List.length_map, List.take_length]
          exact hG R S.pw (S.all hk hF hG2) (by have := S.len; omega)
      case h43 =>
        rw [List.length_map]
        have := S.len
        omega
    case h44 =>
      have hF : ∀ t : Int, t ≤ (flI k bx1 by1 bz1) ↔ le k (sc N (sc t (dW k))) (sub p h) := fun t => (bi1 t).trans (((W.w3.sub W.w2).lo ml2 (Int.mul_pos W.s3.p W.s2.p)).nge hk hN mb2.p)
      have hG2 : ∀ t : Int, t ≤ (flI k bx2 by2 bz2) ↔ le k (sc N (sc t (dW k))) (sub q l) := fun t => (bi2 t).trans (((W.w4.sub W.w1).lo ml3 (Int.mul_pos W.s4.p W.s1.p)).nge hk hN mb3.p)
      obtain ⟨⟨F1, F2⟩, ⟨G1, G2⟩, FG⟩ := W.ends hF hG2
      omega

end
end Y37

set_option Elab.async false
set_option linter.all false
set_option maxRecDepth 100000
set_option maxHeartbeats 8000000
namespace Y37
open PySem PySem.Spec PyProof.Rows L2 Evl Wz
open Y02 (Kd Nm psD sgP flQ flA flN rtF g3 sg sq_nn lsD)
open Y75 (Z2 mul mate add sub B2 LO mul_b mate_b B2.mono)
local macro_rules | `(tactic| walk_at "bd") => `(tactic| (repeat (first | assumption | apply Bd.mul | apply Bd.add | apply Bd.sub | apply Bd.neg | exact Bd.z | exact Bd.of _)))
local macro_rules | `(tactic| walk_at "bm") => `(tactic| (first | assumption | exact Bd.mono (by walk_at "bd") (by decide)))
local macro_rules | `(tactic| walk_at "b2") => `(tactic| (repeat (first | assumption | apply And.intro | walk_at "bm" | decide | omega)))
/-- a number of the law's own making -/
def Nu (l : Nat) (a b n : Int) : Prop := Nm a b n ∧ Nb l a b n
abbrev n3 (t : T3) : Dat := nD t.1 t.2.1 t.2.2
theorem lo_nu {a b n x y z : Int} {l : Nat} (h : LO a b n x y z) (g : Nb l a b n) : Nu l x y z := by
  refine ⟨?_, lo_nb h g⟩
  rw [h.x, h.y, h.z]
  exact Y02.lo_nm (by have := g.p; omega)
/-- what is known of a row -/
structure Ro (k a b n c e u : Int) : Prop where
  kd : Kd k
  l : Nu 15 a b n
  h : Nu 15 c e u
  z : ∀ (N : Int) (p q : Z2), 0 < N → Vl N p a b n → Vl N q c e u → le k (sc N (1, 0)) (sc 4 (sub q p)) ∧ le k (sub q p) (sc N (6, 0))
theorem q4 {k N x y z : Int} {P : Z2} (hk : Kd k) (hN : 0 < N) (hz : 0 < z) (V : Vl N P x y z) (h : ¬ lsD k (x * 4 - 1 * z) (y * 4 - 0 * z) < 0) : le k (sc N (1, 0)) (sc 4 P) := by
  obtain ⟨v1, v2⟩ := V
  have V1 : Vl (N * 4) (sc 4 P) x y z := ⟨by show P.1 * 4 * z = x * (N * 4); rw [Int.mul_right_comm, v1, Int.mul_assoc], by show P.2 * 4 * z = y * (N * 4); rw [Int.mul_right_comm, v2, Int.mul_assoc]⟩
  have V2 : Vl (N * 4) (sc N (1, 0)) 1 0 4 := ⟨by show 1 * N * 4 = 1 * (N * 4); omega, by show 0 * N * 4 = 0 * (N * 4); omega⟩
  exact (V1.ge V2 hk (by omega) hz (by decide)).mp h
theorem q6 {k N x y z : Int} {P : Z2} (hk : Kd k) (hN : 0 < N) (hz : 0 < z) (V : Vl N P x y z) (h : ¬ lsD k (6 * z - x * 1) (0 * z - y * 1) < 0) : le k P (sc N (6, 0)) := ((Vl.int (N := N) (6, 0)).ge V hk hN (by decide) hz).mp h
theorem ring_dif {p1 q1 a x n z N : Int} (j1 : q1 * (n * z) = (a * z + x * n) * N) (j2 : p1 * (n * z) = a * N * z) : (q1 - p1) * z * n = x * N * n := by
  have e : (q1 - p1) * z * n = q1 * (n * z) - p1 * (n * z) := by grind
  rw [e, j1, j2]
  grind
theorem vl_dif {N : Int} {p q : Z2} {a b n c e u x y z : Int} (V : Vl N p a b n) (V2 : Vl N q c e u) (hn : 0 < n) (hz : 0 < z) (hu : 0 < u) (l : LO (a * z + x * n) (b * z + y * n) (n * z) c e u) : Vl N (sub q p) x y z := by
  have V3 : Vl N (sub q p) (c * n - a * u) (e * n - b * u) (u * n) := V2.sub V
  have hnz : n * z ≠ 0 := Int.ne_of_gt (Int.mul_pos hn hz)
  obtain ⟨e1, e2, e3⟩ := Y02.lo_mul (a := a * z + x * n) (b := b * z + y * n) hnz
  rw [← l.x] at e1
  rw [← l.y] at e2
  rw [← l.z] at e3
  clear l
  generalize Y02.sg (a * z + x * n) (b * z + y * n) (n * z) = g at *
  obtain ⟨h1, h2⟩ := V
  obtain ⟨g1, g2⟩ := V2
  have fin : ∀ {p1 q1 a c x : Int}, p1 * n = a * N → q1 * u = c * N → c * g = a * z + x * n → (q1 - p1) * z = x * N := fun {p1 q1 a c x} i1 i2 i3 => by
    have j1 : q1 * (n * z) = (a * z + x * n) * N := by
      rw [← e3, ← Int.mul_assoc, i2, ← i3]
      exact Int.mul_right_comm ..
    refine Int.eq_of_mul_eq_mul_right (show n ≠ 0 by omega) ?_
    have j2 : p1 * (n * z) = a * N * z := by rw [← Int.mul_assoc, i1]
    exact ring_dif j1 j2
  exact ⟨fin h1 g1 e1, fin h2 g2 e2⟩
def nrF (k : Int) : T3 := if k = 2 then (17, -12, 1) else if k = 3 then (26, -15, 1) else (21, -13, 1)
theorem nr_pick {k : Int} : pick (nD 17 (-12) 1) (nD 26 (-15) 1) (nD 21 (-13) 1) k = n3 (nrF k) := by
  unfold pick nrF
  split
  · rfl
  · split <;> rfl
theorem tup_ev {X : Cx} {o : Os} {ds : List (Option Dat)} {k : Cs} {e : Expr} {a b : Int} {j1 j2 j3 k1 : Nat} {p1 p2 p3 q1 q2 : Pos} (he : e = .Tuple [.Constant (.int a) j1 p1, .UnaryOp .USub (.Constant (.int b) j2 p2) q1, .Constant (.int 1) j3 p3] k1 q2) : Ev X o e ds k (nD a (-b) 1) k := by
  subst he
  exact (fun _ hR => (c_tup (ca_cons (c_int (ca_cons (c_neg (c_int (ca_cons (c_int (ca_nil (And.intro (And.intro rfl (Nat.le_of_ble_eq_true rfl)) hR)))))))))))
theorem near_ev {X : Cx} {o : Os} {ds : List (Option Dat)} {k : Cs} {R : Dat → Cs → Prop} {kk : Int} {e e1 e2 e3 b : Expr} {j1 j2 j3 : Nat} {p1 p2 p3 r2 r3 : Pos}
    (he : e = .Subscript (.Dict [some (.Constant (.int 2) j1 p1), some (.Constant (.int 3) j2 p2), some (.Constant (.int 5) j3 p3)] [e1, e2, e3] r2) b r3) (h1 : Ev X o e1 ds k (nD 17 (-12) 1) k) (h2 : Ev X o e2 ds k (nD 26 (-15) 1) k) (h3 : Ev X o e3 ds k (nD 21 (-13) 1) k)
    (hu : X.A.units + 64 < cLine) (hk : Kd kk) (hn : Ev X o b ds k (.int kk) k) (hs : NoSl b) (hR : R (n3 (nrF kk)) k) : EvC X o e ds k R := by
  subst he
  exact c_disp3 (d1 := nD 17 (-12) 1) (d2 := nD 26 (-15) 1) (d3 := nD 21 (-13) 1) hu h1 h2 h3 ⟨rfl, rfl, rfl⟩ (hn _ (And.intro hk (nr_pick ▸ hR))) hs
theorem as_near {X : Cx} {o o0 : Os} {ds : List (Option Dat)} {k : Cs} {rest : List Stmt} {D : Ends} {H0 : Hp} {kk : Int} {i : Nat} {s : Stmt} {e e1 e2 e3 b : Expr} {y : Str} {j1 j2 j3 j4 j5 j6 j7 j8 j9 j10 j11 j12 k1 k2 k3 : Nat} {p1 p2 p3 p4 p5 p6 p7 p8 p9 p10 p11 p12 q4 q5 q7 q8 q10 q11 r2 r3 r5 r6 : Pos}
    (hs : s = .Assign [.Name y r5] e r6) (he : e = .Subscript (.Dict [some (.Constant (.int 2) j1 p1), some (.Constant (.int 3) j2 p2), some (.Constant (.int 5) j3 p3)] [e1, e2, e3] r2) b r3)
    (t1 : e1 = .Tuple [.Constant (.int 17) j4 p4, .UnaryOp .USub (.Constant (.int 12) j5 p5) q4, .Constant (.int 1) j6 p6] k1 q5) (t2 : e2 = .Tuple [.Constant (.int 26) j7 p7, .UnaryOp .USub (.Constant (.int 15) j8 p8) q7, .Constant (.int 1) j9 p9] k2 q8) (t3 : e3 = .Tuple [.Constant (.int 21) j10 p10, .UnaryOp .USub (.Constant (.int 13) j11 p11) q10, .Constant (.int 1) j12 p12] k3 q11)
    (hu : X.A.units + 64 < cLine) (hk : Kd kk) (hn : Ev X o b ds k (.int kk) k) (hb : NoSl b) (hN : X.N.Nodup) (hi : X.N[i]? = some y) (hx : Loc X.env.scope y) (hsw : swapsWith e (some (.Name y r5)) r6.line X.env = pure false) (hf : X.fn y = true ∨ X.env.scope.names.lookup y = some .local)
    (h : AS X o0 o rest D (ds.set i (some (n3 (nrF kk)))) k H0) : AS X o0 o (s :: rest) D ds k H0 := by
  subst hs
  exact as_asg hN (near_ev he (tup_ev t1) (tup_ev t2) (tup_ev t3) hu hk hn hb h) hi hx hsw hf
def intOf : Expr → Option Int
  | .Constant (.int i) _ _ => some i
  | .UnaryOp .USub (.Constant (.int i) _ _) _ => some (-i)
  | _ => none
def tripOf : Expr → Option T3
  | .Tuple [a, b, c] _ _ => match intOf a, intOf b, intOf c with
    | some x, some y, some z => some (x, y, z)
    | _, _, _ => none
  | _ => none
theorem int_ev {X : Cx} {o : Os} {ds : List (Option Dat)} {k : Cs} {e : Expr} {i : Int} (h : intOf e = some i) : Ev X o e ds k (.int i) k ∧ ∀ es : List Expr, starEach (e :: es) X.env = (false, eval e X.env) :: starEach es X.env := by
  unfold intOf at h
  split at h
  · cases h
    exact ⟨fun _ hR => c_int hR, fun _ => rfl⟩
  · cases h
    exact ⟨fun _ hR => c_neg (c_int hR), fun _ => rfl⟩
  · cases h
theorem trip_ev {X : Cx} {o : Os} {ds : List (Option Dat)} {k : Cs} {e : Expr} {t : T3} (h : tripOf e = some t) : Ev X o e ds k (n3 t) k ∧ ∀ es : List Expr, starEach (e :: es) X.env = (false, eval e X.env) :: starEach es X.env := by
  unfold tripOf at h
  split at h
  · split at h
    · rename_i h1 h2 h3
      cases h
      obtain ⟨a1, a2⟩ := int_ev (X := X) (o := o) (ds := ds) (k := k) h1
      obtain ⟨b1, b2⟩ := int_ev (X := X) (o := o) (ds := ds) (k := k) h2
      obtain ⟨c1, c2⟩ := int_ev (X := X) (o := o) (ds := ds) (k := k) h3
      refine ⟨fun _ hR => ?_, fun _ => rfl⟩
      exact c_tup (ca_cons (a1 _ (ca_cons (b1 _ (ca_cons (c1 _ (ca_nil (And.intro (And.intro rfl (Nat.le_of_ble_eq_true rfl)) hR))) (c2 _))) (b2 _))) (a2 _))
    · cases h
  · cases h
theorem trips_ev {X : Cx} {o : Os} {ds : List (Option Dat)} {k : Cs} : ∀ {es : List Expr} {ts : List T3}, es.map tripOf = ts.map some → ∀ RA : List Dat → Cs → Prop, RA (ts.map fun t => n3 t) k → EvA X o es ds k RA
  | [], [], _, RA, h => ca_nil h
  | e :: es, t :: ts, he, RA, h => by
    rw [List.map_cons, List.map_cons] at he
    obtain ⟨h1, h2⟩ := List.cons.inj he
    obtain ⟨a1, a2⟩ := trip_ev (X := X) (o := o) (ds := ds) (k := k) h1
    exact ca_cons (a1 _ (trips_ev h2 _ h)) (a2 _)
  | [], _ :: _, he, _, _ => by cases he
  | _ :: _, [], he, _, _ => by cases he
theorem n3_noC (ts : List T3) : (ts.map fun t => n3 t).all noC = true := List.all_eq_true.mpr fun d hd => by
  obtain ⟨t, _, rfl⟩ := List.mem_map.mp hd
  rfl
/-- x = [..][e], triples of numbers -/
theorem as_trip {X : Cx} {o o0 : Os} {ds : List (Option Dat)} {k : Cs} {rest : List Stmt} {D : Ends} {H0 : Hp} {i : Nat} {s : Stmt} {e b : Expr} {es : List Expr} {ts : List T3} {P : T3 → Prop} {y : Str} {r2 r3 r5 r6 : Pos}
    (hs : s = .Assign [.Name y r5] (.Subscript e b r3) r6) (he : e = .List es r2) (ht : es.map tripOf = ts.map some) (hP : ∀ t ∈ ts, P t) (hl : ts.length ≤ 1000) (hb : PlainIx b) (hN : X.N.Nodup) (hi : X.N[i]? = some y) (hx : Loc X.env.scope y) (hsw : swapsWith (.Subscript e b r3) (some (.Name y r5)) r6.line X.env = pure false) (hf : X.fn y = true ∨ X.env.scope.names.lookup y = some .local)
    (h : EvC X o b ds k fun d k2 => onI d fun v => (0 ≤ v ∧ v < (ts.length : Int)) ∧ ∀ t, P t → AS X o0 o rest D (ds.set i (some (n3 t))) k2 H0) : AS X o0 o (s :: rest) D ds k H0 := by
  subst hs
  refine as_asg hN (c_ixL ?_ hb) hi hx hsw hf
  subst he
  refine c_ofN (n_disp (trips_ev ht _ ⟨⟨n3_noC ts, by rw [List.length_map]; exact hl⟩, ?_⟩))
  refine h.mono fun d k2 hd => ?_
  obtain ⟨v, rfl, hv, hr⟩ := onI_ex hd
  exact at_list hv.1 hv.2 hP hr
theorem nr_b {k : Int} : Nb 7 (nrF k).1 (nrF k).2.1 (nrF k).2.2 := by
  have b7 : ∀ i : Int, i.natAbs < 128 → Bd 7 i := fun i hi => by
    show i.natAbs < 2 ^ 7
    omega
  unfold nrF
  split
  · exact ⟨by decide, b7 _ (by decide), b7 _ (by decide), b7 _ (by decide)⟩
  · split
    · exact ⟨by decide, b7 _ (by decide), b7 _ (by decide), b7 _ (by decide)⟩
    · exact ⟨by decide, b7 _ (by decide), b7 _ (by decide), b7 _ (by decide)⟩
theorem bd_i {l : Nat} {i : Int} (m : Nat) (h : i.natAbs < m) (e : m ≤ 2 ^ l) : Bd l i := Nat.lt_of_lt_of_le h e
theorem cnb {l : Nat} (a b n : Int) (h1 : 0 < n) (h2 : a.natAbs < 8 ∧ b.natAbs < 8 ∧ n.natAbs < 8) (h3 : 3 ≤ l) (h4 : True) : Nb l a b n := by
  have e : ∀ i : Int, i.natAbs < 8 → Bd l i := fun i hi => Bd.mono (n := 3) hi h3
  exact ⟨h1, e _ h2.1, e _ h2.2.1, e _ h2.2.2⟩
theorem lo_nm2 {a b n x y z : Int} (h : LO a b n x y z) (hn : 0 < n) : Nm x y z := by
  rw [h.x, h.y, h.z]
  exact Y02.lo_nm (by omega)
theorem kinds_ok : ∀ i ∈ [(2 : Int), 3, 5], Kd i := by
  intro i hi
  unfold Y02.Kd
  simpa using hi
def lowsL : List T3 := [(0, 0, 1), (-1, 0, 2), (1, -1, 2), (-1, 1, 3)]
def sizsL : List T3 := [(1, 0, 1), (0, 1, 1), (1, 1, 1), (1, 0, 4), (0, 1, 2), (3, 0, 2)]
instance {a b n : Int} : Decidable (Nm a b n) := by
  unfold Y02.Nm
  exact inferInstance
theorem lows_ok : ∀ t ∈ lowsL, Nu 7 t.1 t.2.1 t.2.2 := by
  have h : ∀ t ∈ lowsL, Nm t.1 t.2.1 t.2.2 ∧ 0 < t.2.2 ∧ t.1.natAbs < 128 ∧ t.2.1.natAbs < 128 ∧ t.2.2.natAbs < 128 := by decide +kernel
  intro t ht
  obtain ⟨h1, h2, h3, h4, h5⟩ := h t ht
  exact ⟨h1, h2, h3, h4, h5⟩
theorem sizs_ok : ∀ t ∈ sizsL, Nb 7 t.1 t.2.1 t.2.2 ∧ ∀ k, Kd k → ¬ lsD k (t.1 * 4 - 1 * t.2.2) (t.2.1 * 4 - 0 * t.2.2) < 0 ∧ ¬ lsD k (6 * t.2.2 - t.1 * 1) (0 * t.2.2 - t.2.1 * 1) < 0 := by
  have h : ∀ t ∈ sizsL, (0 < t.2.2 ∧ t.1.natAbs < 128 ∧ t.2.1.natAbs < 128 ∧ t.2.2.natAbs < 128) ∧ ∀ k ∈ [(2 : Int), 3, 5], ¬ lsD k (t.1 * 4 - 1 * t.2.2) (t.2.1 * 4 - 0 * t.2.2) < 0 ∧ ¬ lsD k (6 * t.2.2 - t.1 * 1) (0 * t.2.2 - t.2.1 * 1) < 0 := by decide +kernel
  intro t ht
  obtain ⟨⟨h2, h3, h4, h5⟩, h6⟩ := h t ht
  exact ⟨⟨h2, h3, h4, h5⟩, fun k hk => h6 k (by rcases hk with rfl | rfl | rfl <;> simp)⟩
/-- the ends so far -/
def En (c : Nat) (s : List Dat) : Prop := ∃ L : List T3, s = L.map (fun t => n3 t) ∧ L.length = c ∧ ∀ t ∈ L, Nu 15 t.1 t.2.1 t.2.2
theorem En.nil : En 0 [] := ⟨[], rfl, rfl, fun t h => (by cases h)⟩
theorem En.next {c : Nat} {s : List Dat} {x y z : Int} (h : En c s) (g : Nu 15 x y z) : En (c + 1) (s ++ [nD x y z]) := by
  obtain ⟨L, rfl, h2, h3⟩ := h
  refine ⟨L ++ [(x, y, z)], by rw [List.map_append]; rfl, by rw [List.length_append, h2]; rfl, fun t ht => ?_⟩
  rcases List.mem_append.mp ht with a | a
  · exact h3 t a
  · have e := List.mem_singleton.mp a
    subst e
    exact g
theorem En.two {s : List Dat} (h : En 2 s) : ∃ a b n c e u, s = [nD a b n, nD c e u] ∧ Nu 15 a b n ∧ Nu 15 c e u := by
  obtain ⟨L, rfl, h2, h3⟩ := h
  match L, h2 with
  | [t1, t2], _ => exact ⟨_, _, _, _, _, _, rfl, h3 t1 (by simp), h3 t2 (by simp)⟩
theorem En.len {c : Nat} {s : List Dat} (h : En c s) : s.length = c := by
  obtain ⟨L, rfl, h2, _⟩ := h
  rw [List.length_map, h2]
theorem wides {n i : Int} (hn : 1 ≤ n ∧ n ≤ 12) (h : i ∈ [4 * n, 3]) : 3 ≤ i ∧ i ≤ 48 := by
  rcases List.mem_cons.mp h with rfl | h
  · omega
  · have := List.mem_singleton.mp h
    omega
theorem here_nb {n v1 v2 wd : Int} (hn : 1 ≤ n ∧ n ≤ 12) (hw : 3 ≤ wd ∧ wd ≤ 48) (h1 : 0 ≤ v1) (h2 : v1 < 2 * wd + 1) (h3 : 0 ≤ v2) (h4 : v2 < 2 * wd + 1) : Nb 7 (v1 - wd) (v2 - wd) n := ⟨by omega, by show Int.natAbs _ < 2 ^ 7; omega, by show Int.natAbs _ < 2 ^ 7; omega, by show Int.natAbs _ < 2 ^ 7; omega⟩
theorem Nu.mono {l j : Nat} {a b n : Int} (h : Nu l a b n) (e : l ≤ j) : Nu j a b n := ⟨h.1, h.2.mono e⟩
set_option exponentiation.threshold 1000000
section
variable {P : Program} {w : World} {K : PySem.W.Frag} {mg : Str → Option Value} {base : Heap}

/-! ### _law_row -/
abbrev s__law_row : Stmt := topS 60
theorem sc__law_row : FnScope ["well", "kind", "n", "near", "turn", "ends", "end", "wide", "here", "low", "high", "size"] ["well"] (defScope s__law_row) := ⟨rfl, rfl, rfl, by decide +kernel, rfl, by decide +kernel, by decide +kernel⟩
def F__law_row : FD := fun ds c Q => ∃ N : Nat, ds = [] ∧ (Dk N c ∧ N ≤ 900000) ∧ ∀ k a b n c1 e u c', Ro k a b n c1 e u → Dk (N + 80) c' → Q (rwD k a b n c1 e u) c'
theorem ok__law_row {f : Addr} {fd : FuncData} (Fn : Fun K "_law_row" "_law_row" s__law_row f fd) (c__law_dip : Cl P w K mg base 1 "_law_dip" ["well", "many"] (spD K F__law_dip)) (c__law_form : Cl P w K mg base 1 "_law_form" ["a", "b", "n"] (spP K F__law_form)) (c__law_plus : Cl P w K mg base 2 "_law_plus" ["p", "q"] (spP K F__law_plus)) (c__law_under : Cl P w K mg base 4 "_law_under" ["kind", "p", "q"] (spP K F__law_under)) (c__law_minus : Cl P w K mg base 3 "_law_minus" ["p", "q"] (spP K F__law_minus)) (m_range : mg "range" = none) : FnOk P w K mg base CX0 5 f fd ["well"] (spD K F__law_row) := by
  refine fn_D Fn sc__law_row (fun ds c G h => ?_) (fun cdv A outer s H Q E pa ds c G hr hF hQ => ?_)
  · obtain ⟨N, rfl, ⟨hdk, hN⟩, hG⟩ := h
    rfl
  · obtain ⟨N, rfl, ⟨hdk, hN⟩, hG⟩ := hF
    refine (as_par (i := 1) (j := 2) ?h1 rfl (ca_cons (c_ixL (c_ofN (n_disp (ca_cons (c_int (ca_cons (c_int (ca_cons (c_int (ca_nil (And.intro (And.intro rfl (Nat.le_of_ble_eq_true rfl)) (c_callD c__law_dip (hr.mono (by decide)) (ca_cons (nm 0 rfl (ca_cons (c_int (ca_nil (And.intro rfl ⟨_, _, rfl, ⟨?h2, ?h3, (by assumption), ?h4⟩, fun v1 c1 hv1 hw1 hd1 => And.intro rfl (at_list (f := Dat.int) (ns := [2, 3, 5]) (P := Kd) hv1 hw1 kinds_ok (fun k hk => (ca_cons (c_ixL (c_ofN (n_disp (ca_cons (c_int (ca_cons (c_int (ca_cons (c_int (ca_cons (c_int (ca_cons (c_int (ca_cons (c_int (ca_cons (c_int (ca_nil (And.intro (And.intro rfl (Nat.le_of_ble_eq_true rfl)) (c_callD c__law_dip (hr.mono (by decide)) (ca_cons (nm 0 rfl (ca_cons (c_int (ca_nil (And.intro rfl ⟨_, _, rfl, ⟨?h5, ?h6, (by assumption), ?h7⟩, fun v2 c2 hv2 hw2 hd2 => And.intro rfl (at_list (f := Dat.int) (ns := [1, 1, 2, 3, 4, 5, 12]) (P := fun i => 1 ≤ i ∧ i ≤ 12) hv2 hw2 (by decide) (fun n0 hn0 => (ca_nil ⟨_, _, rfl, (as_asg (i := 2) ?h8 (c_join (J := (fun d0 k0 => ∃ (m1 : Int) (cq : List Dat), d0 = .int m1 ∧ k0 = [cq] ∧ (1 ≤ m1 ∧ m1 ≤ 12) ∧ Dk (N + 4) cq)) (c_if (t_eqI (c_callD c__law_dip (hr.mono (by decide)) (ca_cons (nm 0 rfl (ca_cons (c_int (ca_nil (And.intro rfl ⟨_, _, rfl, ⟨?h10, ?h11, (by assumption), ?h12⟩, fun v3 c3 hv3 hw3 hd3 => And.intro rfl (c_int (And.intro (fun b1 => (c_add (c_int (c_callD c__law_dip (hr.mono (by decide)) (ca_cons (nm 0 rfl (ca_cons (c_int (ca_nil (And.intro rfl ⟨_, _, rfl, ⟨?h13, ?h14, (by assumption), ?h15⟩, fun v4 c4 hv4 hw4 hd4 => And.intro rfl ⟨_, _, rfl, rfl, ?h16, ?h17⟩⟩)))))))))) (fun b1 => (nm 2 rfl ⟨_, _, rfl, rfl, ?h18, ?h19⟩))))⟩))))))))) ?h9))⟩)))⟩)))))))))))))))))))))))))))))⟩))))))))))))))))))))
    case h1 =>
      exact sc__law_row.nd
    case h2 =>
      first | decide | omega
    case h3 =>
      first | assumption | exact Bd.of _ | exact (bd_le (n := 40) (by omega) (by omega)).mono (by decide)
    case h4 =>
      first | decide | omega
    case h5 =>
      first | decide | omega
    case h6 =>
      first | assumption | exact Bd.of _ | exact (bd_le (n := 40) (by omega) (by omega)).mono (by decide)
    case h7 =>
      first | decide | omega
    case h8 =>
      exact sc__law_row.nd
    case h9 =>
      intro d0 k0 hj
      obtain ⟨n1, cq, rfl, rfl, hn1, hcq⟩ := hj
      refine (@as_near _ _ _ _ _ _ _ _ _ 3 _ _ _ _ _ _ _ _ _ _ _ _ _ _ _ _ _ _ _ _ _ _ _ _ _ _ _ _ _ _ _ _ _ _ _ _ _ _ _ _ _ _ _ _ rfl rfl rfl rfl rfl hr.units hk (fun _ hR => nm 1 rfl hR) (by exact fun _ _ => rfl) ?h20 (by rfl) (by exact .inl rfl) (by rfl) (by exact .inl rfl) (as_forR1 (i := 4) ?h21 rfl PassesOwn.never m_range (ca_cons (c_int (ca_nil ⟨_, (fun j es qq => ∃ (o4 o5 o6 o7 o8 o9 o10 o11 : Option Dat) (cq : List Dat), es = [some (.cel 0), some (.int k), some (.int n1), some (n3 (nrF k)), o4, o5, o6, o7, o8, o9, o10, o11] ∧ qq = [cq] ∧ Dk (N + 4 + 8 * j) cq), (fun _ _ => False), rfl, ?h76, ⟨_, _, _, _, _, _, _, _, _, rfl, rfl, hcq⟩, ⟨fun H10 e10 fr0 j d es q hj hd hw => ?h22, fun es q hw => ?h23, fun _ _ h => h.elim⟩⟩)))))
      case h20 =>
        exact sc__law_row.nd
      case h21 =>
        exact sc__law_row.nd
      case h22 =>
        obtain ⟨o4, o5, o6, o7, o8, o9, o10, o11, cq, rfl, rfl, hcq⟩ := hw
        cases hd
        refine (as_asgN (i := 5) ?h24 (n_disp (ca_nil (And.intro (And.intro rfl (Nat.le_of_ble_eq_true rfl)) (And.intro ?h25 (fun _ => (as_forR1 (i := 6) ?h26 rfl PassesOwn.never m_range (ca_cons (c_int (ca_nil ⟨_, (fun i es qq => ∃ (o6 o7 o8 o9 o10 o11 : Option Dat) (cq eq : List Dat), es = [some (.cel 0), some (.int k), some (.int n1), some (n3 (nrF k)), some (.int (j : Int)), some (.cel 1), o6, o7, o8, o9, o10, o11] ∧ qq = [cq, eq] ∧ Dk (N + 4 + 8 * j + 4 * i) cq ∧ En i eq), (fun _ _ => False), rfl, ?h65, ⟨_, _, _, _, _, _, _, _, rfl, rfl, hcq, En.nil⟩, ⟨fun H11 e11 fr1 j d es q hj hd hw => ?h27, fun es q hw => ?h28, fun _ _ h => h.elim⟩⟩))))))))))
        case h24 =>
          exact sc__law_row.nd
        case h25 =>
          rfl
        case h26 =>
          exact sc__law_row.nd
        case h27 =>
          obtain ⟨o6, o7, o8, o9, o10, o11, cq, eq, rfl, rfl, hcq, hen⟩ := hw
          cases hd
          refine (as_asg (i := 7) ?h29 (c_ixL (c_ofN (n_disp (ca_cons (c_mulS (c_int (nm 2 rfl (And.intro (.inl (And.intro (by decide) (by decide))) (ca_cons (c_int (ca_nil (And.intro (And.intro rfl (Nat.le_of_ble_eq_true rfl)) (c_callD c__law_dip (hr.mono (by decide)) (ca_cons (nm 0 rfl (ca_cons (c_int (ca_nil (And.intro rfl ⟨_, _, rfl, ⟨?h30, ?h31, (by assumption), ?h32⟩, fun v5 c5 hv5 hw5 hd5 => And.intro rfl (at_list (f := Dat.int) (ns := [4 * n1, 3]) (P := fun i => 3 ≤ i ∧ i ≤ 48) hv5 hw5 (fun i hi => wides hn1 hi) (fun wd hwd => (as_asg (i := 8) ?h33 (c_call c__law_form (hr.mono (by decide)) (ca_cons (c_sub (c_callD c__law_dip (hr.mono (by decide)) (ca_cons (nm 0 rfl (ca_cons (c_add (c_mulS (c_int (nm 7 rfl (And.intro (.inl (And.intro (by decide) (by decide))) (c_int (ca_nil (And.intro rfl ⟨_, _, rfl, ⟨?h34, ?h35, (by assumption), ?h36⟩, fun v6 c6 hv6 hw6 hd6 => And.intro rfl (nm 7 rfl (ca_cons (c_sub (c_callD c__law_dip (hr.mono (by decide)) (ca_cons (nm 0 rfl (ca_cons (c_add (c_mulS (c_int (nm 7 rfl (And.intro (.inl (And.intro (by decide) (by decide))) (c_int (ca_nil (And.intro rfl ⟨_, _, rfl, ⟨?h37, ?h38, (by assumption), ?h39⟩, fun v7 c7 hv7 hw7 hd7 => And.intro rfl (nm 7 rfl (ca_cons (nm 2 rfl (ca_nil ⟨_, _, _, 7, rfl, ?h40, fun x1 y1 z1 lo1 nb1 => And.intro rfl (as_drop (c_append (nm 5 rfl (ca_cons (c_if (t_gt (c_callD c__law_dip (hr.mono (by decide)) (ca_cons (nm 0 rfl (ca_cons (c_int (ca_nil (And.intro rfl ⟨_, _, rfl, ⟨?h41, ?h42, (by assumption), ?h43⟩, fun v8 c8 hv8 hw8 hd8 => And.intro rfl (c_int (And.intro (fun b2 => (nm 8 rfl (ca_nil ⟨rfl, _, rfl, ?h44, (as_end rfl ?h45)⟩))) (fun b2 => (c_call c__law_plus (hr.mono (by decide)) (ca_cons (nm 8 rfl (ca_cons (nm 3 rfl (ca_nil ⟨_, _, _, _, _, _, 7, rfl, ?h46, fun px1 py1 pz1 pl1 pb1 => And.intro rfl (ca_nil ⟨rfl, _, rfl, ?h47, (as_end rfl ?h48)⟩)⟩)))))))))⟩)))))))))))))⟩))))⟩)))))))))))))))⟩))))))))))))))))))⟩))))))))))))))))))))
          case h29 =>
            exact sc__law_row.nd
          case h30 =>
            first | decide | omega
          case h31 =>
            first | assumption | exact Bd.of _ | exact (bd_le (n := 40) (by omega) (by omega)).mono (by decide)
          case h32 =>
            first | decide | omega
          case h33 =>
            exact sc__law_row.nd
          case h34 =>
            first | decide | omega
          case h35 =>
            first | assumption | exact Bd.of _ | exact (bd_le (n := 40) (by omega) (by omega)).mono (by decide)
          case h36 =>
            first | decide | omega
          case h37 =>
            first | decide | omega
          case h38 =>
            first | assumption | exact Bd.of _ | exact (bd_le (n := 40) (by omega) (by omega)).mono (by decide)
          case h39 =>
            first | decide | omega
          case h40 =>
            exact ⟨here_nb hn1 hwd (by assumption) (by assumption) (by assumption) (by assumption), by decide⟩
          case h41 =>
            first | decide | omega
          case h42 =>
            first | assumption | exact Bd.of _ | exact (bd_le (n := 40) (by omega) (by omega)).mono (by decide)
          case h43 =>
            first | decide | omega
          case h44 =>
            have := hen.len
            omega
          case h45 =>
            first
              | exact ⟨_, _, _, _, _, _, _, _, rfl, rfl, Dk.mono (by assumption) (by omega), hen.next ⟨lo_nm2 pl1 (Int.mul_pos nb1.p nr_b.p), pb1.mono (by decide)⟩⟩
              | exact ⟨_, _, _, _, _, _, _, _, rfl, rfl, Dk.mono (by assumption) (by omega), hen.next ⟨lo_nm2 lo1 (by omega), nb1.mono (by decide)⟩⟩
          case h46 =>
            first | exact ⟨nb1, nr_b, by decide⟩ | exact ⟨htl.2, hts.1, by decide⟩
          case h47 =>
            have := hen.len
            omega
          case h48 =>
            first
              | exact ⟨_, _, _, _, _, _, _, _, rfl, rfl, Dk.mono (by assumption) (by omega), hen.next ⟨lo_nm2 pl1 (Int.mul_pos nb1.p nr_b.p), pb1.mono (by decide)⟩⟩
              | exact ⟨_, _, _, _, _, _, _, _, rfl, rfl, Dk.mono (by assumption) (by omega), hen.next ⟨lo_nm2 lo1 (by omega), nb1.mono (by decide)⟩⟩
        case h28 =>
          obtain ⟨o6, o7, o8, o9, o10, o11, cq, eq, rfl, rfl, hcq, hen⟩ := hw
          obtain ⟨a, b, n, c1, e, u, rfl, hu1, hu2⟩ := hen.two
          refine (as_unpL2 (i := 9) (j := 10) ?h49 rfl (c_join (J := (fun d0 k0 => ∃ (a b n c e u : Int) (sq : List Dat), onL k0 d0 (fun as => as = [nD a b n, nD c e u]) ∧ k0 = [cq, sq] ∧ Nu 15 a b n ∧ Nu 15 c e u)) (c_if (t_valB (c_call c__law_under (hr.mono (by decide)) (ca_cons (nm 1 rfl (ca_cons (c_ixLn (nm 5 rfl (c_int (And.intro (by decide) (ca_cons (c_ixLn (nm 5 rfl (c_int (And.intro (by decide) (ca_nil ⟨_, _, _, _, _, _, _, rfl, ?h51, And.intro rfl (And.intro (fun b3 => (nm 5 rfl ?h52)) (fun b3 => (c_ofN (n_rev (nm 5 rfl ?h53)))))⟩)))))))))))))))) ?h50))
          case h49 =>
            exact sc__law_row.nd
          case h50 =>
            intro d0 k0 hj
            obtain ⟨a2, b2, n2, c2, e2, u2, sq, hol, rfl, hq1, hq2⟩ := hj
            refine onL_mono hol (fun as eas => ?_)
            subst eas
            refine ⟨_, _, rfl, (as_asg (i := 11) ?h54 (c_call c__law_minus (hr.mono (by decide)) (ca_cons (nm 10 rfl (ca_cons (nm 9 rfl (ca_nil ⟨_, _, _, _, _, _, 15, rfl, ?h55, fun mx2 my2 mz2 ml2 mb2 => And.intro rfl (as_ifn (t_w (w_and (t_not (t_valB (c_call c__law_under (hr.mono (by decide)) (ca_cons (nm 1 rfl (ca_cons (nm 9 rfl (ca_cons (c_tup (ca_cons (c_neg (c_int (ca_cons (c_int (ca_cons (c_int (ca_nil (And.intro (And.intro rfl (Nat.le_of_ble_eq_true rfl)) (ca_nil ⟨_, _, _, _, _, _, _, rfl, ?h56, And.intro rfl (And.intro (fun b4 => (as_endL rfl ⟨_, rfl⟩ ?h57)) (fun b4 => (w_and1 (t_not (t_valB (c_call c__law_under (hr.mono (by decide)) (ca_cons (nm 1 rfl (ca_cons (c_tup (ca_cons (c_int (ca_cons (c_int (ca_cons (c_int (ca_nil (And.intro (And.intro rfl (Nat.le_of_ble_eq_true rfl)) (ca_cons (nm 10 rfl (ca_nil ⟨_, _, _, _, _, _, _, rfl, ?h58, And.intro rfl (And.intro (fun b5 => (as_endL rfl ⟨_, rfl⟩ ?h59)) (fun b5 => (as_ifn (t_w (w_and (t_not (t_valB (c_call c__law_under (hr.mono (by decide)) (ca_cons (nm 1 rfl (ca_cons (nm 11 rfl (ca_cons (c_tup (ca_cons (c_int (ca_cons (c_int (ca_cons (c_int (ca_nil (And.intro (And.intro rfl (Nat.le_of_ble_eq_true rfl)) (ca_nil ⟨_, _, _, _, _, _, _, rfl, ?h60, And.intro rfl (And.intro (fun b6 => (as_go (as_endL rfl ⟨_, rfl⟩ ?h61))) (fun b6 => (w_and1 (t_not (t_valB (c_call c__law_under (hr.mono (by decide)) (ca_cons (nm 1 rfl (ca_cons (c_tup (ca_cons (c_int (ca_cons (c_int (ca_cons (c_int (ca_nil (And.intro (And.intro rfl (Nat.le_of_ble_eq_true rfl)) (ca_cons (nm 11 rfl (ca_nil ⟨_, _, _, _, _, _, _, rfl, ?h62, And.intro rfl (And.intro (fun b7 => (as_go (as_endL rfl ⟨_, rfl⟩ ?h63))) (fun b7 => (as_ret (RetC.sub hQ e10 fr0) (c_tup (ca_cons (nm 1 rfl (ca_cons (nm 9 rfl (ca_cons (nm 10 rfl (ca_nil (And.intro (And.intro rfl (Nat.le_of_ble_eq_true rfl)) (And.intro rfl ?h64)))))))))))))⟩)))))))))))))))))))))⟩)))))))))))))))))))))))⟩)))))))))))))))))))))⟩))))))))))))))))))))))⟩)))))))⟩
            case h54 =>
              exact sc__law_row.nd
            case h55 =>
              exact ⟨hq2.2, hq1.2, by decide⟩
            case h56 =>
              first
                | exact ⟨hk, hu1.2.mono (by decide), hu2.2.mono (by decide)⟩
                | exact ⟨hk, hq1.2.mono (by decide), cnb _ _ _ (by decide) (by decide) (by decide) (by decide)⟩
                | exact ⟨hk, cnb _ _ _ (by decide) (by decide) (by decide) (by decide), hq2.2.mono (by decide)⟩
                | exact ⟨hk, mb2.mono (by decide), cnb _ _ _ (by decide) (by decide) (by decide) (by decide)⟩
                | exact ⟨hk, cnb _ _ _ (by decide) (by decide) (by decide) (by decide), mb2.mono (by decide)⟩
            case h57 =>
              exact ⟨_, _, _, _, _, _, _, _, _, rfl, rfl, Dk.mono hcq (by show N + 4 + 8 * j + 4 * 2 ≤ _; omega)⟩
            case h58 =>
              first
                | exact ⟨hk, hu1.2.mono (by decide), hu2.2.mono (by decide)⟩
                | exact ⟨hk, hq1.2.mono (by decide), cnb _ _ _ (by decide) (by decide) (by decide) (by decide)⟩
                | exact ⟨hk, cnb _ _ _ (by decide) (by decide) (by decide) (by decide), hq2.2.mono (by decide)⟩
                | exact ⟨hk, mb2.mono (by decide), cnb _ _ _ (by decide) (by decide) (by decide) (by decide)⟩
                | exact ⟨hk, cnb _ _ _ (by decide) (by decide) (by decide) (by decide), mb2.mono (by decide)⟩
            case h59 =>
              exact ⟨_, _, _, _, _, _, _, _, _, rfl, rfl, Dk.mono hcq (by show N + 4 + 8 * j + 4 * 2 ≤ _; omega)⟩
            case h60 =>
              first
                | exact ⟨hk, hu1.2.mono (by decide), hu2.2.mono (by decide)⟩
                | exact ⟨hk, hq1.2.mono (by decide), cnb _ _ _ (by decide) (by decide) (by decide) (by decide)⟩
                | exact ⟨hk, cnb _ _ _ (by decide) (by decide) (by decide) (by decide), hq2.2.mono (by decide)⟩
                | exact ⟨hk, mb2.mono (by decide), cnb _ _ _ (by decide) (by decide) (by decide) (by decide)⟩
                | exact ⟨hk, cnb _ _ _ (by decide) (by decide) (by decide) (by decide), mb2.mono (by decide)⟩
            case h61 =>
              exact ⟨_, _, _, _, _, _, _, _, _, rfl, rfl, Dk.mono hcq (by show N + 4 + 8 * j + 4 * 2 ≤ _; omega)⟩
            case h62 =>
              first
                | exact ⟨hk, hu1.2.mono (by decide), hu2.2.mono (by decide)⟩
                | exact ⟨hk, hq1.2.mono (by decide), cnb _ _ _ (by decide) (by decide) (by decide) (by decide)⟩
                | exact ⟨hk, cnb _ _ _ (by decide) (by decide) (by decide) (by decide), hq2.2.mono (by decide)⟩
                | exact ⟨hk, mb2.mono (by decide), cnb _ _ _ (by decide) (by decide) (by decide) (by decide)⟩
                | exact ⟨hk, cnb _ _ _ (by decide) (by decide) (by decide) (by decide), mb2.mono (by decide)⟩
            case h63 =>
              exact ⟨_, _, _, _, _, _, _, _, _, rfl, rfl, Dk.mono hcq (by show N + 4 + 8 * j + 4 * 2 ≤ _; omega)⟩
            case h64 =>
              first
                | exact ⟨_, rfl, hG _ _ _ _ _ _ _ _ ⟨hk, hq1, hq2, fun M p q hM V1 V2 => ⟨q4 hk hM mb2.p ((V2.sub V1).lo ml2 (Int.mul_pos hq2.2.p hq1.2.p)) (of_decide_eq_false (by assumption)), q6 hk hM mb2.p ((V2.sub V1).lo ml2 (Int.mul_pos hq2.2.p hq1.2.p)) (of_decide_eq_false (by assumption))⟩⟩ (Dk.mono hcq (by show N + 4 + 8 * j + 4 * 2 ≤ _; omega))⟩
                | exact ⟨_, rfl, hG _ _ _ _ _ _ _ _ ⟨hk, htl.mono (by decide), ⟨lo_nm2 pl3 (Int.mul_pos htl.2.p hts.1.p), pb3.mono (by decide)⟩, fun M p q hM V1 V2 => ⟨q4 hk hM hts.1.p (vl_dif V1 V2 htl.2.p hts.1.p pb3.p pl3) (hts.2 k hk).1, q6 hk hM hts.1.p (vl_dif V1 V2 htl.2.p hts.1.p pb3.p pl3) (hts.2 k hk).2⟩⟩ (Dk.mono (by assumption) (by omega))⟩
          case h51 =>
            first
              | exact ⟨hk, hu1.2.mono (by decide), hu2.2.mono (by decide)⟩
              | exact ⟨hk, hq1.2.mono (by decide), cnb _ _ _ (by decide) (by decide) (by decide) (by decide)⟩
              | exact ⟨hk, cnb _ _ _ (by decide) (by decide) (by decide) (by decide), hq2.2.mono (by decide)⟩
              | exact ⟨hk, mb2.mono (by decide), cnb _ _ _ (by decide) (by decide) (by decide) (by decide)⟩
              | exact ⟨hk, cnb _ _ _ (by decide) (by decide) (by decide) (by decide), mb2.mono (by decide)⟩
          case h52 =>
            first | exact ⟨_, _, _, _, _, _, _, rfl, rfl, hu1, hu2⟩ | exact ⟨_, _, _, _, _, _, _, rfl, rfl, hu2, hu1⟩
          case h53 =>
            first | exact ⟨_, _, _, _, _, _, _, rfl, rfl, hu1, hu2⟩ | exact ⟨_, _, _, _, _, _, _, rfl, rfl, hu2, hu1⟩
        case h65 =>
          decide
      case h23 =>
        obtain ⟨o4, o5, o6, o7, o8, o9, o10, o11, cq, rfl, rfl, hcq⟩ := hw
        refine (@as_trip _ _ _ _ _ _ _ _ 9 _ _ _ _ lowsL (fun t => Nu 7 t.1 t.2.1 t.2.2) _ _ _ _ _ rfl rfl rfl lows_ok (by decide) (fun _ _ => rfl) ?h66 (by rfl) (by exact .inl rfl) (by rfl) (by exact .inl rfl) (c_callD c__law_dip (hr.mono (by decide)) (ca_cons (nm 0 rfl (ca_cons (c_int (ca_nil (And.intro rfl ⟨_, _, rfl, ⟨?h67, ?h68, (by assumption), ?h69⟩, fun v9 c9 hv9 hw9 hd9 => And.intro rfl ⟨⟨hv9, hw9⟩, fun tl htl => (@as_trip _ _ _ _ _ _ _ _ 11 _ _ _ _ sizsL (fun t => Nb 7 t.1 t.2.1 t.2.2 ∧ ∀ k, Kd k → ¬ lsD k (t.1 * 4 - 1 * t.2.2) (t.2.1 * 4 - 0 * t.2.2) < 0 ∧ ¬ lsD k (6 * t.2.2 - t.1 * 1) (0 * t.2.2 - t.2.1 * 1) < 0) _ _ _ _ _ rfl rfl rfl sizs_ok (by decide) (fun _ _ => rfl) ?h70 (by rfl) (by exact .inl rfl) (by rfl) (by exact .inl rfl) (c_callD c__law_dip (hr.mono (by decide)) (ca_cons (nm 0 rfl (ca_cons (c_int (ca_nil (And.intro rfl ⟨_, _, rfl, ⟨?h71, ?h72, (by assumption), ?h73⟩, fun v10 c10 hv10 hw10 hd10 => And.intro rfl ⟨⟨hv10, hw10⟩, fun ts hts => (as_ret hQ (c_tup (ca_cons (nm 1 rfl (ca_cons (nm 9 rfl (ca_cons (c_call c__law_plus (hr.mono (by decide)) (ca_cons (nm 9 rfl (ca_cons (nm 11 rfl (ca_nil ⟨_, _, _, _, _, _, 7, rfl, ?h74, fun px3 py3 pz3 pl3 pb3 => And.intro rfl (ca_nil (And.intro (And.intro rfl (Nat.le_of_ble_eq_true rfl)) (And.intro rfl ?h75)))⟩)))))))))))))⟩⟩))))))))⟩⟩))))))))
        case h66 =>
          exact sc__law_row.nd
        case h67 =>
          first | decide | omega
        case h68 =>
          first | assumption | exact Bd.of _ | exact (bd_le (n := 40) (by omega) (by omega)).mono (by decide)
        case h69 =>
          first | decide | omega
        case h70 =>
          exact sc__law_row.nd
        case h71 =>
          first | decide | omega
        case h72 =>
          first | assumption | exact Bd.of _ | exact (bd_le (n := 40) (by omega) (by omega)).mono (by decide)
        case h73 =>
          first | decide | omega
        case h74 =>
          first | exact ⟨nb1, nr_b, by decide⟩ | exact ⟨htl.2, hts.1, by decide⟩
        case h75 =>
          first
            | exact ⟨_, rfl, hG _ _ _ _ _ _ _ _ ⟨hk, hq1, hq2, fun M p q hM V1 V2 => ⟨q4 hk hM mb2.p ((V2.sub V1).lo ml2 (Int.mul_pos hq2.2.p hq1.2.p)) (of_decide_eq_false (by assumption)), q6 hk hM mb2.p ((V2.sub V1).lo ml2 (Int.mul_pos hq2.2.p hq1.2.p)) (of_decide_eq_false (by assumption))⟩⟩ (Dk.mono hcq (by show N + 4 + 8 * j + 4 * 2 ≤ _; omega))⟩
            | exact ⟨_, rfl, hG _ _ _ _ _ _ _ _ ⟨hk, htl.mono (by decide), ⟨lo_nm2 pl3 (Int.mul_pos htl.2.p hts.1.p), pb3.mono (by decide)⟩, fun M p q hM V1 V2 => ⟨q4 hk hM hts.1.p (vl_dif V1 V2 htl.2.p hts.1.p pb3.p pl3) (hts.2 k hk).1, q6 hk hM hts.1.p (vl_dif V1 V2 htl.2.p hts.1.p pb3.p pl3) (hts.2 k hk).2⟩⟩ (Dk.mono (by assumption) (by omega))⟩
      case h76 =>
        decide
    case h10 =>
      first | decide | omega
    case h11 =>
      first | assumption | exact Bd.of _ | exact (bd_le (n := 40) (by omega) (by omega)).mono (by decide)
    case h12 =>
      first | decide | omega
    case h13 =>
      first | decide | omega
    case h14 =>
      first | assumption | exact Bd.of _ | exact (bd_le (n := 40) (by omega) (by omega)).mono (by decide)
    case h15 =>
      first | decide | omega
    case h16 =>
      first | exact hn0 | omega
    case h17 =>
      exact Dk.mono (by assumption) (by omega)
    case h18 =>
      first | exact hn0 | omega
    case h19 =>
      exact Dk.mono (by assumption) (by omega)

end
end Y37

set_option Elab.async false
set_option linter.all false
set_option maxRecDepth 100000
set_option maxHeartbeats 8000000
namespace Y37
open PySem PySem.Spec PyProof.Rows L2 Evl Wz
open Y02 (Kd Nm psD sgP flQ flA flN rtF g3 sg sq_nn lsD)
open Y75 (Z2 mul mate add sub B2 LO mul_b mate_b B2.mono)
local macro_rules | `(tactic| walk_at "bd") => `(tactic| (repeat (first | assumption | apply Bd.mul | apply Bd.add | apply Bd.sub | apply Bd.neg | exact Bd.z | exact Bd.of _)))
local macro_rules | `(tactic| walk_at "bm") => `(tactic| (first | assumption | exact Bd.mono (by walk_at "bd") (by decide)))
local macro_rules | `(tactic| walk_at "b2") => `(tactic| (repeat (first | assumption | apply And.intro | walk_at "bm" | decide | omega)))
theorem nors (R : List Z2) : noR.noRs (R.map (fun z => pD z)) = true := by
  induction R with
  | nil => rfl
  | cons z R ih =>
    rw [List.map_cons, noR.noRs, ih]
    rfl
theorem lay_all (R : List Z2) : PyData.canLayAll0 (pd.pds (R.map (fun z => pD z))) = true := by
  induction R with
  | nil => simp [pd.pds, PyData.canLayAll0]
  | cons z R ih => simp [pd.pds, PyData.canLayAll0, PyData.canLay0, pd, ih]
theorem dep_all (R : List Z2) : PyData.depthAll (pd.pds (R.map (fun z => pD z))) ≤ 10 := by
  induction R with
  | nil => simp [pd.pds, PyData.depthAll]
  | cons z R ih =>
    simp [pd.pds, PyData.depthAll, PyData.depth, pd]
    omega
theorem nilOk (R : List Z2) : eqOk (.lst (R.map (fun z => pD z))) (.lst []) := by
  refine ⟨⟨nors R, rfl⟩, ?_, rfl⟩
  have h := dep_all R
  simp [SeqAt.shaped, pd, PyData.canLay0, PyData.depth, lay_all]
  omega
theorem ne_nil {R : List Z2} (h : (!PyData.eqv (pd (.lst (R.map (fun z => pD z)))) (pd (.lst []))) = true) : R ≠ [] := by
  intro e
  subst e
  simp [pd, pd.pds, PyData.eqv, PyData.eqvAll] at h
/-- [e1, e2, e3], whatever stands there -/
theorem c_lst3 {X : Cx} {o : Os} {ds : List (Option Dat)} {k : Cs} {R : Dat → Cs → Prop} {e e1 e2 e3 : Expr} {p : Pos} (he : e = .List [e1, e2, e3] p) (s1 : starEach [e1, e2, e3] X.env = (false, eval e1 X.env) :: starEach [e2, e3] X.env) (s2 : starEach [e2, e3] X.env = (false, eval e2 X.env) :: starEach [e3] X.env) (s3 : starEach [e3] X.env = (false, eval e3 X.env) :: starEach [] X.env)
    (h : EvC X o e1 ds k fun d1 k1 => EvC X o e2 ds k1 fun d2 k2 => EvC X o e3 ds k2 fun d3 k3 => [d1, d2, d3].all noC = true ∧ R (.lst [d1, d2, d3]) k3) : EvC X o e ds k R := by
  subst he
  exact c_ofN (n_disp (ca_cons (h.mono fun d1 k1 h => ca_cons (h.mono fun d2 k2 h => ca_cons (h.mono fun d3 k3 h => ca_nil ⟨⟨h.1, Nat.le_of_ble_eq_true rfl⟩, h.2⟩) s3) s2) s1))
theorem c_lst2 {X : Cx} {o : Os} {ds : List (Option Dat)} {k : Cs} {R : Dat → Cs → Prop} {e e1 e2 : Expr} {p : Pos} (he : e = .List [e1, e2] p) (s1 : starEach [e1, e2] X.env = (false, eval e1 X.env) :: starEach [e2] X.env) (s2 : starEach [e2] X.env = (false, eval e2 X.env) :: starEach [] X.env)
    (h : EvC X o e1 ds k fun d1 k1 => EvC X o e2 ds k1 fun d2 k2 => [d1, d2].all noC = true ∧ R (.lst [d1, d2]) k2) : EvC X o e ds k R := by
  subst he
  exact c_ofN (n_disp (ca_cons (h.mono fun d1 k1 h => ca_cons (h.mono fun d2 k2 h => ca_nil ⟨⟨h.1, Nat.le_of_ble_eq_true rfl⟩, h.2⟩) s2) s1))
/-- from nothing to 150 -/
def Z0 (k : Int) (t : T3) : Prop := ∀ (N : Int) (p : Z2), 0 < N → Vl N p t.1 t.2.1 t.2.2 → le k (0, 0) p ∧ le k p (sc N (150, 0))
theorem z0_int {k i : Int} (hk : Kd k) (h0 : 0 ≤ i) (h1 : i ≤ 150) : Z0 k (i, 0, 1) := fun N p hN V => by
  obtain ⟨v1, v2⟩ := V
  have e : p = sc N (i, 0) := Prod.ext (by show p.1 = i * N; have := v1; dsimp only at this; omega) (by show p.2 = 0 * N; have := v2; dsimp only at this; omega)
  rw [e]
  refine ⟨?_, (le_sc hk hN).mpr ((le_int hk).mpr h1)⟩
  have := (le_sc (k := k) hk hN).mpr ((le_int hk (i := 0) (j := i)).mpr h0)
  rw [sc_int N 0, Int.zero_mul] at this
  exact this
theorem z0_w {k d n x y z : Int} (hk : Kd k) (h0 : 0 ≤ d) (h1 : d ≤ 4) (hn : 0 < n) (l : LO 0 d n x y z) (hz : 0 < z) : Z0 k (x, y, z) := fun N p hN V => by
  have a : nge k 0 d n (0, 0) := by
    show le k (sc n (0, 0)) (0, d)
    rw [sc_int, Int.zero_mul]
    by_cases e : d = 0
    · subst e
      exact le_refl hk _
    · have hw : pos k (0, 1) := by rcases hk with rfl | rfl | rfl <;> (unfold pos; decide)
      have := (sc_pos (n := d) hk (by omega)).mpr hw
      exact lt_le hk (pos_eq this (Prod.ext (by show 0 * d = 0 - 0; omega) (by show 1 * d = d - 0; omega)))
  have b : nle k 0 d n (150, 0) := by
    show le k (0, d) (sc n (150, 0))
    rw [sc_int]
    refine (up_le hk ?_).1
    have : 150 * n ≥ 150 * 1 := by omega
    omega
  have a2 := (V.nge hk hN hz).mp ((lo_nge hk l hn).mpr a)
  have b2 := (V.nle hk hN hz).mp ((lo_nle hk l hn).mpr b)
  rw [sc_int, Int.zero_mul] at a2
  exact ⟨a2, b2⟩
/-- one denominator for all -/
theorem exPb {k a b n c e u x y v x2 y2 v2 : Int} (R : Ro k a b n c e u) (h1 : Nb 20 x y v) (h2 : Nb 20 x2 y2 v2) (hd : ∀ (N : Int) (p q : Z2), 0 < N → Vl N p x y v → Vl N q x2 y2 v2 → le k (0, 0) (sub q p) ∧ le k (sub q p) (sc N (150, 0))) : ∃ N p q l h, Pb k N p q l h a b n c e u x y v x2 y2 v2 := by
  have p1 := R.l.2.p
  have p2 := R.h.2.p
  have p3 := h1.p
  have p4 := h2.p
  have hN : 0 < n * u * (v * v2) := Int.mul_pos (Int.mul_pos p1 p2) (Int.mul_pos p3 p4)
  have w1 : Vl (n * u * (v * v2)) (sc (u * (v * v2)) (a, b)) a b n := ⟨by show a * (u * (v * v2)) * n = a * (n * u * (v * v2)); grind, by show b * (u * (v * v2)) * n = b * (n * u * (v * v2)); grind⟩
  have w2 : Vl (n * u * (v * v2)) (sc (n * (v * v2)) (c, e)) c e u := ⟨by show c * (n * (v * v2)) * u = c * (n * u * (v * v2)); grind, by show e * (n * (v * v2)) * u = e * (n * u * (v * v2)); grind⟩
  have w3 : Vl (n * u * (v * v2)) (sc (n * u * v2) (x, y)) x y v := ⟨by show x * (n * u * v2) * v = x * (n * u * (v * v2)); grind, by show y * (n * u * v2) * v = y * (n * u * (v * v2)); grind⟩
  have w4 : Vl (n * u * (v * v2)) (sc (n * u * v) (x2, y2)) x2 y2 v2 := ⟨by show x2 * (n * u * v) * v2 = x2 * (n * u * (v * v2)); grind, by show y2 * (n * u * v) * v2 = y2 * (n * u * (v * v2)); grind⟩
  obtain ⟨z4, z6⟩ := R.z _ _ _ hN w1 w2
  obtain ⟨o1, o2⟩ := hd _ _ _ hN w3 w4
  refine ⟨_, _, _, _, _, R.kd, hN, R.l.2.mono (by decide), R.h.2.mono (by decide), h1.mono (by decide), h2.mono (by decide), w1, w2, w3, w4, z4, z6, ?_, o2⟩
  have g := (le_add (k := k) (sc (n * u * v2) (x, y))).mpr o1
  rw [show add (0, 0) (sc (n * u * v2) (x, y)) = sc (n * u * v2) (x, y) from Prod.ext (Int.zero_add _) (Int.zero_add _), show add (sub (sc (n * u * v) (x2, y2)) (sc (n * u * v2) (x, y))) (sc (n * u * v2) (x, y)) = sc (n * u * v) (x2, y2) from Prod.ext (Int.sub_add_cancel ..) (Int.sub_add_cancel ..)] at g
  exact g
section
variable {k N : Int} {p q l h : Z2} {a b n c e u x y v x2 y2 v2 : Int}
/-- members are small -/
theorem Pb.b24 (W : Pb k N p q l h a b n c e u x y v x2 y2 v2) (r1 : Nb 15 a b n) (r2 : Nb 15 c e u) (h1 : Nb 20 x y v) (h2 : Nb 20 x2 y2 v2) {z : Z2} (m : Mb k N p q l h z) : B2 24 z := by
  have f : (2 : Int) ^ (20 + 2) = 4194304 := rfl
  have g1 := up_v W.kd W.h0 h1.p h1.a h1.b W.w3
  have g2 := up_v W.kd W.h0 h2.p h2.a h2.b W.w4
  have r1' := r1.mono (show 15 ≤ 20 by decide)
  have r2' := r2.mono (show 15 ≤ 20 by decide)
  have g3 := up_v W.kd W.h0 r1'.p r1'.a r1'.b W.w1
  have g4 := up_v W.kd W.h0 r2'.p r2'.a r2'.b W.w2
  rw [f] at g1 g2 g3 g4
  obtain ⟨m1, m2, m3, m4⟩ := m
  have g := part_b W.kd (m := 4194304) (z := z) (by decide) ((le_sc W.kd W.h0).mp (le_trans W.kd m2 g2.1)) ((le_sc W.kd W.h0).mp (le_trans W.kd g1.2 m1)) ((le_sc W.kd W.h0).mp (le_trans W.kd (lt_le W.kd m4) g4.1)) ((le_sc W.kd W.h0).mp (le_trans W.kd g3.2 m3))
  constructor
  · show z.1.natAbs < 2 ^ 24
    omega
  · show z.2.natAbs < 2 ^ 24
    omega
theorem z_nb {z : Z2} (h : B2 24 z) : Nb 24 z.1 z.2 1 := ⟨by decide, h.1, h.2, by show Int.natAbs 1 < 2 ^ 24; decide⟩
/-- left moves to a member -/
theorem Pb.left (W : Pb k N p q l h a b n c e u x y v x2 y2 v2) {z : Z2} (m : Mb k N p q l h z) (hb : B2 24 z) : Pb k N (sc N z) q l h a b n c e u z.1 z.2 1 x2 y2 v2 :=
  ⟨W.kd, W.h0, W.s1, W.s2, z_nb hb, W.s4, W.w1, W.w2, Vl.int z, W.w4, W.z4, W.z6, m.2.1, le_trans W.kd (le_sub2 W.kd (le_refl W.kd q) m.1) W.d⟩
theorem Pb.right (W : Pb k N p q l h a b n c e u x y v x2 y2 v2) {z : Z2} (m1 : le k p (sc N z)) (m2 : le k (sc N z) q) (hb : B2 24 z) : Pb k N p (sc N z) l h a b n c e u x y v z.1 z.2 1 :=
  ⟨W.kd, W.h0, W.s1, W.s2, W.s3, z_nb hb, W.w1, W.w2, W.w3, Vl.int z, W.z4, W.z6, m1, le_trans W.kd (le_sub2 W.kd m2 (le_refl W.kd p)) W.d⟩
end
theorem last_le {k : Int} (hk : Kd k) {R : List Z2} {z y : Z2} {i : Nat} (hp : R.Pairwise (lt k)) (hi : R[i]? = some z) (hl : R[R.length - 1]? = some y) : le k z y := by
  obtain ⟨h1, e1⟩ := List.getElem?_eq_some_iff.mp hi
  obtain ⟨h2, e2⟩ := List.getElem?_eq_some_iff.mp hl
  subst e1 e2
  by_cases e : i = R.length - 1
  · subst e
    exact le_refl hk _
  · exact lt_le hk (List.pairwise_iff_getElem.mp hp i (R.length - 1) h1 h2 (by omega))
theorem len_pos {R : List Z2} (h : R ≠ []) : 0 < (((R.map (fun z => pD z)).length : Nat) : Int) := by
  have := List.length_pos_iff.mpr h
  rw [List.length_map]
  omega
theorem last_at {R : List Z2} (h : R ≠ []) : R[R.length - 1]? = some (R.getD (R.length - 1) (0, 0)) ∧ (R.map (fun z => pD z))[(R.map (fun z => pD z)).length - 1]? = some (pD (R.getD (R.length - 1) (0, 0))) := by
  have hl := List.length_pos_iff.mpr h
  have e : R[R.length - 1]? = some (R.getD (R.length - 1) (0, 0)) := by rw [List.getD_eq_getElem?_getD, List.getElem?_eq_getElem (by omega)]; rfl
  exact ⟨e, by rw [List.length_map, List.getElem?_map, e]; rfl⟩
theorem left_nb {v1 v2 v3 n : Int} (hn : 1 ≤ n ∧ n ≤ 12) (h1 : 0 ≤ v1) (h2 : v1 < 41) (h3 : 0 ≤ v2) (h4 : v2 < n) (h5 : 0 ≤ v3) (h6 : v3 < 5) : Nb 9 ((v1 - 20) * n + v2) (v3 - 2) n := by
  have a1 : (v1 - 20) * n ≤ 20 * n := Int.mul_le_mul_of_nonneg_right (by omega) (by omega)
  have a2 : -20 * n ≤ (v1 - 20) * n := Int.mul_le_mul_of_nonneg_right (by omega) (by omega)
  exact ⟨by omega, by show Int.natAbs _ < 2 ^ 9; omega, by show Int.natAbs _ < 2 ^ 9; omega, by show Int.natAbs _ < 2 ^ 9; omega⟩
theorem nb9 {a b n : Int} (h0 : 0 < n) (h1 : a.natAbs < 512) (h2 : b.natAbs < 512) (h3 : n.natAbs < 512) : Nb 9 a b n := ⟨h0, h1, h2, h3⟩
set_option exponentiation.threshold 1000000
section
variable {P : Program} {w : World} {K : PySem.W.Frag} {mg : Str → Option Value} {base : Heap}

/-! ### _law_stretch -/
abbrev s__law_stretch : Stmt := topS 64
theorem sc__law_stretch : FnScope ["well", "row", "n", "left", "sizes", "right", "wide", "some", "z"] ["well", "row"] (defScope s__law_stretch) := ⟨rfl, rfl, rfl, by decide +kernel, rfl, by decide +kernel, by decide +kernel⟩
def F__law_stretch : FD := fun ds c Q => ∃ (k a b n cc e u : Int) (N : Nat), ds = [rwD k a b n cc e u] ∧ (Ro k a b n cc e u ∧ Dk N c ∧ N ≤ 900000) ∧ ∀ x y v x2 y2 v2 M p q l h c', Pb k M p q l h a b n cc e u x y v x2 y2 v2 → Nm x y v → Nm x2 y2 v2 → Dk (N + 20) c' → Q (n2D x y v x2 y2 v2) c'
theorem ok__law_stretch {f : Addr} {fd : FuncData} (Fn : Fun K "_law_stretch" "_law_stretch" s__law_stretch f fd) (c__law_dip : Cl P w K mg base 1 "_law_dip" ["well", "many"] (spD K F__law_dip)) (c__law_form : Cl P w K mg base 1 "_law_form" ["a", "b", "n"] (spP K F__law_form)) (c__law_plus : Cl P w K mg base 2 "_law_plus" ["p", "q"] (spP K F__law_plus)) (c__law_under : Cl P w K mg base 4 "_law_under" ["kind", "p", "q"] (spP K F__law_under)) (c__law_minus : Cl P w K mg base 3 "_law_minus" ["p", "q"] (spP K F__law_minus)) (c__law_members : Cl P w K mg base 5 "_law_members" ["row", "left", "right"] (spN K F__law_members)) (m_len : mg "len" = none) : FnOk P w K mg base CX0 6 f fd ["well", "row"] (spD K F__law_stretch) := by
  refine fn_D Fn sc__law_stretch (fun ds c G h => ?_) (fun cdv A outer s H Q E pa ds c G hr hF hQ => ?_)
  · obtain ⟨k, a, b, n, cc, e, u, N, rfl, ⟨ro, hdk, hN⟩, hG⟩ := h
    rfl
  · obtain ⟨k, a, b, n, cc, e, u, N, rfl, ⟨ro, hdk, hN⟩, hG⟩ := hF
    have hk := ro.kd
    refine (as_asg (i := 2) ?h1 (c_ixL (c_ofN (n_disp (ca_cons (c_int (ca_cons (c_int (ca_cons (c_int (ca_cons (c_int (ca_cons (c_add (c_int (c_callD c__law_dip (hr.mono (by decide)) (ca_cons (nm 0 rfl (ca_cons (c_int (ca_nil (And.intro rfl ⟨_, _, rfl, ⟨?h2, ?h3, (by assumption), ?h4⟩, fun v1 c1 hv1 hw1 hd1 => And.intro rfl (ca_nil (And.intro (And.intro rfl (Nat.le_of_ble_eq_true rfl)) (c_callD c__law_dip (hr.mono (by decide)) (ca_cons (nm 0 rfl (ca_cons (c_int (ca_nil (And.intro rfl ⟨_, _, rfl, ⟨?h5, ?h6, (by assumption), ?h7⟩, fun v2 c2 hv2 hw2 hd2 => And.intro rfl (at_list (f := Dat.int) (ns := [1, 1, 2, 7, 1 + v1]) (P := fun i => 1 ≤ i ∧ i ≤ 12) hv2 hw2 ?h8 (fun n1 hn1 => (as_asg (i := 3) ?h9 (c_call c__law_form (hr.mono (by decide)) (ca_cons (c_add (c_mul (c_sub (c_callD c__law_dip (hr.mono (by decide)) (ca_cons (nm 0 rfl (ca_cons (c_int (ca_nil (And.intro rfl ⟨_, _, rfl, ⟨?h10, ?h11, (by assumption), ?h12⟩, fun v3 c3 hv3 hw3 hd3 => And.intro rfl (c_int (nm 2 rfl (And.intro ?h13 (c_callD c__law_dip (hr.mono (by decide)) (ca_cons (nm 0 rfl (ca_cons (nm 2 rfl (ca_nil (And.intro rfl ⟨_, _, rfl, ⟨?h14, ?h15, (by assumption), ?h16⟩, fun v4 c4 hv4 hw4 hd4 => And.intro rfl (ca_cons (c_sub (c_callD c__law_dip (hr.mono (by decide)) (ca_cons (nm 0 rfl (ca_cons (c_int (ca_nil (And.intro rfl ⟨_, _, rfl, ⟨?h17, ?h18, (by assumption), ?h19⟩, fun v5 c5 hv5 hw5 hd5 => And.intro rfl (c_int (ca_cons (nm 2 rfl (ca_nil ⟨_, _, _, 9, rfl, ?h20, fun x1 y1 z1 lo1 nb1 => And.intro rfl (as_ifJ (fun es q => ∃ (lx ly lz : Int) (cq : List Dat), es = [some (.cel 0), some (rwD k a b n cc e u), some (.int n1), some (nD lx ly lz), none, none, none, none, none] ∧ q = [cq] ∧ Nu 9 lx ly lz ∧ Dk (N + 8) cq) (t_eqI (c_callD c__law_dip (hr.mono (by decide)) (ca_cons (nm 0 rfl (ca_cons (c_int (ca_nil (And.intro rfl ⟨_, _, rfl, ⟨?h22, ?h23, (by assumption), ?h24⟩, fun v6 c6 hv6 hw6 hd6 => And.intro rfl (c_int (And.intro (fun b1 => (as_asg (i := 3) ?h25 (c_tup (ca_cons (c_sub (c_callD c__law_dip (hr.mono (by decide)) (ca_cons (nm 0 rfl (ca_cons (c_int (ca_nil (And.intro rfl ⟨_, _, rfl, ⟨?h26, ?h27, (by assumption), ?h28⟩, fun v7 c7 hv7 hw7 hd7 => And.intro rfl (c_int (ca_cons (c_sub (c_callD c__law_dip (hr.mono (by decide)) (ca_cons (nm 0 rfl (ca_cons (c_int (ca_nil (And.intro rfl ⟨_, _, rfl, ⟨?h29, ?h30, (by assumption), ?h31⟩, fun v8 c8 hv8 hw8 hd8 => And.intro rfl (c_int (ca_cons (c_int (ca_nil (And.intro (And.intro rfl (Nat.le_of_ble_eq_true rfl)) (as_end rfl ?h32))))))⟩))))))))))⟩)))))))))))) (fun b1 => (as_end rfl ?h33))))⟩)))))))) ?h21)⟩))))⟩)))))))))⟩))))))))))⟩)))))))))))))))⟩)))))))))⟩))))))))))))))))))))))
    case h1 =>
      exact sc__law_stretch.nd
    case h2 =>
      first | decide | omega | exact len_pos (ne_nil (by assumption))
    case h3 =>
      first | assumption | exact Bd.of _ | exact (bd_le (n := 40) (by omega) (by omega)).mono (by decide) | exact (bd_le (n := 40) (by omega) (by rw [List.length_map]; omega)).mono (by decide)
    case h4 =>
      first | decide | omega
    case h5 =>
      first | decide | omega | exact len_pos (ne_nil (by assumption))
    case h6 =>
      first | assumption | exact Bd.of _ | exact (bd_le (n := 40) (by omega) (by omega)).mono (by decide) | exact (bd_le (n := 40) (by omega) (by rw [List.length_map]; omega)).mono (by decide)
    case h7 =>
      first | decide | omega
    case h8 =>
      intro i hi
      simp only [List.mem_cons, List.not_mem_nil, or_false] at hi
      omega
    case h9 =>
      exact sc__law_stretch.nd
    case h10 =>
      first | decide | omega | exact len_pos (ne_nil (by assumption))
    case h11 =>
      first | assumption | exact Bd.of _ | exact (bd_le (n := 40) (by omega) (by omega)).mono (by decide) | exact (bd_le (n := 40) (by omega) (by rw [List.length_map]; omega)).mono (by decide)
    case h12 =>
      first | decide | omega
    case h13 =>
      exact cm (n := 9) (m := 9) (by show Int.natAbs _ < 2 ^ 9; omega) (by show Int.natAbs _ < 2 ^ 9; omega) (by decide)
    case h14 =>
      first | decide | omega | exact len_pos (ne_nil (by assumption))
    case h15 =>
      first | assumption | exact Bd.of _ | exact (bd_le (n := 40) (by omega) (by omega)).mono (by decide) | exact (bd_le (n := 40) (by omega) (by rw [List.length_map]; omega)).mono (by decide)
    case h16 =>
      first | decide | omega
    case h17 =>
      first | decide | omega | exact len_pos (ne_nil (by assumption))
    case h18 =>
      first | assumption | exact Bd.of _ | exact (bd_le (n := 40) (by omega) (by omega)).mono (by decide) | exact (bd_le (n := 40) (by omega) (by rw [List.length_map]; omega)).mono (by decide)
    case h19 =>
      first | decide | omega
    case h20 =>
      first
        | exact ⟨left_nb hn1 (by assumption) (by assumption) (by assumption) (by assumption) (by assumption) (by assumption), by decide⟩
        | exact ⟨nb9 (by omega) (by decide) (by omega) (by omega), by decide⟩
    case h21 =>
      intro es q hj
      obtain ⟨lx, ly, lz, cq, rfl, rfl, hlu, hcq⟩ := hj
      refine (as_asg (i := 4) ?h34 (c_join (J := (fun d0 k0 => ∃ (ts : List T3) (cq : List Dat), d0 = .lst (ts.map fun t => n3 t) ∧ k0 = [cq] ∧ ts.length = 3 ∧ (∀ t ∈ ts, Nb 9 t.1 t.2.1 t.2.2 ∧ Z0 k t) ∧ Dk (N + 10) cq)) (@c_lst3 _ _ _ _ _ _ _ _ _ _ rfl (by rfl) (by rfl) (by rfl) (c_tup (ca_cons (c_int (ca_cons (c_int (ca_cons (c_int (ca_nil (And.intro (And.intro rfl (Nat.le_of_ble_eq_true rfl)) (c_tup (ca_cons (c_add (c_int (c_callD c__law_dip (hr.mono (by decide)) (ca_cons (nm 0 rfl (ca_cons (c_int (ca_nil (And.intro rfl ⟨_, _, rfl, ⟨?h36, ?h37, (by assumption), ?h38⟩, fun v9 c9 hv9 hw9 hd9 => And.intro rfl (ca_cons (c_int (ca_cons (c_int (ca_nil (And.intro (And.intro rfl (Nat.le_of_ble_eq_true rfl)) (c_tup (ca_cons (c_callD c__law_dip (hr.mono (by decide)) (ca_cons (nm 0 rfl (ca_cons (c_int (ca_nil (And.intro rfl ⟨_, _, rfl, ⟨?h39, ?h40, (by assumption), ?h41⟩, fun v10 c10 hv10 hw10 hd10 => And.intro rfl (ca_cons (c_int (ca_cons (c_int (ca_nil (And.intro (And.intro rfl (Nat.le_of_ble_eq_true rfl)) ⟨rfl, ⟨[(12, 0, 1), (_, 0, 1), (_, 0, 1)], _, rfl, rfl, rfl, ?h42, ?h43⟩⟩))))))⟩)))))))))))))))⟩))))))))))))))))))))) ?h35))
      case h34 =>
        exact sc__law_stretch.nd
      case h35 =>
        intro d0 k0 hj
        obtain ⟨ts0, cq, rfl, rfl, hts3, hts0, hcq⟩ := hj
        refine (as_asg (i := 4) ?h44 (c_join (J := (fun d0 k0 => ∃ (ts : List T3) (cq : List Dat), d0 = .lst (ts.map fun t => n3 t) ∧ k0 = [cq] ∧ ts.length = 5 ∧ (∀ t ∈ ts, Nb 9 t.1 t.2.1 t.2.2 ∧ Z0 k t) ∧ Dk (N + 11) cq)) (c_ofN (n_cat (nm 4 rfl (@c_lst2 _ _ _ _ _ _ _ _ _ rfl (by rfl) (by rfl) (c_call c__law_form (hr.mono (by decide)) (ca_cons (c_int (ca_cons (c_callD c__law_dip (hr.mono (by decide)) (ca_cons (nm 0 rfl (ca_cons (c_int (ca_nil (And.intro rfl ⟨_, _, rfl, ⟨?h46, ?h47, (by assumption), ?h48⟩, fun v11 c11 hv11 hw11 hd11 => And.intro rfl (ca_cons (nm 2 rfl (ca_nil ⟨_, _, _, 9, rfl, ?h49, fun x2 y2 z2 lo2 nb2 => And.intro rfl (c_tup (ca_cons (c_int (ca_cons (c_int (ca_cons (c_int (ca_nil (And.intro (And.intro rfl (Nat.le_of_ble_eq_true rfl)) ⟨rfl, (And.intro ?h50 ⟨ts0 ++ [(x2, y2, z2), (0, 0, 1)], _, ?h51, rfl, ?h52, ?h53, ?h54⟩)⟩)))))))))⟩)))⟩))))))))))))))) ?h45))
        case h44 =>
          exact sc__law_stretch.nd
        case h45 =>
          intro d0 k0 hj
          obtain ⟨ts, cq, rfl, rfl, hts5, hts, hcq⟩ := hj
          refine (as_asg (i := 5) ?h55 (c_call c__law_plus (hr.mono (by decide)) (ca_cons (nm 3 rfl (ca_cons (c_ixL (nm 4 rfl (c_callD c__law_dip (hr.mono (by decide)) (ca_cons (nm 0 rfl (ca_cons (c_int (ca_nil (And.intro rfl ⟨_, _, rfl, ⟨?h56, ?h57, (by assumption), ?h58⟩, fun v12 c12 hv12 hw12 hd12 => And.intro rfl (at_list (f := fun t => n3 t) (ns := ts) (P := fun t => Nb 9 t.1 t.2.1 t.2.2 ∧ Z0 k t) hv12 (by rw [hts5]; exact hw12) hts (fun tz htz => (ca_nil ⟨_, _, _, _, _, _, 9, rfl, ?h59, fun px1 py1 pz1 pl1 pb1 => And.intro rfl (as_ifJ (fun es q => ∃ (o4 o6 o7 o8 : Option Dat) (rx ry rz : Int) (cq : List Dat), es = [some (.cel 0), some (rwD k a b n cc e u), some (.int n1), some (nD lx ly lz), o4, some (nD rx ry rz), o6, o7, o8] ∧ q = [cq] ∧ Nu 20 rx ry rz ∧ (∀ (N : Int) (p q : Z2), 0 < N → Vl N p lx ly lz → Vl N q rx ry rz → le k (0, 0) (sub q p) ∧ le k (sub q p) (sc N (150, 0))) ∧ Dk (N + 13) cq) (t_w (w_and (t_eqI (c_callD c__law_dip (hr.mono (by decide)) (ca_cons (nm 0 rfl (ca_cons (c_int (ca_nil (And.intro rfl ⟨_, _, rfl, ⟨?h61, ?h62, (by assumption), ?h63⟩, fun v13 c13 hv13 hw13 hd13 => And.intro rfl (c_int (And.intro (fun b2 => (w_and1 (t_eqI (c_ixTn (nm 3 rfl (c_int (And.intro (by decide) (c_int (And.intro (fun b3 => (as_asg (i := 6) ?h64 (c_if (t_valB (c_call c__law_under (hr.mono (by decide)) (ca_cons (c_ixTn (nm 1 rfl (c_int (And.intro (by decide) (ca_cons (c_tup (ca_cons (c_int (ca_cons (c_int (ca_cons (c_int (ca_nil (And.intro (And.intro rfl (Nat.le_of_ble_eq_true rfl)) (ca_cons (c_call c__law_minus (hr.mono (by decide)) (ca_cons (c_ixTn (nm 1 rfl (c_int (And.intro (by decide) (ca_cons (c_ixTn (nm 1 rfl (c_int (And.intro (by decide) (ca_nil ⟨_, _, _, _, _, _, 15, rfl, ?h65, fun mx2 my2 mz2 ml2 mb2 => And.intro rfl (ca_nil ⟨_, _, _, _, _, _, _, rfl, ?h66, And.intro rfl (And.intro (fun b4 => (c_int (as_asg (i := 5) ?h67 (c_call c__law_plus (hr.mono (by decide)) (ca_cons (nm 3 rfl (ca_cons (c_tup (ca_cons (nm 6 rfl (ca_cons (c_int (ca_cons (c_int (ca_nil (And.intro (And.intro rfl (Nat.le_of_ble_eq_true rfl)) (ca_nil ⟨_, _, _, _, _, _, 9, rfl, ?h68, fun px3 py3 pz3 pl3 pb3 => And.intro rfl (as_end rfl ?h69)⟩))))))))))))))))) (fun b4 => (c_int (as_asg (i := 5) ?h70 (c_call c__law_plus (hr.mono (by decide)) (ca_cons (nm 3 rfl (ca_cons (c_tup (ca_cons (nm 6 rfl (ca_cons (c_int (ca_cons (c_int (ca_nil (And.intro (And.intro rfl (Nat.le_of_ble_eq_true rfl)) (ca_nil ⟨_, _, _, _, _, _, 9, rfl, ?h71, fun px4 py4 pz4 pl4 pb4 => And.intro rfl (as_end rfl ?h72)⟩))))))))))))))))))⟩)⟩))))))))))))))))))))))))))))))))) (fun b3 => (as_end rfl ?h73))))))))))) (fun b2 => (as_end rfl ?h74))))⟩)))))))))) ?h60)⟩)))⟩))))))))))))))
          case h55 =>
            exact sc__law_stretch.nd
          case h56 =>
            first | decide | omega | exact len_pos (ne_nil (by assumption))
          case h57 =>
            first | assumption | exact Bd.of _ | exact (bd_le (n := 40) (by omega) (by omega)).mono (by decide) | exact (bd_le (n := 40) (by omega) (by rw [List.length_map]; omega)).mono (by decide)
          case h58 =>
            first | decide | omega
          case h59 =>
            first
              | exact ⟨hlu.2, htz.1, by decide⟩
              | exact ⟨hlu.2, nb9 (by decide) (by decide) (by decide) (by decide), by decide⟩
          case h60 =>
            intro es q hj
            obtain ⟨o4, o6, o7, o8, rx, ry, rz, cq, rfl, rfl, hru, hdd, hcq⟩ := hj
            obtain ⟨M, p, qq, l, h, W⟩ := exPb ro (hlu.2.mono (by decide)) hru.2 hdd
            have hM := W.h0
            have hbz := fun z => W.b24 (z := z) ro.l.2 ro.h.2 (hlu.2.mono (by decide)) hru.2
            refine (as_asg (i := 7) ?h75 (c_ofN (n_call c__law_members (hr.mono (by decide)) (ca_cons (nm 1 rfl (ca_cons (nm 3 rfl (ca_cons (nm 5 rfl (ca_nil ⟨k, M, p, qq, l, h, _, _, _, _, _, _, _, _, _, _, _, _, rfl, W, fun R hpw hmem hlen => And.intro (map_nl R) (as_ifJ (fun es q => ∃ (o4 o6 o8 : Option Dat) (mx my mz : Int) (p2 : Z2) (cq : List Dat), es = [some (.cel 0), some (rwD k a b n cc e u), some (.int n1), some (nD mx my mz), o4, some (nD rx ry rz), o6, some (.lst (R.map (fun z => pD z))), o8] ∧ q = [cq] ∧ Nm mx my mz ∧ Pb k M p2 qq l h a b n cc e u mx my mz rx ry rz ∧ (∀ y, R[R.length - 1]? = some y → le k p2 (sc M y)) ∧ Dk (N + 15) cq) (t_w (w_and (t_neDB hr.units (nm 7 rfl (c_ofN (n_disp (ca_nil (And.intro (And.intro rfl (Nat.le_of_ble_eq_true rfl)) (And.intro ?h77 (And.intro (fun b5 => (w_and1 (t_eqI (c_callD c__law_dip (hr.mono (by decide)) (ca_cons (nm 0 rfl (ca_cons (c_int (ca_nil (And.intro rfl ⟨_, _, rfl, ⟨?h78, ?h79, (by assumption), ?h80⟩, fun v14 c14 hv14 hw14 hd14 => And.intro rfl (c_int (And.intro (fun b6 => (as_asg (i := 8) ?h81 (c_ixL (nm 7 rfl (c_callD c__law_dip (hr.mono (by decide)) (ca_cons (nm 0 rfl (ca_cons (c_lenL m_len (ca_cons (nm 7 rfl (ca_nil (ca_nil (And.intro rfl ⟨_, _, rfl, ⟨?h82, ?h83, (by assumption), ?h84⟩, fun v15 c15 hv15 hw15 hd15 => And.intro rfl (at_list (f := fun z => pD z) (ns := R) (P := fun z => ∃ i, R[i]? = some z) hv15 (by have hx := hw15; rw [List.length_map] at hx; exact hx) (fun z hz => List.getElem?_of_mem hz) (fun z hzi => (as_asg (i := 3) ?h85 (c_tup (ca_cons (c_ixTn (nm 8 rfl (c_int (And.intro (by decide) (ca_cons (c_ixTn (nm 8 rfl (c_int (And.intro (by decide) (ca_cons (c_int (ca_nil (And.intro (And.intro rfl (Nat.le_of_ble_eq_true rfl)) (as_end rfl ?h86)))))))))))))))))))⟩)))))))))))))) (fun b6 => (as_end rfl ?h87))))⟩)))))))))) (fun b5 => (as_end rfl ?h88)))))))))))) ?h76)⟩))))))))))
            case h75 =>
              exact sc__law_stretch.nd
            case h76 =>
              intro es q hj
              obtain ⟨o4, o6, o8, mx, my, mz, p2, cq, rfl, rfl, hmn, W2, hlast, hcq⟩ := hj
              refine (as_ifJ (fun es q => ∃ (o4 o6 o8 : Option Dat) (sx sy sz : Int) (q2 : Z2) (cq : List Dat), es = [some (.cel 0), some (rwD k a b n cc e u), some (.int n1), some (nD mx my mz), o4, some (nD sx sy sz), o6, some (.lst (R.map (fun z => pD z))), o8] ∧ q = [cq] ∧ Nm sx sy sz ∧ Pb k M p2 q2 l h a b n cc e u mx my mz sx sy sz ∧ Dk (N + 16) cq) (t_w (w_and (t_neDB hr.units (nm 7 rfl (c_ofN (n_disp (ca_nil (And.intro (And.intro rfl (Nat.le_of_ble_eq_true rfl)) (And.intro ?h90 (And.intro (fun b7 => (w_and1 (t_eqI (c_callD c__law_dip (hr.mono (by decide)) (ca_cons (nm 0 rfl (ca_cons (c_int (ca_nil (And.intro rfl ⟨_, _, rfl, ⟨?h91, ?h92, (by assumption), ?h93⟩, fun v16 c16 hv16 hw16 hd16 => And.intro rfl (c_int (And.intro (fun b8 => (as_asg (i := 5) ?h94 (c_tup (ca_cons (c_ixTn (c_ixLast (nm 7 rfl ⟨pD (R.getD (R.length - 1) (0, 0)), ?h95, (c_int (And.intro (by decide) (ca_cons (c_ixTn (c_ixLast (nm 7 rfl ⟨pD (R.getD (R.length - 1) (0, 0)), ?h96, (c_int (And.intro (by decide) (ca_cons (c_int (ca_nil (And.intro (And.intro rfl (Nat.le_of_ble_eq_true rfl)) (as_end rfl ?h97)))))))⟩))))))⟩))))))) (fun b8 => (as_end rfl ?h98))))⟩)))))))))) (fun b7 => (as_end rfl ?h99)))))))))))) ?h89)
              case h89 =>
                intro es q hj
                obtain ⟨o4, o6, o8, sx, sy, sz, q2, cq, rfl, rfl, hsn, W3, hcq⟩ := hj
                refine (as_ret hQ (c_tup (ca_cons (nm 3 rfl (ca_cons (nm 5 rfl (ca_nil (And.intro (And.intro rfl (Nat.le_of_ble_eq_true rfl)) (And.intro rfl ?h100)))))))))
                case h100 =>
                  exact ⟨_, rfl, hG _ _ _ _ _ _ M p2 q2 l h _ W3 hmn hsn (Dk.mono hcq (by omega))⟩
              case h90 =>
                exact nilOk _
              case h91 =>
                first | decide | omega | exact len_pos (ne_nil (by assumption))
              case h92 =>
                first | assumption | exact Bd.of _ | exact (bd_le (n := 40) (by omega) (by omega)).mono (by decide) | exact (bd_le (n := 40) (by omega) (by rw [List.length_map]; omega)).mono (by decide)
              case h93 =>
                first | decide | omega
              case h94 =>
                exact sc__law_stretch.nd
              case h95 =>
                exact (last_at (ne_nil (by assumption))).2
              case h96 =>
                exact (last_at (ne_nil (by assumption))).2
              case h97 =>
                first
                  | (have hy := (last_at (ne_nil (R := R) (by assumption))).1
                     have my := (hmem _).mp (List.mem_of_getElem? hy)
                     exact ⟨_, _, _, _, _, _, sc M (R.getD (R.length - 1) (0, 0)), _, rfl, rfl, Y75.nm_n1, W2.right (hlast _ hy) my.2.1 (hbz _ my), Dk.mono (by assumption) (by omega)⟩)
                  | exact ⟨_, _, _, _, _, _, qq, _, rfl, rfl, hru.1, W2, Dk.mono (by assumption) (by omega)⟩
              case h98 =>
                first
                  | (have hy := (last_at (ne_nil (R := R) (by assumption))).1
                     have my := (hmem _).mp (List.mem_of_getElem? hy)
                     exact ⟨_, _, _, _, _, _, sc M (R.getD (R.length - 1) (0, 0)), _, rfl, rfl, Y75.nm_n1, W2.right (hlast _ hy) my.2.1 (hbz _ my), Dk.mono (by assumption) (by omega)⟩)
                  | exact ⟨_, _, _, _, _, _, qq, _, rfl, rfl, hru.1, W2, Dk.mono (by assumption) (by omega)⟩
              case h99 =>
                first
                  | (have hy := (last_at (ne_nil (R := R) (by assumption))).1
                     have my := (hmem _).mp (List.mem_of_getElem? hy)
                     exact ⟨_, _, _, _, _, _, sc M (R.getD (R.length - 1) (0, 0)), _, rfl, rfl, Y75.nm_n1, W2.right (hlast _ hy) my.2.1 (hbz _ my), Dk.mono (by assumption) (by omega)⟩)
                  | exact ⟨_, _, _, _, _, _, qq, _, rfl, rfl, hru.1, W2, Dk.mono (by assumption) (by omega)⟩
            case h77 =>
              exact nilOk _
            case h78 =>
              first | decide | omega | exact len_pos (ne_nil (by assumption))
            case h79 =>
              first | assumption | exact Bd.of _ | exact (bd_le (n := 40) (by omega) (by omega)).mono (by decide) | exact (bd_le (n := 40) (by omega) (by rw [List.length_map]; omega)).mono (by decide)
            case h80 =>
              first | decide | omega
            case h81 =>
              exact sc__law_stretch.nd
            case h82 =>
              first | decide | omega | exact len_pos (ne_nil (by assumption))
            case h83 =>
              first | assumption | exact Bd.of _ | exact (bd_le (n := 40) (by omega) (by omega)).mono (by decide) | exact (bd_le (n := 40) (by omega) (by rw [List.length_map]; omega)).mono (by decide)
            case h84 =>
              first | decide | omega
            case h85 =>
              exact sc__law_stretch.nd
            case h86 =>
              first
                | (obtain ⟨i, hi⟩ := hzi
                   have mz := (hmem z).mp (List.mem_of_getElem? hi)
                   exact ⟨_, _, _, _, _, _, sc M z, _, rfl, rfl, Y75.nm_n1, W.left mz (hbz z mz), fun y hy => (le_sc hk hM).mpr (last_le hk hpw hi hy), Dk.mono (by assumption) (by omega)⟩)
                | exact ⟨_, _, _, _, _, _, p, _, rfl, rfl, hlu.1, W, fun y hy => ((hmem y).mp (List.mem_of_getElem? hy)).1, Dk.mono (by assumption) (by omega)⟩
            case h87 =>
              first
                | (obtain ⟨i, hi⟩ := hzi
                   have mz := (hmem z).mp (List.mem_of_getElem? hi)
                   exact ⟨_, _, _, _, _, _, sc M z, _, rfl, rfl, Y75.nm_n1, W.left mz (hbz z mz), fun y hy => (le_sc hk hM).mpr (last_le hk hpw hi hy), Dk.mono (by assumption) (by omega)⟩)
                | exact ⟨_, _, _, _, _, _, p, _, rfl, rfl, hlu.1, W, fun y hy => ((hmem y).mp (List.mem_of_getElem? hy)).1, Dk.mono (by assumption) (by omega)⟩
            case h88 =>
              first
                | (obtain ⟨i, hi⟩ := hzi
                   have mz := (hmem z).mp (List.mem_of_getElem? hi)
                   exact ⟨_, _, _, _, _, _, sc M z, _, rfl, rfl, Y75.nm_n1, W.left mz (hbz z mz), fun y hy => (le_sc hk hM).mpr (last_le hk hpw hi hy), Dk.mono (by assumption) (by omega)⟩)
                | exact ⟨_, _, _, _, _, _, p, _, rfl, rfl, hlu.1, W, fun y hy => ((hmem y).mp (List.mem_of_getElem? hy)).1, Dk.mono (by assumption) (by omega)⟩
          case h61 =>
            first | decide | omega | exact len_pos (ne_nil (by assumption))
          case h62 =>
            first | assumption | exact Bd.of _ | exact (bd_le (n := 40) (by omega) (by omega)).mono (by decide) | exact (bd_le (n := 40) (by omega) (by rw [List.length_map]; omega)).mono (by decide)
          case h63 =>
            first | decide | omega
          case h64 =>
            exact sc__law_stretch.nd
          case h65 =>
            exact ⟨ro.h.2, ro.l.2, by decide⟩
          case h66 =>
            exact ⟨hk, cnb _ _ _ (by decide) (by decide) (by decide) (by decide), mb2.mono (by decide)⟩
          case h67 =>
            exact sc__law_stretch.nd
          case h68 =>
            first
              | exact ⟨hlu.2, htz.1, by decide⟩
              | exact ⟨hlu.2, nb9 (by decide) (by decide) (by decide) (by decide), by decide⟩
          case h69 =>
            first
              | exact ⟨_, _, _, _, _, _, _, _, rfl, rfl, ⟨lo_nm2 pl3 (Int.mul_pos hlu.2.p (by decide)), pb3.mono (by decide)⟩, fun N p q hN V1 V2 => z0_int hk (by decide) (by decide) N _ hN (vl_dif V1 V2 hlu.2.p (by decide) pb3.p pl3), Dk.mono (by assumption) (by omega)⟩
              | exact ⟨_, _, _, _, _, _, _, _, rfl, rfl, ⟨lo_nm2 pl4 (Int.mul_pos hlu.2.p (by decide)), pb4.mono (by decide)⟩, fun N p q hN V1 V2 => z0_int hk (by decide) (by decide) N _ hN (vl_dif V1 V2 hlu.2.p (by decide) pb4.p pl4), Dk.mono (by assumption) (by omega)⟩
              | exact ⟨_, _, _, _, _, _, _, _, rfl, rfl, ⟨lo_nm2 pl1 (Int.mul_pos hlu.2.p htz.1.p), pb1.mono (by decide)⟩, fun N p q hN V1 V2 => htz.2 N _ hN (vl_dif V1 V2 hlu.2.p htz.1.p pb1.p pl1), Dk.mono (by assumption) (by omega)⟩
          case h70 =>
            exact sc__law_stretch.nd
          case h71 =>
            first
              | exact ⟨hlu.2, htz.1, by decide⟩
              | exact ⟨hlu.2, nb9 (by decide) (by decide) (by decide) (by decide), by decide⟩
          case h72 =>
            first
              | exact ⟨_, _, _, _, _, _, _, _, rfl, rfl, ⟨lo_nm2 pl3 (Int.mul_pos hlu.2.p (by decide)), pb3.mono (by decide)⟩, fun N p q hN V1 V2 => z0_int hk (by decide) (by decide) N _ hN (vl_dif V1 V2 hlu.2.p (by decide) pb3.p pl3), Dk.mono (by assumption) (by omega)⟩
              | exact ⟨_, _, _, _, _, _, _, _, rfl, rfl, ⟨lo_nm2 pl4 (Int.mul_pos hlu.2.p (by decide)), pb4.mono (by decide)⟩, fun N p q hN V1 V2 => z0_int hk (by decide) (by decide) N _ hN (vl_dif V1 V2 hlu.2.p (by decide) pb4.p pl4), Dk.mono (by assumption) (by omega)⟩
              | exact ⟨_, _, _, _, _, _, _, _, rfl, rfl, ⟨lo_nm2 pl1 (Int.mul_pos hlu.2.p htz.1.p), pb1.mono (by decide)⟩, fun N p q hN V1 V2 => htz.2 N _ hN (vl_dif V1 V2 hlu.2.p htz.1.p pb1.p pl1), Dk.mono (by assumption) (by omega)⟩
          case h73 =>
            first
              | exact ⟨_, _, _, _, _, _, _, _, rfl, rfl, ⟨lo_nm2 pl3 (Int.mul_pos hlu.2.p (by decide)), pb3.mono (by decide)⟩, fun N p q hN V1 V2 => z0_int hk (by decide) (by decide) N _ hN (vl_dif V1 V2 hlu.2.p (by decide) pb3.p pl3), Dk.mono (by assumption) (by omega)⟩
              | exact ⟨_, _, _, _, _, _, _, _, rfl, rfl, ⟨lo_nm2 pl4 (Int.mul_pos hlu.2.p (by decide)), pb4.mono (by decide)⟩, fun N p q hN V1 V2 => z0_int hk (by decide) (by decide) N _ hN (vl_dif V1 V2 hlu.2.p (by decide) pb4.p pl4), Dk.mono (by assumption) (by omega)⟩
              | exact ⟨_, _, _, _, _, _, _, _, rfl, rfl, ⟨lo_nm2 pl1 (Int.mul_pos hlu.2.p htz.1.p), pb1.mono (by decide)⟩, fun N p q hN V1 V2 => htz.2 N _ hN (vl_dif V1 V2 hlu.2.p htz.1.p pb1.p pl1), Dk.mono (by assumption) (by omega)⟩
          case h74 =>
            first
              | exact ⟨_, _, _, _, _, _, _, _, rfl, rfl, ⟨lo_nm2 pl3 (Int.mul_pos hlu.2.p (by decide)), pb3.mono (by decide)⟩, fun N p q hN V1 V2 => z0_int hk (by decide) (by decide) N _ hN (vl_dif V1 V2 hlu.2.p (by decide) pb3.p pl3), Dk.mono (by assumption) (by omega)⟩
              | exact ⟨_, _, _, _, _, _, _, _, rfl, rfl, ⟨lo_nm2 pl4 (Int.mul_pos hlu.2.p (by decide)), pb4.mono (by decide)⟩, fun N p q hN V1 V2 => z0_int hk (by decide) (by decide) N _ hN (vl_dif V1 V2 hlu.2.p (by decide) pb4.p pl4), Dk.mono (by assumption) (by omega)⟩
              | exact ⟨_, _, _, _, _, _, _, _, rfl, rfl, ⟨lo_nm2 pl1 (Int.mul_pos hlu.2.p htz.1.p), pb1.mono (by decide)⟩, fun N p q hN V1 V2 => htz.2 N _ hN (vl_dif V1 V2 hlu.2.p htz.1.p pb1.p pl1), Dk.mono (by assumption) (by omega)⟩
        case h46 =>
          first | decide | omega | exact len_pos (ne_nil (by assumption))
        case h47 =>
          first | assumption | exact Bd.of _ | exact (bd_le (n := 40) (by omega) (by omega)).mono (by decide) | exact (bd_le (n := 40) (by omega) (by rw [List.length_map]; omega)).mono (by decide)
        case h48 =>
          first | decide | omega
        case h49 =>
          first
            | exact ⟨left_nb hn1 (by assumption) (by assumption) (by assumption) (by assumption) (by assumption) (by assumption), by decide⟩
            | exact ⟨nb9 (by omega) (by decide) (by omega) (by omega), by decide⟩
        case h50 =>
          rw [List.length_map, hts3]
          exact Nat.le_of_ble_eq_true rfl
        case h51 =>
          rw [List.map_append]
          rfl
        case h52 =>
          rw [List.length_append, hts3]
          rfl
        case h53 =>
          intro t ht
          rcases List.mem_append.mp ht with ht | ht
          · exact hts0 t ht
          · simp only [List.mem_cons, List.not_mem_nil, or_false] at ht
            rcases ht with rfl | rfl
            · exact ⟨nb2, z0_w hk (by assumption) (by omega) (by omega) lo2 nb2.p⟩
            · exact ⟨nb9 (by decide) (by decide) (by decide) (by decide), z0_int hk (by decide) (by decide)⟩
        case h54 =>
          exact Dk.mono (by assumption) (by omega)
      case h36 =>
        first | decide | omega | exact len_pos (ne_nil (by assumption))
      case h37 =>
        first | assumption | exact Bd.of _ | exact (bd_le (n := 40) (by omega) (by omega)).mono (by decide) | exact (bd_le (n := 40) (by omega) (by rw [List.length_map]; omega)).mono (by decide)
      case h38 =>
        first | decide | omega
      case h39 =>
        first | decide | omega | exact len_pos (ne_nil (by assumption))
      case h40 =>
        first | assumption | exact Bd.of _ | exact (bd_le (n := 40) (by omega) (by omega)).mono (by decide) | exact (bd_le (n := 40) (by omega) (by rw [List.length_map]; omega)).mono (by decide)
      case h41 =>
        first | decide | omega
      case h42 =>
        intro t ht
        simp only [List.mem_cons, List.not_mem_nil, or_false] at ht
        rcases ht with rfl | rfl | rfl <;> exact ⟨nb9 (b := 0) (n := 1) (by decide) (by omega) (by decide) (by decide), z0_int hk (by omega) (by omega)⟩
      case h43 =>
        exact Dk.mono (by assumption) (by omega)
    case h22 =>
      first | decide | omega | exact len_pos (ne_nil (by assumption))
    case h23 =>
      first | assumption | exact Bd.of _ | exact (bd_le (n := 40) (by omega) (by omega)).mono (by decide) | exact (bd_le (n := 40) (by omega) (by rw [List.length_map]; omega)).mono (by decide)
    case h24 =>
      first | decide | omega
    case h25 =>
      exact sc__law_stretch.nd
    case h26 =>
      first | decide | omega | exact len_pos (ne_nil (by assumption))
    case h27 =>
      first | assumption | exact Bd.of _ | exact (bd_le (n := 40) (by omega) (by omega)).mono (by decide) | exact (bd_le (n := 40) (by omega) (by rw [List.length_map]; omega)).mono (by decide)
    case h28 =>
      first | decide | omega
    case h29 =>
      first | decide | omega | exact len_pos (ne_nil (by assumption))
    case h30 =>
      first | assumption | exact Bd.of _ | exact (bd_le (n := 40) (by omega) (by omega)).mono (by decide) | exact (bd_le (n := 40) (by omega) (by rw [List.length_map]; omega)).mono (by decide)
    case h31 =>
      first | decide | omega
    case h32 =>
      first
        | exact ⟨_, _, _, _, rfl, rfl, ⟨Y75.nm_n1, nb9 (by decide) (by omega) (by omega) (by decide)⟩, Dk.mono (by assumption) (by omega)⟩
        | exact ⟨_, _, _, _, rfl, rfl, ⟨lo_nm2 lo1 (by omega), nb1⟩, Dk.mono (by assumption) (by omega)⟩
    case h33 =>
      first
        | exact ⟨_, _, _, _, rfl, rfl, ⟨Y75.nm_n1, nb9 (by decide) (by omega) (by omega) (by decide)⟩, Dk.mono (by assumption) (by omega)⟩
        | exact ⟨_, _, _, _, rfl, rfl, ⟨lo_nm2 lo1 (by omega), nb1⟩, Dk.mono (by assumption) (by omega)⟩

end
end Y37

set_option Elab.async false
set_option linter.all false
set_option maxRecDepth 100000
set_option maxHeartbeats 8000000
namespace Y37
open PySem PySem.Spec PyProof.Rows L2 Evl Wz
open Y02 (Kd Nm psD sgP flQ flA flN rtF g3 sg sq_nn lsD)
open Y75 (Z2 mul mate add sub B2 LO mul_b mate_b B2.mono)
local macro_rules | `(tactic| walk_at "bd") => `(tactic| (repeat (first | assumption | apply Bd.mul | apply Bd.add | apply Bd.sub | apply Bd.neg | exact Bd.z | exact Bd.of _)))
local macro_rules | `(tactic| walk_at "bm") => `(tactic| (first | assumption | exact Bd.mono (by walk_at "bd") (by decide)))
local macro_rules | `(tactic| walk_at "b2") => `(tactic| (repeat (first | assumption | apply And.intro | walk_at "bm" | decide | omega)))
def pairOf : Expr → Option Z2
  | .Tuple [a, b] _ _ => match intOf a, intOf b with
    | some x, some y => some (x, y)
    | _, _ => none
  | _ => none
theorem pair_ev {X : Cx} {o : Os} {ds : List (Option Dat)} {k : Cs} {e : Expr} {t : Z2} (h : pairOf e = some t) : Ev X o e ds k (pD t) k ∧ ∀ es : List Expr, starEach (e :: es) X.env = (false, eval e X.env) :: starEach es X.env := by
  unfold pairOf at h
  split at h
  · split at h
    · rename_i h1 h2
      cases h
      obtain ⟨a1, a2⟩ := int_ev (X := X) (o := o) (ds := ds) (k := k) h1
      obtain ⟨b1, b2⟩ := int_ev (X := X) (o := o) (ds := ds) (k := k) h2
      refine ⟨fun _ hR => ?_, fun _ => rfl⟩
      exact c_tup (ca_cons (a1 _ (ca_cons (b1 _ (ca_nil (And.intro (And.intro rfl (Nat.le_of_ble_eq_true rfl)) hR))) (b2 _))) (a2 _))
    · cases h
  · cases h
theorem pairs_ev {X : Cx} {o : Os} {ds : List (Option Dat)} {k : Cs} : ∀ {es : List Expr} {ts : List Z2}, es.map pairOf = ts.map some → ∀ RA : List Dat → Cs → Prop, RA (ts.map fun t => pD t) k → EvA X o es ds k RA
  | [], [], _, RA, h => ca_nil h
  | e :: es, t :: ts, he, RA, h => by
    rw [List.map_cons, List.map_cons] at he
    obtain ⟨h1, h2⟩ := List.cons.inj he
    obtain ⟨a1, a2⟩ := pair_ev (X := X) (o := o) (ds := ds) (k := k) h1
    exact ca_cons (a1 _ (pairs_ev h2 _ h)) (a2 _)
  | [], _ :: _, he, _, _ => by cases he
  | _ :: _, [], he, _, _ => by cases he
theorem pD_noC (ts : List Z2) : (ts.map fun t => pD t).all noC = true := List.all_eq_true.mpr fun d hd => by
  obtain ⟨t, _, rfl⟩ := List.mem_map.mp hd
  rfl
theorem pD_two {ts : List Z2} {z : Dat} (h : z ∈ ts.map fun t => pD t) : z = .tup [fsD z, snD z] := by
  obtain ⟨t, _, rfl⟩ := List.mem_map.mp h
  rfl
/-- for x, y in [..], pairs of numbers -/
theorem as_forP {X : Cx} {o o0 : Os} {ds : List (Option Dat)} {k : Cs} {rest body : List Stmt} {D : Ends} {H0 : Hp} {i i2 : Nat} {s : Stmt} {e : Expr} {es : List Expr} {ts : List Z2} {x y : Str} {px py pt pos p : Pos} {kt : Nat} {W : Nat → List (Option Dat) → Cs → Prop} {B : List (Option Dat) → Cs → Prop}
    (hs : s = .For (.Tuple [.Name x px, .Name y py] kt pt) e body [] pos) (he : e = .List es p) (ht : es.map pairOf = ts.map some) (hl : ts.length ≤ 1000) (hN : X.N.Nodup) (hcalm : X.calm = true) (hp : PassesOwn (model X.prog X.w) X.A X.env X.xe) (hi : X.N[i]? = some x) (hj : X.N[i2]? = some y) (hx : Loc X.env.scope x) (hy : Loc X.env.scope y) (hfx : X.fn x = true ∨ X.env.scope.names.lookup x = some .local) (hfy : X.fn y = true ∨ X.env.scope.names.lookup y = some .local) (hset : ∀ y, foldedSetIterable e X.env y = pure y)
    (h0 : W 0 ds k) (F : ForW X o0 o H0 body rest D (ts.map fun t => pD t).length (fun j => (ts.map fun t => pD t)[j]?) (fun d es => (es.set i (some (fsD d))).set i2 (some (snD d))) W B) : AS X o0 o (s :: rest) D ds k H0 := by
  subst hs
  refine as_forL2 hN hcalm hp ?_ hi hj hx hy hfx hfy hset
  subst he
  exact c_ofN (n_disp (pairs_ev ht _ ⟨⟨pD_noC ts, by rw [List.length_map]; exact hl⟩, W, B, fsD, snD, h0, fun z hz => pD_two hz, F⟩))
theorem one_list {k : Int} {R : List Z2} {M : Z2 → Prop} {C : List Z2 → Prop} (hk : Kd k) (hpw : R.Pairwise (lt k)) (hmem : ∀ z, z ∈ R ↔ M z) (h : C R) : ∀ R2 : List Z2, R2.Pairwise (lt k) → (∀ z, z ∈ R2 ↔ M z) → R2.length ≤ 4000 → C R2 := fun R2 h1 h2 _ => by
  rw [srt_uniq hk h1 hpw fun z => (h2 z).trans (hmem z).symm]
  exact h
theorem cut_mem {R : List Z2} {l u : Option Int} {d : Dat} (h : d ∈ Wz.cutD (R.map fun z => pD z) l u) : ∃ w ∈ R, d = pD w := by
  unfold Wz.cutD at h
  obtain ⟨w, hw, e⟩ := List.mem_map.mp (List.mem_of_mem_drop (List.mem_of_mem_take h))
  exact ⟨w, hw, e.symm⟩
theorem cut_two {R : List Z2} {l u : Option Int} {d : Dat} (h : d ∈ Wz.cutD (R.map fun z => pD z) l u) : d = .tup [fsD d, snD d] := by
  obtain ⟨w, _, rfl⟩ := cut_mem h
  rfl
theorem sh_list {R : List Z2} (h : R.length ≤ 4000) : Sh 2 (.lst (R.map fun z => pD z)) := by
  refine .inr ⟨_, .inr rfl, by rw [List.length_map]; omega, fun i e he => ?_⟩
  rw [List.getElem?_map] at he
  cases hz : R[i]? with
  | none => rw [hz] at he; cases he
  | some z =>
    rw [hz] at he
    cases he
    refine .inr ⟨_, .inl rfl, by show 2 ≤ 10000; decide, fun j e2 he2 => ?_⟩
    match j, he2 with
    | 0, he2 => exact .inr ⟨_, (Option.some.inj he2).symm⟩
    | 1, he2 => exact .inr ⟨_, (Option.some.inj he2).symm⟩
theorem sh_two (b1 b2 : Bool) : Sh 2 (.lst [.bl b1, .bl b2]) := by
  refine .inr ⟨_, .inr rfl, by show 2 ≤ 10000; decide, fun j e2 he2 => ?_⟩
  match j, he2 with
  | 0, he2 => exact .inl (.inl ⟨_, (Option.some.inj he2).symm⟩)
  | 1, he2 => exact .inl (.inl ⟨_, (Option.some.inj he2).symm⟩)
def nearL : List Z2 := [(0, 0), (1, 0), (-1, 0), (0, 1), (1, -1), (2, 3)]
theorem near_ok : ∀ t ∈ nearL, t.1.natAbs < 4 ∧ t.2.natAbs < 4 := by decide
theorem near_b2 {w t : Z2} (h : B2 28 w) (g : t.1.natAbs < 4 ∧ t.2.natAbs < 4) : B2 1000 (w.1 + t.1, w.2 + t.2) := ⟨Bd.mono (n := 29) (by show Int.natAbs _ < 2 ^ 29; have := h.1; have : w.1.natAbs < 2 ^ 28 := h.1; omega) (by decide), Bd.mono (n := 29) (by show Int.natAbs _ < 2 ^ 29; have : w.2.natAbs < 2 ^ 28 := h.2; omega) (by decide)⟩
set_option exponentiation.threshold 1000000
section
variable {P : Program} {w : World} {K : PySem.W.Frag} {mg : Str → Option Value} {base : Heap}

/-! ### _law_right -/
abbrev s__law_right : Stmt := topS 65
theorem sc__law_right : FnScope ["row", "left", "right", "named", "due", "told", "a", "b", "x", "y", "z"] ["row", "left", "right", "named"] (defScope s__law_right) := ⟨rfl, rfl, rfl, by decide +kernel, rfl, by decide +kernel, by decide +kernel⟩
def F__law_right : FP := fun ds Q => ∃ k N p q l h a b n c e u x y v x2 y2 v2, ∃ nb : Bool, ds = [rwD k a b n c e u, nD x y v, nD x2 y2 v2, .bl nb] ∧ (Pb k N p q l h a b n c e u x y v x2 y2 v2 ∧ Nm a b n ∧ Nm c e u ∧ Nm x y v ∧ Nm x2 y2 v2) ∧ Q (.bl true)
theorem ok__law_right {f : Addr} {fd : FuncData} (Fn : Fun K "_law_right" "_law_right" s__law_right f fd) (c__law_members : Cl P w K mg base 5 "_law_members" ["row", "left", "right"] (spN K F__law_members)) (c_members : Cl P w K mg base 6 "members" ["row", "left", "right"] (spN K F_members)) (c__law_same : Cl P w K mg base 3 "_law_same" ["told", "due"] (spP K (F__law_same 2))) (c_is_member : Cl P w K mg base 5 "is_member" ["row", "member"] (spP K F_is_member)) (c__law_is_member : Cl P w K mg base 5 "_law_is_member" ["row", "z"] (spP K F__law_is_member)) (ck_members : ClK P w K mg base 6 "members" ["row", "left", "right"] ["right", "left", "row"] [2, 1, 0] (spN K F_members)) (ck_is_member : ClK P w K mg base 5 "is_member" ["row", "member"] ["member", "row"] [1, 0] (spP K F_is_member)) : FnOk P w K mg base CX0 7 f fd ["row", "left", "right", "named"] (spP K F__law_right) := by
  refine fn_P Fn sc__law_right (fun ds G h => ?_) (fun cdv A outer s H Q E ds G hr hF hQ => ?_)
  · obtain ⟨k, N, p, q, l, h, a, b, n, c, e, u, x, y, v, x2, y2, v2, nb, rfl, ⟨W, hm1, hm2, hm3, hm4⟩, hG⟩ := h
    rfl
  · obtain ⟨k, N, p, q, l, h, a, b, n, c, e, u, x, y, v, x2, y2, v2, nb, rfl, ⟨W, hm1, hm2, hm3, hm4⟩, hG⟩ := hF
    have hk := W.kd
    have hrw := W.rw hm1 hm2
    refine (as_asg (i := 4) ?h1 (c_ofN (n_call c__law_members (hr.mono (by decide)) (ca_cons (nm 0 rfl (ca_cons (nm 1 rfl (ca_cons (nm 2 rfl (ca_nil ⟨k, N, p, q, l, h, _, _, _, _, _, _, _, _, _, _, _, _, rfl, W, fun R hpw hmem hlen => And.intro (map_nl R) (as_asgN (i := 5) ?h2 (n_join (J := (fun d0 k0 => d0 = R.map (fun z => pD z) ∧ k0 = [])) (n_if (t_valB (nm 3 rfl (And.intro (fun b1 => (n_callK ck_members (hr.mono (by decide)) (ck_cons (nm 2 rfl (ck_cons (nm 1 rfl (ck_cons (nm 0 rfl (ck_nil (And.intro rfl ⟨k, N, p, q, l, h, _, _, _, _, _, _, _, _, _, _, _, _, rfl, ⟨W, hm1, hm2, hm3, hm4⟩, one_list hk hpw hmem (And.intro (map_nl R) ⟨rfl, rfl⟩)⟩)))))))))) (fun b1 => (n_call c_members (hr.mono (by decide)) (ca_cons (nm 0 rfl (ca_cons (nm 1 rfl (ca_cons (nm 2 rfl (ca_nil ⟨k, N, p, q, l, h, _, _, _, _, _, _, _, _, _, _, _, _, rfl, ⟨W, hm1, hm2, hm3, hm4⟩, one_list hk hpw hmem (And.intro (map_nl R) ⟨rfl, rfl⟩)⟩))))))))))))) ?h3))⟩))))))))))
    case h1 =>
      exact sc__law_right.nd
    case h2 =>
      exact sc__law_right.nd
    case h3 =>
      intro d0 k0 hj
      obtain ⟨rfl, rfl⟩ := hj
      refine (And.intro ?h4 (fun _ => (as_ifn (t_not (t_val (c_call c__law_same (hr.mono (by decide)) (ca_cons (nm 5 rfl (ca_cons (nm 4 rfl (ca_nil ⟨_, rfl, ?h5, And.intro rfl (as_drop (c_append (nm 5 rfl (ca_cons (c_tup (ca_cons (c_int (ca_cons (c_int (ca_nil (And.intro (And.intro rfl (Nat.le_of_ble_eq_true rfl)) (ca_nil ⟨rfl, _, rfl, ?h6, (as_forL2 (i := 6) (i2 := 7) ?h9 rfl PassesOwn.never (c_ofN (n_cutL (nm 4 rfl (o_none (o_some (c_int ⟨(fun j es qq => ∃ (o6 o7 o8 o9 o10 : Option Dat), es = [some (rwD k a b n c e u), some (nD x y v), some (nD x2 y2 v2), some (.bl nb), some (.lst (R.map (fun z => pD z))), some (.cel 0), o6, o7, o8, o9, o10] ∧ qq = [R.map (fun z => pD z) ++ [pD (0, 0)]]), (fun _ _ => False), fsD, snD, ⟨_, _, _, _, _, rfl, rfl⟩, (fun z hz => cut_two hz), ⟨fun H10 e10 fr0 j d es q hj hd hw => ?h7, fun es q hw => ?h8, fun _ _ h => h.elim⟩⟩)))))))⟩))))))))))))⟩)))))))))))
      case h4 =>
        exact map_nl R
      case h5 =>
        first | exact sh_list hlen | exact sh_two _ _
      case h6 =>
        rw [List.length_map]
        omega
      case h7 =>
        obtain ⟨o6, o7, o8, o9, o10, rfl, rfl⟩ := hw
        obtain ⟨w0, hw0, rfl⟩ := cut_mem (List.mem_of_getElem? hd)
        have hwb := W.bz ((hmem w0).mp hw0)
        refine (@as_forP _ _ _ _ _ _ _ _ _ 8 9 _ _ _ nearL _ _ _ _ _ _ _ _ (fun j es qq => ∃ (o8 o9 o10 : Option Dat), es = [some (rwD k a b n c e u), some (nD x y v), some (nD x2 y2 v2), some (.bl nb), some (.lst (R.map (fun z => pD z))), some (.cel 0), some (.int w0.1), some (.int w0.2), o8, o9, o10] ∧ qq = [R.map (fun z => pD z) ++ [pD (0, 0)]]) (fun _ _ => False) rfl rfl rfl (by decide) ?h20 rfl PassesOwn.never (by rfl) (by rfl) (by exact Or.inl rfl) (by exact Or.inl rfl) (by exact .inl rfl) (by exact .inl rfl) (by intro _; rfl) ⟨_, _, _, rfl, rfl⟩ ⟨fun H11 e11 fr1 j d es q hj hd hw => ?h10, fun es q hw => ?h11, fun _ _ h => h.elim⟩)
        case h10 =>
          obtain ⟨o8, o9, o10, rfl, rfl⟩ := hw
          obtain ⟨t0, ht0, ed⟩ := map_get hd
          subst ed
          have hz0 := near_b2 hwb (near_ok t0 (List.mem_of_getElem? ht0))
          refine (as_asg (i := 10) ?h12 (c_tup (ca_cons (c_add (nm 6 rfl (nm 8 rfl (ca_cons (c_add (nm 7 rfl (nm 9 rfl (ca_nil (And.intro (And.intro rfl (Nat.le_of_ble_eq_true rfl)) (as_ifn (t_not (t_val (c_call c__law_same (hr.mono (by decide)) (ca_cons (@c_lst2 _ _ _ _ _ _ _ _ _ rfl (by rfl) (by rfl) (c_call c_is_member (hr.mono (by decide)) (ca_cons (nm 0 rfl (ca_cons (nm 10 rfl (ca_nil ⟨_, _, _, _, _, _, _, (_, _), rfl, ⟨hrw, ?h13⟩, And.intro rfl (c_callK ck_is_member (hr.mono (by decide)) (ck_cons (nm 10 rfl (ck_cons (nm 0 rfl (ck_nil (And.intro rfl ⟨_, _, _, _, _, _, _, (_, _), rfl, ⟨hrw, ?h14⟩, And.intro rfl ⟨rfl, (ca_cons (c_ofN (n_rep (n_disp (ca_cons (c_call c__law_is_member (hr.mono (by decide)) (ca_cons (nm 0 rfl (ca_cons (nm 10 rfl (ca_nil ⟨_, _, _, _, _, _, _, (_, _), rfl, ⟨hrw, ?h15⟩, And.intro rfl (ca_nil (And.intro (And.intro rfl (Nat.le_of_ble_eq_true rfl)) (c_int (And.intro ?h16 (ca_nil ⟨_, rfl, ?h17, And.intro rfl (as_end rfl ?h18)⟩)))))⟩)))))))))))⟩⟩)))))))⟩))))))))))))))))))))))))
          case h12 =>
            exact sc__law_right.nd
          case h13 =>
            exact hz0
          case h14 =>
            exact hz0
          case h15 =>
            exact hz0
          case h16 =>
            exact ⟨rfl, by decide, by decide, Nat.le_of_ble_eq_true rfl⟩
          case h17 =>
            first | exact sh_list hlen | exact sh_two _ _
          case h18 =>
            exact ⟨_, _, _, rfl, rfl⟩
        case h11 =>
          obtain ⟨o8, o9, o10, rfl, rfl⟩ := hw
          refine (as_end rfl ?h19)
          case h19 =>
            exact ⟨_, _, _, _, _, rfl, rfl⟩
        case h20 =>
          exact sc__law_right.nd
      case h8 =>
        obtain ⟨o6, o7, o8, o9, o10, rfl, rfl⟩ := hw
        refine (as_ret hQ (c_call c__law_same (hr.mono (by decide)) (ca_cons (c_ofN (n_call c_members (hr.mono (by decide)) (ca_cons (nm 0 rfl (ca_cons (nm 1 rfl (ca_cons (nm 2 rfl (ca_nil ⟨k, N, p, q, l, h, _, _, _, _, _, _, _, _, _, _, _, _, rfl, ⟨W, hm1, hm2, hm3, hm4⟩, one_list hk hpw hmem (And.intro (map_nl R) (ca_cons (nm 4 rfl (ca_nil ⟨_, rfl, ?h21, And.intro rfl (And.intro rfl ?h22)⟩))))⟩))))))))))))
        case h21 =>
          first | exact sh_list hlen | exact sh_two _ _
        case h22 =>
          exact hG
      case h9 =>
        exact sc__law_right.nd

end
end Y37

set_option Elab.async false
set_option linter.all false
set_option maxRecDepth 100000
set_option maxHeartbeats 8000000
namespace Y37
open PySem PySem.Spec PyProof.Rows L2 Evl Wz
open Y02 (Kd Nm psD sgP flQ flA flN rtF g3 sg sq_nn lsD)
open Y75 (Z2 mul mate add sub B2 LO mul_b mate_b B2.mono)
local macro_rules | `(tactic| walk_at "bd") => `(tactic| (repeat (first | assumption | apply Bd.mul | apply Bd.add | apply Bd.sub | apply Bd.neg | exact Bd.z | exact Bd.of _)))
local macro_rules | `(tactic| walk_at "bm") => `(tactic| (first | assumption | exact Bd.mono (by walk_at "bd") (by decide)))
local macro_rules | `(tactic| walk_at "b2") => `(tactic| (repeat (first | assumption | apply And.intro | walk_at "bm" | decide | omega)))
/-- what was asked -/
def Ak (c : Nat) (s : List Dat) : Prop := s.length = c ∧ ∀ d ∈ s, ∃ k N p q l h a b n c1 e u x y v x2 y2 v2, d = .tup [rwD k a b n c1 e u, nD x y v, nD x2 y2 v2] ∧ Pb k N p q l h a b n c1 e u x y v x2 y2 v2 ∧ Nm a b n ∧ Nm c1 e u ∧ Nm x y v ∧ Nm x2 y2 v2
theorem Ak.nil : Ak 0 [] := ⟨rfl, fun d h => (by cases h)⟩
theorem Ak.next {c : Nat} {s : List Dat} {k N : Int} {p q l h : Z2} {a b n c1 e u x y v x2 y2 v2 : Int} (A : Ak c s) (W : Pb k N p q l h a b n c1 e u x y v x2 y2 v2) (h1 : Nm a b n) (h2 : Nm c1 e u) (h3 : Nm x y v) (h4 : Nm x2 y2 v2) : Ak (c + 1) (s ++ [.tup [rwD k a b n c1 e u, nD x y v, nD x2 y2 v2]]) := by
  refine ⟨by rw [List.length_append, A.1]; rfl, fun d hd => ?_⟩
  rcases List.mem_append.mp hd with g | g
  · exact A.2 d g
  · have e := List.mem_singleton.mp g
    subst e
    exact ⟨_, _, _, _, _, _, _, _, _, _, _, _, _, _, _, _, _, _, rfl, W, h1, h2, h3, h4⟩
theorem Ak.head {c : Nat} {s : List Dat} (A : Ak c s) (hc : 0 < c) : ∃ k N p q l h a b n c1 e u x y v x2 y2 v2, ∃ t : List Dat, s = .tup [rwD k a b n c1 e u, nD x y v, nD x2 y2 v2] :: t ∧ Pb k N p q l h a b n c1 e u x y v x2 y2 v2 ∧ Nm a b n ∧ Nm c1 e u ∧ Nm x y v ∧ Nm x2 y2 v2 := by
  obtain ⟨h1, h2⟩ := A
  match s, h1 with
  | [], h1 => exact absurd h1 (by simp; omega)
  | d :: t, h1 =>
    obtain ⟨k, N, p, q, l, h, a, b, n, c1, e, u, x, y, v, x2, y2, v2, rfl, W⟩ := h2 d (by simp)
    exact ⟨k, N, p, q, l, h, a, b, n, c1, e, u, x, y, v, x2, y2, v2, t, rfl, W⟩
set_option exponentiation.threshold 1000000
section
variable {P : Program} {w : World} {K : PySem.W.Frag} {mg : Str → Option Value} {base : Heap}

/-! ### law -/
abbrev s_law : Stmt := topS 66
theorem sc_law : FnScope ["script", "asked", "spot", "well", "row", "turn", "left", "right"] ["script"] (defScope s_law) := ⟨rfl, rfl, rfl, by decide +kernel, rfl, by decide +kernel, by decide +kernel⟩
def F_law : FP := fun ds Q => ∃ ns : List Int, ds = [.lst (ns.map Dat.int)] ∧ ns.length ≤ 63 ∧ Q (.bl true)
theorem ok_law {f : Addr} {fd : FuncData} (Fn : Fun K "law" "law" s_law f fd) (c__law_well : Cl P w K mg base 1 "_law_well" ["script", "place"] (spN K F__law_well)) (c__law_row : Cl P w K mg base 5 "_law_row" ["well"] (spD K F__law_row)) (c__law_stretch : Cl P w K mg base 6 "_law_stretch" ["well", "row"] (spD K F__law_stretch)) (c__law_right : Cl P w K mg base 7 "_law_right" ["row", "left", "right", "named"] (spP K F__law_right)) (m_range : mg "range" = none) (m_max : mg "max" = none) (m_min : mg "min" = none) (m_len : mg "len" = none) : FnOk P w K mg base CX0 8 f fd ["script"] (spP K F_law) := by
  refine fn_P Fn sc_law (fun ds G h => ?_) (fun cdv A outer s H Q E ds G hr hF hQ => ?_)
  · obtain ⟨ns, rfl, hns, hG⟩ := h
    rfl
  · obtain ⟨ns, rfl, hns, hG⟩ := hF
    refine (as_asgN (i := 1) ?h1 (n_disp (ca_nil (And.intro (And.intro rfl (Nat.le_of_ble_eq_true rfl)) (And.intro ?h2 (fun _ => (as_forR1 (i := 2) ?h3 rfl PassesOwn.never m_range (ca_cons (c_max rfl m_max (ca_cons (c_int (ca_cons (c_min rfl m_min (ca_cons (c_int (ca_cons (c_lenL m_len (ca_cons (nm 0 rfl (ca_nil (ca_nil (ca_nil (ca_nil ⟨_, (fun j es qq => ∃ (o2 o3 o4 o5 o6 o7 : Option Dat) (aq : List Dat), es = [some (.lst (ns.map Dat.int)), some (.cel 0), o2, o3, o4, o5, o6, o7] ∧ qq = [aq] ∧ Ak (2 * j) aq), (fun _ _ => False), rfl, ?h20, ⟨_, _, _, _, _, _, _, rfl, rfl, Ak.nil⟩, ⟨fun H10 e10 fr0 j d es q hj hd hw => ?h4, fun es q hw => ?h5, fun _ _ h => h.elim⟩⟩)))))))))))))))))))))))
    case h1 =>
      exact sc_law.nd
    case h2 =>
      first | rfl | assumption | exact hdk1.nl
    case h3 =>
      exact sc_law.nd
    case h4 =>
      obtain ⟨o2, o3, o4, o5, o6, o7, aq, rfl, rfl, hak⟩ := hw
      cases hd
      refine (as_asgN (i := 3) ?h6 (n_call c__law_well (hr.mono (by decide)) (ca_cons (nm 0 rfl (ca_cons (nm 2 rfl (ca_nil ⟨_, _, rfl, fun dk1 hdk1 => And.intro hdk1.nl (And.intro ?h7 (fun _ => (as_asg (i := 4) ?h8 (c_callD c__law_row (hr.mono (by decide)) (ca_cons (nm 3 rfl (ca_nil (And.intro rfl ⟨_, rfl, ⟨(by assumption), ?h9⟩, fun k a b n c e u cr hro hcr => And.intro rfl (as_forR1 (i := 5) ?h10 rfl PassesOwn.never m_range (ca_cons (c_int (ca_nil ⟨_, (fun i es qq => ∃ (o5 o6 o7 : Option Dat) (aq cq : List Dat), es = [some (.lst (ns.map Dat.int)), some (.cel 0), some (.int (j : Int)), some (.cel 1), some (rwD k a b n c e u), o5, o6, o7] ∧ qq = [aq, cq] ∧ Ak (2 * j + i) aq ∧ Dk (100 + 30 * i) cq), (fun _ _ => False), rfl, ?h18, ⟨_, _, _, _, _, rfl, rfl, hak, hcr.mono (by decide)⟩, ⟨fun H11 e11 fr1 j d es q hj hd hw => ?h11, fun es q hw => ?h12, fun _ _ h => h.elim⟩⟩))))⟩))))))))⟩)))))))
      case h6 =>
        exact sc_law.nd
      case h7 =>
        first | rfl | assumption | exact hdk1.nl
      case h8 =>
        exact sc_law.nd
      case h9 =>
        first | decide | omega
      case h10 =>
        exact sc_law.nd
      case h11 =>
        obtain ⟨o5, o6, o7, aq, cq, rfl, rfl, hak, hcq⟩ := hw
        cases hd
        refine (as_unp2 (i := 6) (j := 7) ?h13 rfl (c_callD c__law_stretch (hr.mono (by decide)) (ca_cons (nm 3 rfl (ca_cons (nm 4 rfl (ca_nil (And.intro rfl ⟨_, _, _, _, _, _, _, _, rfl, ⟨hro, (by assumption), ?h14⟩, fun x y v x2 y2 v2 M p q l h cs hpb hml hmr hcs => And.intro rfl ⟨_, _, rfl, (as_ifn (t_not (t_val (c_call c__law_right (hr.mono (by decide)) (ca_cons (nm 4 rfl (ca_cons (nm 6 rfl (ca_cons (nm 7 rfl (ca_cons (c_eqI (nm 5 rfl (c_int (ca_nil ⟨_, _, _, _, _, _, _, _, _, _, _, _, _, _, _, _, _, _, _, rfl, ⟨hpb, hro.l.1, hro.h.1, hml, hmr⟩, And.intro rfl (as_drop (c_append (nm 1 rfl (ca_cons (c_tup (ca_cons (nm 4 rfl (ca_cons (nm 6 rfl (ca_cons (nm 7 rfl (ca_nil (And.intro (And.intro rfl (Nat.le_of_ble_eq_true rfl)) (ca_nil ⟨rfl, _, rfl, ?h15, (as_end rfl ?h16)⟩))))))))))))))⟩)))))))))))))))⟩⟩))))))))
        case h13 =>
          exact sc_law.nd
        case h14 =>
          first | decide | omega
        case h15 =>
          have := hak.1
          omega
        case h16 =>
          exact ⟨_, _, _, _, _, rfl, rfl, hak.next hpb hro.l.1 hro.h.1 hml hmr, Dk.mono (by assumption) (by omega)⟩
      case h12 =>
        obtain ⟨o5, o6, o7, aq, cq, rfl, rfl, hak, hcq⟩ := hw
        refine (as_endL rfl ⟨_, rfl⟩ ?h17)
        case h17 =>
          exact ⟨_, _, _, _, _, _, _, rfl, rfl, hak⟩
      case h18 =>
        first | decide | omega
    case h5 =>
      obtain ⟨o2, o3, o4, o5, o6, o7, aq, rfl, rfl, hak⟩ := hw
      obtain ⟨k, N, p, q, l, h, a, b, n, c, e, u, x, y, v, x2, y2, v2, tl, rfl, HW, g1, g2, g3, g4⟩ := hak.head (by omega)
      refine (as_ret hQ (c_call c__law_right (hr.mono (by decide)) (ca_cons (c_ixTn (c_ixLn (nm 1 rfl (c_int (And.intro (by decide) (c_int (And.intro (by decide) (ca_cons (c_ixTn (c_ixLn (nm 1 rfl (c_int (And.intro (by decide) (c_int (And.intro (by decide) (ca_cons (c_ixTn (c_ixLn (nm 1 rfl (c_int (And.intro (by decide) (c_int (And.intro (by decide) (ca_cons (c_bl (ca_nil ⟨_, _, _, _, _, _, _, _, _, _, _, _, _, _, _, _, _, _, _, rfl, ⟨HW, g1, g2, g3, g4⟩, And.intro rfl (And.intro rfl ?h19)⟩)))))))))))))))))))))))))))))
      case h19 =>
        exact hG
    case h20 =>
      first | decide | omega

end
end Y37

set_option Elab.async false
set_option linter.all false
set_option maxRecDepth 100000
set_option maxHeartbeats 8000000
namespace Y37
open PySem PySem.Spec PyProof.Rows L2 Evl Wz
/-- a def of the module's top -/
structure Top (K : PySem.W.Frag) (mg : Str → Option Value) (x : Str) (st : Stmt) : Prop where
  ex : ∃ (f : Addr) (fd : FuncData), mg x = some (.ref f) ∧ Fun K x x st f fd
/-- a method as the class holds it -/
structure MT (K : PySem.W.Frag) (C : Addr) (m qual : Str) (st : Stmt) : Prop where
  ex : ∃ (f : Addr) (fd : FuncData), Meth K C m f ∧ Fun K m qual st f fd
/-- a class of the module's top -/
structure Kl (K : PySem.W.Frag) (mg : Str → Option Value) (x : Str) (C : Addr) : Prop where
  mg : mg x = some (.ref C)
  mks : PySem.W.makesIn K C = true
  kp : PySem.W.keepIn K (.ref C) = true
theorem mt_mk {K : PySem.W.Frag} {mg : Str → Option Value} {x : Str} {C : Addr} {m qual : Str} {st : Stmt} {f : Addr} {oc : Value} {od an : Option Addr} {osl : Array (Option Value)} {kV doc pm cdv ct : Value}
    (_ : Kl K mg x C) (a : PySem.W.findIn K (.ref C) m = some (some (.ref f))) (i : PySem.W.isFn K (.ref f) = true) (l : K.lookup f = some ⟨oc, od, .func (PySem.W.fnOf m qual (defArgs st) (defBody st) (defScope st) .none kV doc pm an cdv ct), osl⟩) (c : PySem.W.codeIn K cdv qual = true) (k : PySem.W.keepIn K (.ref f) = true) : MT K C m qual st :=
  ⟨_, _, ⟨a, i, k⟩, fun_mk (st := st) l c k⟩
theorem kl_mk {K : PySem.W.Frag} {h : Heap} {mg : Str → Option Value} {x : Str} {C : Addr} (X : K.In h) (G : h.Ns mainGlobals mg) (a : PySem.W.nsIn K mainGlobals x = some (some (.ref C))) (m : PySem.W.makesIn K C = true) (k : PySem.W.keepIn K (.ref C) = true) : Kl K mg x C :=
  ⟨PySem.W.mg_of X G a, m, k⟩
theorem top_mk {K : PySem.W.Frag} {h : Heap} {mg : Str → Option Value} {x : Str} {st : Stmt} {f : Addr} {oc : Value} {od an : Option Addr} {osl : Array (Option Value)} {kV doc pm cdv ct : Value} (X : K.In h) (G : h.Ns mainGlobals mg)
    (a : PySem.W.nsIn K mainGlobals x = some (some (.ref f))) (l : K.lookup f = some ⟨oc, od, .func (PySem.W.fnOf x x (defArgs st) (defBody st) (defScope st) .none kV doc pm an cdv ct), osl⟩) (c : PySem.W.codeIn K cdv x = true) (k : PySem.W.keepIn K (.ref f) = true) : Top K mg x st :=
  ⟨_, _, PySem.W.mg_of X G a, fun_mk (st := st) l c k⟩
section
variable {P : Program} {w : World} {K : PySem.W.Frag} {mg : Str → Option Value} {base : Heap} {x : Str} {st : Stmt} {k : Nat} {ps ks : List Str} {sp : Sp}
theorem Top.cl (T : Top K mg x st) (hb : ∀ (kV doc pm : Value) (an : Option Addr) (cdv ct : Value) (us : List Value), us.length = ps.length → bindArgs (PySem.W.fnOf x x (defArgs st) (defBody st) (defScope st) .none kV doc pm an cdv ct) ⟨us, []⟩ = pure (ps.zip us))
    (h : ∀ f fd, Fun K x x st f fd → FnOk P w K mg base CX0 k f fd ps sp) : Cl P w K mg base k x ps sp := by
  obtain ⟨f, fd, hm, F⟩ := T.ex
  exact ⟨f, fd, hm, F.kp, F.binds hb, h f fd F⟩
theorem Top.clK (T : Top K mg x st) (pi : List Nat) (hp : 0 < ps.length) (hb : ∀ (kV doc pm : Value) (an : Option Addr) (cdv ct : Value) (ws : List Value), ws.length = ks.length → bindArgs (PySem.W.fnOf x x (defArgs st) (defBody st) (defScope st) .none kV doc pm an cdv ct) ⟨[], ks.zip ws⟩ = pure (ps.zip (kperm pi ks.length [] ws)))
    (h : ∀ f fd, Fun K x x st f fd → FnOk P w K mg base CX0 k f fd ps sp) : ClK P w K mg base k x ps ks pi sp := by
  obtain ⟨f, fd, hm, F⟩ := T.ex
  exact ⟨f, fd, hm, F.kp, Wz.Fun.kb F pi ks.length hp hb, h f fd F⟩
end
theorem ki_mk {K : PySem.W.Frag} {h : Heap} {mg : Str → Option Value} {x : Str} {n : Int} {t : Tok} (X : K.In h) (G : h.Ns mainGlobals mg) (e : PySem.W.nsIn K mainGlobals x = some (some (.int n t))) : KI mg x n := ⟨⟨_, PySem.W.mg_of X G e⟩⟩
theorem kt_mk {K : PySem.W.Frag} {h : Heap} {mg : Str → Option Value} {x : Str} {C : Addr} {od : Option Addr} {n : Nat} {sl : Array (Option Value)} {a b c : Tok} (X : K.In h) (G : h.Ns mainGlobals mg) (e : PySem.W.nsIn K mainGlobals x = some (some (.ref C)))
    (l : K.lookup C = some ⟨.type "tuple", od, .seq #[.int 2 a, .int 3 b, .int 5 c] n, sl⟩) : KT K mg x [.int 2, .int 3, .int 5] :=
  ⟨C, [.int 2, .int 3, .int 5], PySem.W.mg_of X G e, fun H => .inr ⟨_, _, _, l, rfl, rfl, by show 3 ≤ sizeLine; decide, .cons ⟨a, rfl⟩ (.cons ⟨b, rfl⟩ (.cons ⟨c, rfl⟩ .nil))⟩, fun o H => DVs.cons (.int 2) (DVs.cons (.int 3) (DVs.cons (.int 5) DVs.nil))⟩
theorem kt_mk2 {K : PySem.W.Frag} {h : Heap} {mg : Str → Option Value} {x : Str} {C : Addr} {od : Option Addr} {n : Nat} {sl : Array (Option Value)} {i j : Int} {a b : Tok} (X : K.In h) (G : h.Ns mainGlobals mg) (e : PySem.W.nsIn K mainGlobals x = some (some (.ref C)))
    (l : K.lookup C = some ⟨.type "tuple", od, .seq #[.int i a, .int j b] n, sl⟩) : KT K mg x [.int i, .int j] :=
  ⟨C, [.int i, .int j], PySem.W.mg_of X G e, fun H => .inr ⟨_, _, _, l, rfl, rfl, by show 2 ≤ sizeLine; decide, .cons ⟨a, rfl⟩ (.cons ⟨b, rfl⟩ .nil)⟩, fun o H => DVs.cons (.int i) (DVs.cons (.int j) DVs.nil)⟩
theorem kdi_mk {K : PySem.W.Frag} {h : Heap} {mg : Str → Option Value} {x : Str} {f : Int → T3} {C p2 p3 p5 : Addr} {h2 h3 h5 a2 b2 c2 a3 b3 c3 a5 b5 c5 : Int} {t2 t3 t5 u1 u2 u3 v1 v2 v3 w1 w2 w3 : Tok} {n n2 n3 n5 : Nat} {od2 od3 od5 : Option Addr} {sl2 sl3 sl5 : Array (Option Value)} (X : K.In h) (G : h.Ns mainGlobals mg) (e : PySem.W.nsIn K mainGlobals x = some (some (.ref C)))
    (l : K.lookup C = some ⟨.type "dict", none, .dict #[⟨h2, .int 2 t2, .ref p2⟩, ⟨h3, .int 3 t3, .ref p3⟩, ⟨h5, .int 5 t5, .ref p5⟩] n, #[]⟩)
    (l2 : K.lookup p2 = some ⟨.type "tuple", od2, .seq #[.int a2 u1, .int b2 u2, .int c2 u3] n2, sl2⟩) (l3 : K.lookup p3 = some ⟨.type "tuple", od3, .seq #[.int a3 v1, .int b3 v2, .int c3 v3] n3, sl3⟩) (l5 : K.lookup p5 = some ⟨.type "tuple", od5, .seq #[.int a5 w1, .int b5 w2, .int c5 w3] n5, sl5⟩)
    (hh : h2 = hashInt 2 ∧ h3 = hashInt 3 ∧ h5 = hashInt 5) (hf : f 2 = (a2, b2, c2) ∧ f 3 = (a3, b3, c3) ∧ f 5 = (a5, b5, c5)) : ∀ (P : Program) (w : World), KDI P w K mg x f := fun P w => by
  obtain ⟨rfl, rfl, rfl⟩ := hh
  obtain ⟨f2, f3, f5⟩ := hf
  refine ⟨C, _, _, PySem.W.mg_of X G e, l, fun e he => ?_, fun i hi => ?_⟩
  · have hm : e = ⟨hashInt 2, .int 2 t2, .ref p2⟩ ∨ e = ⟨hashInt 3, .int 3 t3, .ref p3⟩ ∨ e = ⟨hashInt 5, .int 5 t5, .ref p5⟩ := by simpa using he
    rcases hm with rfl | rfl | rfl
    · exact ⟨2, rfl, rfl⟩
    · exact ⟨3, rfl, rfl⟩
    · exact ⟨5, rfl, rfl⟩
  · rcases hi with rfl | rfl | rfl
    · exact ⟨p2, rfl, fun H => by rw [f2]; exact .inr ⟨_, _, _, l2, rfl, rfl, by show 3 ≤ sizeLine; decide, .cons ⟨_, rfl⟩ (.cons ⟨_, rfl⟩ (.cons ⟨_, rfl⟩ .nil))⟩⟩
    · exact ⟨p3, rfl, fun H => by rw [f3]; exact .inr ⟨_, _, _, l3, rfl, rfl, by show 3 ≤ sizeLine; decide, .cons ⟨_, rfl⟩ (.cons ⟨_, rfl⟩ (.cons ⟨_, rfl⟩ .nil))⟩⟩
    · exact ⟨p5, rfl, fun H => by rw [f5]; exact .inr ⟨_, _, _, l5, rfl, rfl, by show 3 ≤ sizeLine; decide, .cons ⟨_, rfl⟩ (.cons ⟨_, rfl⟩ (.cons ⟨_, rfl⟩ .nil))⟩⟩

theorem dvs_ints {K : PySem.W.Frag} {o : Os} {H : Hp} : ∀ ns : List Int, DVs K o H (ns.map V.int) (ns.map Dat.int)
  | [] => DVs.nil
  | i :: ns => DVs.cons (.int i) (dvs_ints ns)

theorem law_all {P : Program} {w : World} {K : PySem.W.Frag} {mg : Str → Option Value} {base : Heap} (t_is_integer : Top K mg "is_integer" s_is_integer) (t_is_whole : Top K mg "is_whole" s_is_whole) (t_is_kind : Top K mg "is_kind" s_is_kind) (t_lowest : Top K mg "lowest" s_lowest) (t_pair_times : Top K mg "pair_times" s_pair_times) (t_pair_mate : Top K mg "pair_mate" s_pair_mate) (t_whole_sign : Top K mg "whole_sign" s_whole_sign) (t_whole_floor : Top K mg "whole_floor" s_whole_floor) (t_whole_ceiling : Top K mg "whole_ceiling" s_whole_ceiling) (t_number_less : Top K mg "number_less" s_number_less) (t_number_order : Top K mg "number_order" s_number_order) (t_is_number : Top K mg "is_number" s_is_number) (t_check_number : Top K mg "check_number" s_check_number) (t__above : Top K mg "_above" s__above) (t__below : Top K mg "_below" s__below) (t__by_mate : Top K mg "_by_mate" s__by_mate) (t_number_times : Top K mg "number_times" s_number_times) (t_stretch_times : Top K mg "stretch_times" s_stretch_times) (t_length_of : Top K mg "length_of" s_length_of) (t_mate_number : Top K mg "mate_number" s_mate_number) (t_is_mate_in : Top K mg "is_mate_in" s_is_mate_in) (t_is_row : Top K mg "is_row" s_is_row) (t_check_row : Top K mg "check_row" s_check_row) (t_is_member : Top K mg "is_member" s_is_member) (t__law_parts : Top K mg "_law_parts" s__law_parts) (t__law_sign : Top K mg "_law_sign" s__law_sign) (t__law_root : Top K mg "_law_root" s__law_root) (t__law_floor : Top K mg "_law_floor" s__law_floor) (t__law_form : Top K mg "_law_form" s__law_form) (t__law_plus : Top K mg "_law_plus" s__law_plus) (t__law_minus : Top K mg "_law_minus" s__law_minus) (t__law_under : Top K mg "_law_under" s__law_under) (t__law_mate : Top K mg "_law_mate" s__law_mate) (t__law_times : Top K mg "_law_times" s__law_times) (t__law_is_member : Top K mg "_law_is_member" s__law_is_member) (t__law_well : Top K mg "_law_well" s__law_well) (t__law_dip : Top K mg "_law_dip" s__law_dip) (t__law_same : Top K mg "_law_same" s__law_same) (t__factors_of_w : Top K mg "_factors_of_w" s__factors_of_w) (t_wholes_between : Top K mg "wholes_between" s_wholes_between) (t_scale_of : Top K mg "scale_of" s_scale_of) (t_members_between : Top K mg "members_between" s_members_between) (t_members : Top K mg "members" s_members) (t__law_by : Top K mg "_law_by" s__law_by) (t__law_whole_in : Top K mg "_law_whole_in" s__law_whole_in) (t__law_members : Top K mg "_law_members" s__law_members) (t__law_row : Top K mg "_law_row" s__law_row) (t__law_stretch : Top K mg "_law_stretch" s__law_stretch) (t__law_right : Top K mg "_law_right" s__law_right) (m_isinstance : mg "isinstance" = none) (m_int : mg "int" = none) (m_bool : mg "bool" = none) (m_tuple : mg "tuple" = none) (m_len : mg "len" = none) (m_abs : mg "abs" = none) (m_max : mg "max" = none) (m_str : mg "str" = none) (m_list : mg "list" = none) (m_range : mg "range" = none) (m_min : mg "min" = none) (m_sorted : mg "sorted" = none) (m_gcd : mg "gcd" = some (.builtin "math.gcd")) (m_isqrt : mg "isqrt" = some (.builtin "math.isqrt")) (t_KINDS : KT K mg "KINDS" [.int 2, .int 3, .int 5]) (t_STRETCH_UNITS : ∀ (P : Program) (w : World), KDI P w K mg "STRETCH_UNITS" suF) (t_FINE_windows : KI mg "FINE_windows" 96) (t_FINE_spacings : KI mg "FINE_spacings" 3)
    {f : Addr} {fd : FuncData} (FL : Fun K "law" "law" s_law f fd) : FnOk P w K mg base CX0 8 f fd ["script"] (spP K F_law) := by
  have c_is_integer : Cl P w K mg base 1 "is_integer" ["told"] (spP K F_is_integer) := t_is_integer.cl (fun _ _ _ _ _ _ us hl => match us, hl with | [_], _ => rfl) (fun f fd F => ok_is_integer F m_isinstance m_int m_bool)
  have c_is_whole : Cl P w K mg base 2 "is_whole" ["told"] (spP K F_is_whole) := t_is_whole.cl (fun _ _ _ _ _ _ us hl => match us, hl with | [_], _ => rfl) (fun f fd F => ok_is_whole F c_is_integer m_isinstance m_tuple m_len)
  have c_is_kind : Cl P w K mg base 2 "is_kind" ["told"] (spP K F_is_kind) := t_is_kind.cl (fun _ _ _ _ _ _ us hl => match us, hl with | [_], _ => rfl) (fun f fd F => ok_is_kind F c_is_integer t_KINDS)
  have c_lowest : Cl P w K mg base 1 "lowest" ["a", "b", "n"] (spP K F_lowest) := t_lowest.cl (fun _ _ _ _ _ _ us hl => match us, hl with | [_, _, _], _ => rfl) (fun f fd F => ok_lowest F m_gcd)
  have c_pair_times : Cl P w K mg base 1 "pair_times" ["kind", "p", "q"] (spP K F_pair_times) := t_pair_times.cl (fun _ _ _ _ _ _ us hl => match us, hl with | [_, _, _], _ => rfl) (fun f fd F => ok_pair_times F )
  have c_pair_mate : Cl P w K mg base 1 "pair_mate" ["kind", "p"] (spP K F_pair_mate) := t_pair_mate.cl (fun _ _ _ _ _ _ us hl => match us, hl with | [_, _], _ => rfl) (fun f fd F => ok_pair_mate F )
  have c_whole_sign : Cl P w K mg base 1 "whole_sign" ["kind", "a", "b"] (spP K F_whole_sign) := t_whole_sign.cl (fun _ _ _ _ _ _ us hl => match us, hl with | [_, _, _], _ => rfl) (fun f fd F => ok_whole_sign F )
  have c_whole_floor : Cl P w K mg base 1 "whole_floor" ["kind", "a", "b", "n"] (spP K F_whole_floor) := t_whole_floor.cl (fun _ _ _ _ _ _ us hl => match us, hl with | [_, _, _, _], _ => rfl) (fun f fd F => ok_whole_floor F m_isqrt)
  have c_whole_ceiling : Cl P w K mg base 2 "whole_ceiling" ["kind", "a", "b", "n"] (spP K F_whole_ceiling) := t_whole_ceiling.cl (fun _ _ _ _ _ _ us hl => match us, hl with | [_, _, _, _], _ => rfl) (fun f fd F => ok_whole_ceiling F c_whole_floor)
  have c_number_less : Cl P w K mg base 2 "number_less" ["p", "q"] (spP K F_number_less) := t_number_less.cl (fun _ _ _ _ _ _ us hl => match us, hl with | [_, _], _ => rfl) (fun f fd F => ok_number_less F c_lowest)
  have c_number_order : Cl P w K mg base 2 "number_order" ["kind", "p", "q"] (spP K F_number_order) := t_number_order.cl (fun _ _ _ _ _ _ us hl => match us, hl with | [_, _, _], _ => rfl) (fun f fd F => ok_number_order F c_whole_sign)
  have c_is_number : Cl P w K mg base 2 "is_number" ["told"] (spP K F_is_number) := t_is_number.cl (fun _ _ _ _ _ _ us hl => match us, hl with | [_], _ => rfl) (fun f fd F => ok_is_number F c_is_integer m_isinstance m_tuple m_len m_gcd)
  have c_check_number : Cl P w K mg base 3 "check_number" ["told"] (spP K F_check_number) := t_check_number.cl (fun _ _ _ _ _ _ us hl => match us, hl with | [_], _ => rfl) (fun f fd F => ok_check_number F c_is_number)
  have c__above : Cl P w K mg base 3 "_above" ["kind", "p", "back"] (spP K F__above) := t__above.cl (fun _ _ _ _ _ _ us hl => match us, hl with | [_, _, _], _ => rfl) (fun f fd F => ok__above F c_whole_ceiling)
  have c__below : Cl P w K mg base 2 "_below" ["kind", "p", "back"] (spP K F__below) := t__below.cl (fun _ _ _ _ _ _ us hl => match us, hl with | [_, _, _], _ => rfl) (fun f fd F => ok__below F c_whole_floor)
  have c__by_mate : Cl P w K mg base 2 "_by_mate" ["kind", "pair"] (spP K F__by_mate) := t__by_mate.cl (fun _ _ _ _ _ _ us hl => match us, hl with | [_, _], _ => rfl) (fun f fd F => ok__by_mate F c_pair_mate c_whole_floor t_FINE_windows)
  have c_number_times : Cl P w K mg base 2 "number_times" ["kind", "p", "pair"] (spP K F_number_times) := t_number_times.cl (fun _ _ _ _ _ _ us hl => match us, hl with | [_, _, _], _ => rfl) (fun f fd F => ok_number_times F c_pair_times c_lowest)
  have c_stretch_times : Cl P w K mg base 3 "stretch_times" ["kind", "stretch", "pair"] (spP K F_stretch_times) := t_stretch_times.cl (fun _ _ _ _ _ _ us hl => match us, hl with | [_, _, _], _ => rfl) (fun f fd F => ok_stretch_times F c_number_times)
  have c_length_of : Cl P w K mg base 3 "length_of" ["stretch"] (spP K F_length_of) := t_length_of.cl (fun _ _ _ _ _ _ us hl => match us, hl with | [_], _ => rfl) (fun f fd F => ok_length_of F c_number_less)
  have c_mate_number : Cl P w K mg base 2 "mate_number" ["kind", "pair"] (spP K F_mate_number) := t_mate_number.cl (fun _ _ _ _ _ _ us hl => match us, hl with | [_, _], _ => rfl) (fun f fd F => ok_mate_number F c_pair_mate)
  have c_is_mate_in : Cl P w K mg base 3 "is_mate_in" ["kind", "pair", "stretch"] (spP K F_is_mate_in) := t_is_mate_in.cl (fun _ _ _ _ _ _ us hl => match us, hl with | [_, _, _], _ => rfl) (fun f fd F => ok_is_mate_in F c_mate_number c_number_order)
  have c_is_row : Cl P w K mg base 3 "is_row" ["told"] (spP K F_is_row) := t_is_row.cl (fun _ _ _ _ _ _ us hl => match us, hl with | [_], _ => rfl) (fun f fd F => ok_is_row F c_is_kind c_is_number c_number_order m_isinstance m_tuple m_len)
  have c_check_row : Cl P w K mg base 4 "check_row" ["told"] (spP K F_check_row) := t_check_row.cl (fun _ _ _ _ _ _ us hl => match us, hl with | [_], _ => rfl) (fun f fd F => ok_check_row F c_is_row)
  have c_is_member : Cl P w K mg base 5 "is_member" ["row", "member"] (spP K F_is_member) := t_is_member.cl (fun _ _ _ _ _ _ us hl => match us, hl with | [_, _], _ => rfl) (fun f fd F => ok_is_member F c_check_row c_is_whole c_is_mate_in)
  have ck_is_member : ClK P w K mg base 5 "is_member" ["row", "member"] ["member", "row"] [1, 0] (spP K F_is_member) := t_is_member.clK [1, 0] (by decide) (fun _ _ _ _ _ _ ws hl => match ws, hl with | [_, _], _ => rfl) (fun f fd F => ok_is_member F c_check_row c_is_whole c_is_mate_in)
  have c__law_parts : Cl P w K mg base 1 "_law_parts" ["kind", "p"] (spP K F__law_parts) := t__law_parts.cl (fun _ _ _ _ _ _ us hl => match us, hl with | [_, _], _ => rfl) (fun f fd F => ok__law_parts F )
  have c__law_sign : Cl P w K mg base 2 "_law_sign" ["kind", "p"] (spP K F__law_sign) := t__law_sign.cl (fun _ _ _ _ _ _ us hl => match us, hl with | [_, _], _ => rfl) (fun f fd F => ok__law_sign F c__law_parts m_int)
  have c__law_root : Cl P w K mg base 1 "_law_root" ["number"] (spP K F__law_root) := t__law_root.cl (fun _ _ _ _ _ _ us hl => match us, hl with | [_], _ => rfl) (fun f fd F => ok__law_root F )
  have c__law_floor : Cl P w K mg base 2 "_law_floor" ["kind", "p"] (spP K F__law_floor) := t__law_floor.cl (fun _ _ _ _ _ _ us hl => match us, hl with | [_, _], _ => rfl) (fun f fd F => ok__law_floor F c__law_parts c__law_root)
  have c__law_form : Cl P w K mg base 1 "_law_form" ["a", "b", "n"] (spP K F__law_form) := t__law_form.cl (fun _ _ _ _ _ _ us hl => match us, hl with | [_, _, _], _ => rfl) (fun f fd F => ok__law_form F m_abs m_int)
  have c__law_plus : Cl P w K mg base 2 "_law_plus" ["p", "q"] (spP K F__law_plus) := t__law_plus.cl (fun _ _ _ _ _ _ us hl => match us, hl with | [_, _], _ => rfl) (fun f fd F => ok__law_plus F c__law_form)
  have c__law_minus : Cl P w K mg base 3 "_law_minus" ["p", "q"] (spP K F__law_minus) := t__law_minus.cl (fun _ _ _ _ _ _ us hl => match us, hl with | [_, _], _ => rfl) (fun f fd F => ok__law_minus F c__law_plus)
  have c__law_under : Cl P w K mg base 4 "_law_under" ["kind", "p", "q"] (spP K F__law_under) := t__law_under.cl (fun _ _ _ _ _ _ us hl => match us, hl with | [_, _, _], _ => rfl) (fun f fd F => ok__law_under F c__law_sign c__law_minus)
  have c__law_mate : Cl P w K mg base 1 "_law_mate" ["kind", "p"] (spP K F__law_mate) := t__law_mate.cl (fun _ _ _ _ _ _ us hl => match us, hl with | [_, _], _ => rfl) (fun f fd F => ok__law_mate F )
  have c__law_times : Cl P w K mg base 2 "_law_times" ["kind", "p", "q"] (spP K F__law_times) := t__law_times.cl (fun _ _ _ _ _ _ us hl => match us, hl with | [_, _, _], _ => rfl) (fun f fd F => ok__law_times F c__law_form m_int)
  have c__law_is_member : Cl P w K mg base 5 "_law_is_member" ["row", "z"] (spP K F__law_is_member) := t__law_is_member.cl (fun _ _ _ _ _ _ us hl => match us, hl with | [_, _], _ => rfl) (fun f fd F => ok__law_is_member F c__law_mate c__law_under)
  have c__law_well : Cl P w K mg base 1 "_law_well" ["script", "place"] (spN K F__law_well) := t__law_well.cl (fun _ _ _ _ _ _ us hl => match us, hl with | [_, _], _ => rfl) (fun f fd F => ok__law_well F m_len m_max m_abs m_int)
  have c__law_dip : Cl P w K mg base 1 "_law_dip" ["well", "many"] (spD K F__law_dip) := t__law_dip.cl (fun _ _ _ _ _ _ us hl => match us, hl with | [_, _], _ => rfl) (fun f fd F => ok__law_dip F m_int)
  have c__law_same : Cl P w K mg base 3 "_law_same" ["told", "due"] (spP K (F__law_same 2)) := by
    obtain ⟨f, fd, hm, F⟩ := t__law_same.ex
    have hb : Binds K fd ["told", "due"] [] := F.binds (fun _ _ _ _ _ _ us hl => match us, hl with | [_, _], _ => rfl)
    exact ⟨f, fd, hm, F.kp, hb, ok__law_same F hm F.kp hb m_isinstance m_bool m_int m_str m_tuple m_list m_len m_range 2⟩
  have c__factors_of_w : Cl P w K mg base 3 "_factors_of_w" ["kind", "span", "mates"] (spP K F__factors_of_w) := t__factors_of_w.cl (fun _ _ _ _ _ _ us hl => match us, hl with | [_, _, _], _ => rfl) (fun f fd F => ok__factors_of_w F c_number_less c_pair_times c_whole_ceiling c_whole_floor)
  have c_wholes_between : Cl P w K mg base 4 "wholes_between" ["kind", "span", "mates"] (spN K F_wholes_between) := t_wholes_between.cl (fun _ _ _ _ _ _ us hl => match us, hl with | [_, _, _], _ => rfl) (fun f fd F => ok_wholes_between F c__factors_of_w c_pair_mate c__above c__below c__by_mate m_range m_max m_min m_sorted)
  have c_scale_of : Cl P w K mg base 3 "scale_of" ["kind", "length"] (spP K F_scale_of) := t_scale_of.cl (fun _ _ _ _ _ _ us hl => match us, hl with | [_, _], _ => rfl) (fun f fd F => ok_scale_of F c_pair_mate c_number_order c_pair_times c_number_times (t_STRETCH_UNITS P w))
  have c_members_between : Cl P w K mg base 5 "members_between" ["kind", "stretch", "span"] (spN K F_members_between) := t_members_between.cl (fun _ _ _ _ _ _ us hl => match us, hl with | [_, _, _], _ => rfl) (fun f fd F => ok_members_between F c_scale_of c_length_of c_stretch_times c_pair_mate c_wholes_between c_number_order c_mate_number c_whole_floor c_pair_times m_sorted t_FINE_spacings)
  have c_members : Cl P w K mg base 6 "members" ["row", "left", "right"] (spN K F_members) := t_members.cl (fun _ _ _ _ _ _ us hl => match us, hl with | [_, _, _], _ => rfl) (fun f fd F => ok_members F c_check_row c_check_number c_number_order c_members_between)
  have ck_members : ClK P w K mg base 6 "members" ["row", "left", "right"] ["right", "left", "row"] [2, 1, 0] (spN K F_members) := t_members.clK [2, 1, 0] (by decide) (fun _ _ _ _ _ _ ws hl => match ws, hl with | [_, _, _], _ => rfl) (fun f fd F => ok_members F c_check_row c_check_number c_number_order c_members_between)
  have c__law_by : Cl P w K mg base 3 "_law_by" ["kind", "p", "q"] (spP K F__law_by) := t__law_by.cl (fun _ _ _ _ _ _ us hl => match us, hl with | [_, _, _], _ => rfl) (fun f fd F => ok__law_by F c__law_mate c__law_times c__law_form m_abs)
  have c__law_whole_in : Cl P w K mg base 4 "_law_whole_in" ["kind", "low", "high", "b"] (spN K F__law_whole_in) := t__law_whole_in.cl (fun _ _ _ _ _ _ us hl => match us, hl with | [_, _, _, _], _ => rfl) (fun f fd F => ok__law_whole_in F c__law_mate c__law_floor c__law_minus c__law_plus m_list m_range)
  have c__law_members : Cl P w K mg base 5 "_law_members" ["row", "left", "right"] (spN K F__law_members) := t__law_members.cl (fun _ _ _ _ _ _ us hl => match us, hl with | [_, _, _], _ => rfl) (fun f fd F => ok__law_members F c__law_minus c__law_mate c__law_floor c__law_by c__law_whole_in c__law_under m_range m_len)
  have c__law_row : Cl P w K mg base 5 "_law_row" ["well"] (spD K F__law_row) := t__law_row.cl (fun _ _ _ _ _ _ us hl => match us, hl with | [_], _ => rfl) (fun f fd F => ok__law_row F c__law_dip c__law_form c__law_plus c__law_under c__law_minus m_range)
  have c__law_stretch : Cl P w K mg base 6 "_law_stretch" ["well", "row"] (spD K F__law_stretch) := t__law_stretch.cl (fun _ _ _ _ _ _ us hl => match us, hl with | [_, _], _ => rfl) (fun f fd F => ok__law_stretch F c__law_dip c__law_form c__law_plus c__law_under c__law_minus c__law_members m_len)
  have c__law_right : Cl P w K mg base 7 "_law_right" ["row", "left", "right", "named"] (spP K F__law_right) := t__law_right.cl (fun _ _ _ _ _ _ us hl => match us, hl with | [_, _, _, _], _ => rfl) (fun f fd F => ok__law_right F c__law_members c_members c__law_same c_is_member c__law_is_member ck_members ck_is_member)
  exact ok_law FL c__law_well c__law_row c__law_stretch c__law_right m_range m_max m_min m_len
theorem law_pre {K : PySem.W.Frag} {H : Hp} {a : Addr} {ns : List Int} (hl : ns.length ≤ 63) (hS : SqL K H a (ns.map V.int)) : spP K F_law [.ref a] H (fun v _ => v = .bl true) (fun _ _ _ => False) :=
  ⟨[.lst (ns.map Dat.int)], fun d => d = .bl true, DTs.cons (.v (.lstS (LS.of hS) (dvs_ints ns))) DTs.nil, ⟨ns, rfl, hl, rfl⟩, fun d hd v H' _ h => by cases hd; cases h; rfl⟩
theorem law_done {P : Program} {w : World} {K : PySem.W.Frag} {h : Heap} {mg : Str → Option Value} {fa f : Addr} (X : K.In h) (G : h.Ns mainGlobals mg) (hfa : mg "law" = some (.ref fa))
    (t_is_integer : Top K mg "is_integer" s_is_integer) (t_is_whole : Top K mg "is_whole" s_is_whole) (t_is_kind : Top K mg "is_kind" s_is_kind) (t_lowest : Top K mg "lowest" s_lowest) (t_pair_times : Top K mg "pair_times" s_pair_times) (t_pair_mate : Top K mg "pair_mate" s_pair_mate) (t_whole_sign : Top K mg "whole_sign" s_whole_sign) (t_whole_floor : Top K mg "whole_floor" s_whole_floor) (t_whole_ceiling : Top K mg "whole_ceiling" s_whole_ceiling) (t_number_less : Top K mg "number_less" s_number_less) (t_number_order : Top K mg "number_order" s_number_order) (t_is_number : Top K mg "is_number" s_is_number) (t_check_number : Top K mg "check_number" s_check_number) (t__above : Top K mg "_above" s__above) (t__below : Top K mg "_below" s__below) (t__by_mate : Top K mg "_by_mate" s__by_mate) (t_number_times : Top K mg "number_times" s_number_times) (t_stretch_times : Top K mg "stretch_times" s_stretch_times) (t_length_of : Top K mg "length_of" s_length_of) (t_mate_number : Top K mg "mate_number" s_mate_number) (t_is_mate_in : Top K mg "is_mate_in" s_is_mate_in) (t_is_row : Top K mg "is_row" s_is_row) (t_check_row : Top K mg "check_row" s_check_row) (t_is_member : Top K mg "is_member" s_is_member) (t__law_parts : Top K mg "_law_parts" s__law_parts) (t__law_sign : Top K mg "_law_sign" s__law_sign) (t__law_root : Top K mg "_law_root" s__law_root) (t__law_floor : Top K mg "_law_floor" s__law_floor) (t__law_form : Top K mg "_law_form" s__law_form) (t__law_plus : Top K mg "_law_plus" s__law_plus) (t__law_minus : Top K mg "_law_minus" s__law_minus) (t__law_under : Top K mg "_law_under" s__law_under) (t__law_mate : Top K mg "_law_mate" s__law_mate) (t__law_times : Top K mg "_law_times" s__law_times) (t__law_is_member : Top K mg "_law_is_member" s__law_is_member) (t__law_well : Top K mg "_law_well" s__law_well) (t__law_dip : Top K mg "_law_dip" s__law_dip) (t__law_same : Top K mg "_law_same" s__law_same) (t__factors_of_w : Top K mg "_factors_of_w" s__factors_of_w) (t_wholes_between : Top K mg "wholes_between" s_wholes_between) (t_scale_of : Top K mg "scale_of" s_scale_of) (t_members_between : Top K mg "members_between" s_members_between) (t_members : Top K mg "members" s_members) (t__law_by : Top K mg "_law_by" s__law_by) (t__law_whole_in : Top K mg "_law_whole_in" s__law_whole_in) (t__law_members : Top K mg "_law_members" s__law_members) (t__law_row : Top K mg "_law_row" s__law_row) (t__law_stretch : Top K mg "_law_stretch" s__law_stretch) (t__law_right : Top K mg "_law_right" s__law_right) (m_isinstance : mg "isinstance" = none) (m_int : mg "int" = none) (m_bool : mg "bool" = none) (m_tuple : mg "tuple" = none) (m_len : mg "len" = none) (m_abs : mg "abs" = none) (m_max : mg "max" = none) (m_str : mg "str" = none) (m_list : mg "list" = none) (m_range : mg "range" = none) (m_min : mg "min" = none) (m_sorted : mg "sorted" = none) (m_gcd : mg "gcd" = some (.builtin "math.gcd")) (m_isqrt : mg "isqrt" = some (.builtin "math.isqrt")) (t_KINDS : KT K mg "KINDS" [.int 2, .int 3, .int 5]) (t_STRETCH_UNITS : ∀ (P : Program) (w : World), KDI P w K mg "STRETCH_UNITS" suF) (t_FINE_windows : KI mg "FINE_windows" 96) (t_FINE_spacings : KI mg "FINE_spacings" 3)
    {oc : Value} {od an : Option Addr} {osl : Array (Option Value)} {kV doc pm cdv ct : Value}
    (a : PySem.W.nsIn K mainGlobals "law" = some (some (.ref f))) (l : K.lookup f = some ⟨oc, od, .func (PySem.W.fnOf "law" "law" (defArgs s_law) (defBody s_law) (defScope s_law) .none kV doc pm an cdv ct), osl⟩) (c : PySem.W.codeIn K cdv "law" = true) (k : PySem.W.keepIn K (.ref f) = true) :
    ∃ fd : FuncData, (∀ (s : Shared) (v : Value), BindsTo s fd ⟨[v], []⟩ [("script", v)]) ∧ ∀ base : Heap, K.In base → base.Ns mainGlobals mg → FnOk P w K mg base CX0 8 fa fd ["script"] (spP K F_law) := by
  have e := hfa.symm.trans (PySem.W.mg_of X G a)
  cases e
  exact ⟨_, fun s v => .of_eq rfl, fun base _ _ => law_all t_is_integer t_is_whole t_is_kind t_lowest t_pair_times t_pair_mate t_whole_sign t_whole_floor t_whole_ceiling t_number_less t_number_order t_is_number t_check_number t__above t__below t__by_mate t_number_times t_stretch_times t_length_of t_mate_number t_is_mate_in t_is_row t_check_row t_is_member t__law_parts t__law_sign t__law_root t__law_floor t__law_form t__law_plus t__law_minus t__law_under t__law_mate t__law_times t__law_is_member t__law_well t__law_dip t__law_same t__factors_of_w t_wholes_between t_scale_of t_members_between t_members t__law_by t__law_whole_in t__law_members t__law_row t__law_stretch t__law_right m_isinstance m_int m_bool m_tuple m_len m_abs m_max m_str m_list m_range m_min m_sorted m_gcd m_isqrt t_KINDS t_STRETCH_UNITS t_FINE_windows t_FINE_spacings (fun_mk (st := s_law) l c k)⟩
end Y37
set_option Elab.async false
set_option linter.all false
open PySem PySem.W PyProof.Rows
set_option maxRecDepth 100000 in
set_option maxHeartbeats 0 in
theorem PySem.Challenge.cw_wholefloors_k37_whole_members_by_boxes_holds : PySem.Challenge.rw_wholefloors_k37_whole_members_by_boxes.Holds := by
  w_on; o_law; k_head; (case hw => w_witness2)
  k_fill
  refine L2.walk_ofK (l := PySem.Challenge.rw_wholefloors_k37_whole_members_by_boxes) (n := 63) (k := 8) (x := "script") (CX := L2.CX0) (sp := fun K => Wz.spP K Y37.F_law) rfl (by decide) rfl ⟨rfl, by decide, by decide⟩ (fun w h Y => PySem.W.kIn_of Y) ?F (fun K H a ns hl _ hS => Y37.law_pre hl hS) (fun _ _ _ _ h => h)
  case F =>
    intro w mg fa h KX G hmg
    have t_is_integer := by
      refine' Y37.top_mk (x := "is_integer") (st := Y37.s_is_integer) KX G ?a ?l ?c ?k
      (case a => k_is); (case l => k_is); (case c => k_is); (case k => k_is)
    have t_is_whole := by
      refine' Y37.top_mk (x := "is_whole") (st := Y37.s_is_whole) KX G ?a ?l ?c ?k
      (case a => k_is); (case l => k_is); (case c => k_is); (case k => k_is)
    have t_is_kind := by
      refine' Y37.top_mk (x := "is_kind") (st := Y37.s_is_kind) KX G ?a ?l ?c ?k
      (case a => k_is); (case l => k_is); (case c => k_is); (case k => k_is)
    have t_lowest := by
      refine' Y37.top_mk (x := "lowest") (st := Y37.s_lowest) KX G ?a ?l ?c ?k
      (case a => k_is); (case l => k_is); (case c => k_is); (case k => k_is)
    have t_pair_times := by
      refine' Y37.top_mk (x := "pair_times") (st := Y37.s_pair_times) KX G ?a ?l ?c ?k
      (case a => k_is); (case l => k_is); (case c => k_is); (case k => k_is)
    have t_pair_mate := by
      refine' Y37.top_mk (x := "pair_mate") (st := Y37.s_pair_mate) KX G ?a ?l ?c ?k
      (case a => k_is); (case l => k_is); (case c => k_is); (case k => k_is)
    have t_whole_sign := by
      refine' Y37.top_mk (x := "whole_sign") (st := Y37.s_whole_sign) KX G ?a ?l ?c ?k
      (case a => k_is); (case l => k_is); (case c => k_is); (case k => k_is)
    have t_whole_floor := by
      refine' Y37.top_mk (x := "whole_floor") (st := Y37.s_whole_floor) KX G ?a ?l ?c ?k
      (case a => k_is); (case l => k_is); (case c => k_is); (case k => k_is)
    have t_whole_ceiling := by
      refine' Y37.top_mk (x := "whole_ceiling") (st := Y37.s_whole_ceiling) KX G ?a ?l ?c ?k
      (case a => k_is); (case l => k_is); (case c => k_is); (case k => k_is)
    have t_number_less := by
      refine' Y37.top_mk (x := "number_less") (st := Y37.s_number_less) KX G ?a ?l ?c ?k
      (case a => k_is); (case l => k_is); (case c => k_is); (case k => k_is)
    have t_number_order := by
      refine' Y37.top_mk (x := "number_order") (st := Y37.s_number_order) KX G ?a ?l ?c ?k
      (case a => k_is); (case l => k_is); (case c => k_is); (case k => k_is)
    have t_is_number := by
      refine' Y37.top_mk (x := "is_number") (st := Y37.s_is_number) KX G ?a ?l ?c ?k
      (case a => k_is); (case l => k_is); (case c => k_is); (case k => k_is)
    have t_check_number := by
      refine' Y37.top_mk (x := "check_number") (st := Y37.s_check_number) KX G ?a ?l ?c ?k
      (case a => k_is); (case l => k_is); (case c => k_is); (case k => k_is)
    have t__above := by
      refine' Y37.top_mk (x := "_above") (st := Y37.s__above) KX G ?a ?l ?c ?k
      (case a => k_is); (case l => k_is); (case c => k_is); (case k => k_is)
    have t__below := by
      refine' Y37.top_mk (x := "_below") (st := Y37.s__below) KX G ?a ?l ?c ?k
      (case a => k_is); (case l => k_is); (case c => k_is); (case k => k_is)
    have t__by_mate := by
      refine' Y37.top_mk (x := "_by_mate") (st := Y37.s__by_mate) KX G ?a ?l ?c ?k
      (case a => k_is); (case l => k_is); (case c => k_is); (case k => k_is)
    have t_number_times := by
      refine' Y37.top_mk (x := "number_times") (st := Y37.s_number_times) KX G ?a ?l ?c ?k
      (case a => k_is); (case l => k_is); (case c => k_is); (case k => k_is)
    have t_stretch_times := by
      refine' Y37.top_mk (x := "stretch_times") (st := Y37.s_stretch_times) KX G ?a ?l ?c ?k
      (case a => k_is); (case l => k_is); (case c => k_is); (case k => k_is)
    have t_length_of := by
      refine' Y37.top_mk (x := "length_of") (st := Y37.s_length_of) KX G ?a ?l ?c ?k
      (case a => k_is); (case l => k_is); (case c => k_is); (case k => k_is)
    have t_mate_number := by
      refine' Y37.top_mk (x := "mate_number") (st := Y37.s_mate_number) KX G ?a ?l ?c ?k
      (case a => k_is); (case l => k_is); (case c => k_is); (case k => k_is)
    have t_is_mate_in := by
      refine' Y37.top_mk (x := "is_mate_in") (st := Y37.s_is_mate_in) KX G ?a ?l ?c ?k
      (case a => k_is); (case l => k_is); (case c => k_is); (case k => k_is)
    have t_is_row := by
      refine' Y37.top_mk (x := "is_row") (st := Y37.s_is_row) KX G ?a ?l ?c ?k
      (case a => k_is); (case l => k_is); (case c => k_is); (case k => k_is)
    have t_check_row := by
      refine' Y37.top_mk (x := "check_row") (st := Y37.s_check_row) KX G ?a ?l ?c ?k
      (case a => k_is); (case l => k_is); (case c => k_is); (case k => k_is)
    have t_is_member := by
      refine' Y37.top_mk (x := "is_member") (st := Y37.s_is_member) KX G ?a ?l ?c ?k
      (case a => k_is); (case l => k_is); (case c => k_is); (case k => k_is)
    have t__law_parts := by
      refine' Y37.top_mk (x := "_law_parts") (st := Y37.s__law_parts) KX G ?a ?l ?c ?k
      (case a => k_is); (case l => k_is); (case c => k_is); (case k => k_is)
    have t__law_sign := by
      refine' Y37.top_mk (x := "_law_sign") (st := Y37.s__law_sign) KX G ?a ?l ?c ?k
      (case a => k_is); (case l => k_is); (case c => k_is); (case k => k_is)
    have t__law_root := by
      refine' Y37.top_mk (x := "_law_root") (st := Y37.s__law_root) KX G ?a ?l ?c ?k
      (case a => k_is); (case l => k_is); (case c => k_is); (case k => k_is)
    have t__law_floor := by
      refine' Y37.top_mk (x := "_law_floor") (st := Y37.s__law_floor) KX G ?a ?l ?c ?k
      (case a => k_is); (case l => k_is); (case c => k_is); (case k => k_is)
    have t__law_form := by
      refine' Y37.top_mk (x := "_law_form") (st := Y37.s__law_form) KX G ?a ?l ?c ?k
      (case a => k_is); (case l => k_is); (case c => k_is); (case k => k_is)
    have t__law_plus := by
      refine' Y37.top_mk (x := "_law_plus") (st := Y37.s__law_plus) KX G ?a ?l ?c ?k
      (case a => k_is); (case l => k_is); (case c => k_is); (case k => k_is)
    have t__law_minus := by
      refine' Y37.top_mk (x := "_law_minus") (st := Y37.s__law_minus) KX G ?a ?l ?c ?k
      (case a => k_is); (case l => k_is); (case c => k_is); (case k => k_is)
    have t__law_under := by
      refine' Y37.top_mk (x := "_law_under") (st := Y37.s__law_under) KX G ?a ?l ?c ?k
      (case a => k_is); (case l => k_is); (case c => k_is); (case k => k_is)
    have t__law_mate := by
      refine' Y37.top_mk (x := "_law_mate") (st := Y37.s__law_mate) KX G ?a ?l ?c ?k
      (case a => k_is); (case l => k_is); (case c => k_is); (case k => k_is)
    have t__law_times := by
      refine' Y37.top_mk (x := "_law_times") (st := Y37.s__law_times) KX G ?a ?l ?c ?k
      (case a => k_is); (case l => k_is); (case c => k_is); (case k => k_is)
    have t__law_is_member := by
      refine' Y37.top_mk (x := "_law_is_member") (st := Y37.s__law_is_member) KX G ?a ?l ?c ?k
      (case a => k_is); (case l => k_is); (case c => k_is); (case k => k_is)
    have t__law_well := by
      refine' Y37.top_mk (x := "_law_well") (st := Y37.s__law_well) KX G ?a ?l ?c ?k
      (case a => k_is); (case l => k_is); (case c => k_is); (case k => k_is)
    have t__law_dip := by
      refine' Y37.top_mk (x := "_law_dip") (st := Y37.s__law_dip) KX G ?a ?l ?c ?k
      (case a => k_is); (case l => k_is); (case c => k_is); (case k => k_is)
    have t__law_same := by
      refine' Y37.top_mk (x := "_law_same") (st := Y37.s__law_same) KX G ?a ?l ?c ?k
      (case a => k_is); (case l => k_is); (case c => k_is); (case k => k_is)
    have t__factors_of_w := by
      refine' Y37.top_mk (x := "_factors_of_w") (st := Y37.s__factors_of_w) KX G ?a ?l ?c ?k
      (case a => k_is); (case l => k_is); (case c => k_is); (case k => k_is)
    have t_wholes_between := by
      refine' Y37.top_mk (x := "wholes_between") (st := Y37.s_wholes_between) KX G ?a ?l ?c ?k
      (case a => k_is); (case l => k_is); (case c => k_is); (case k => k_is)
    have t_scale_of := by
      refine' Y37.top_mk (x := "scale_of") (st := Y37.s_scale_of) KX G ?a ?l ?c ?k
      (case a => k_is); (case l => k_is); (case c => k_is); (case k => k_is)
    have t_members_between := by
      refine' Y37.top_mk (x := "members_between") (st := Y37.s_members_between) KX G ?a ?l ?c ?k
      (case a => k_is); (case l => k_is); (case c => k_is); (case k => k_is)
    have t_members := by
      refine' Y37.top_mk (x := "members") (st := Y37.s_members) KX G ?a ?l ?c ?k
      (case a => k_is); (case l => k_is); (case c => k_is); (case k => k_is)
    have t__law_by := by
      refine' Y37.top_mk (x := "_law_by") (st := Y37.s__law_by) KX G ?a ?l ?c ?k
      (case a => k_is); (case l => k_is); (case c => k_is); (case k => k_is)
    have t__law_whole_in := by
      refine' Y37.top_mk (x := "_law_whole_in") (st := Y37.s__law_whole_in) KX G ?a ?l ?c ?k
      (case a => k_is); (case l => k_is); (case c => k_is); (case k => k_is)
    have t__law_members := by
      refine' Y37.top_mk (x := "_law_members") (st := Y37.s__law_members) KX G ?a ?l ?c ?k
      (case a => k_is); (case l => k_is); (case c => k_is); (case k => k_is)
    have t__law_row := by
      refine' Y37.top_mk (x := "_law_row") (st := Y37.s__law_row) KX G ?a ?l ?c ?k
      (case a => k_is); (case l => k_is); (case c => k_is); (case k => k_is)
    have t__law_stretch := by
      refine' Y37.top_mk (x := "_law_stretch") (st := Y37.s__law_stretch) KX G ?a ?l ?c ?k
      (case a => k_is); (case l => k_is); (case c => k_is); (case k => k_is)
    have t__law_right := by
      refine' Y37.top_mk (x := "_law_right") (st := Y37.s__law_right) KX G ?a ?l ?c ?k
      (case a => k_is); (case l => k_is); (case c => k_is); (case k => k_is)
    have m_isinstance := by
      refine' PySem.W.mg_none_of (n := "isinstance") KX G ?a
      (case a => k_is)
    have m_int := by
      refine' PySem.W.mg_none_of (n := "int") KX G ?a
      (case a => k_is)
    have m_bool := by
      refine' PySem.W.mg_none_of (n := "bool") KX G ?a
      (case a => k_is)
    have m_tuple := by
      refine' PySem.W.mg_none_of (n := "tuple") KX G ?a
      (case a => k_is)
    have m_len := by
      refine' PySem.W.mg_none_of (n := "len") KX G ?a
      (case a => k_is)
    have m_abs := by
      refine' PySem.W.mg_none_of (n := "abs") KX G ?a
      (case a => k_is)
    have m_max := by
      refine' PySem.W.mg_none_of (n := "max") KX G ?a
      (case a => k_is)
    have m_str := by
      refine' PySem.W.mg_none_of (n := "str") KX G ?a
      (case a => k_is)
    have m_list := by
      refine' PySem.W.mg_none_of (n := "list") KX G ?a
      (case a => k_is)
    have m_range := by
      refine' PySem.W.mg_none_of (n := "range") KX G ?a
      (case a => k_is)
    have m_min := by
      refine' PySem.W.mg_none_of (n := "min") KX G ?a
      (case a => k_is)
    have m_sorted := by
      refine' PySem.W.mg_none_of (n := "sorted") KX G ?a
      (case a => k_is)
    have m_gcd := by
      refine' PySem.W.mg_of (n := "gcd") (v := .builtin "math.gcd") KX G ?a
      (case a => k_is)
    have m_isqrt := by
      refine' PySem.W.mg_of (n := "isqrt") (v := .builtin "math.isqrt") KX G ?a
      (case a => k_is)
    have t_KINDS := by
      refine' Y37.kt_mk (x := "KINDS") KX G ?a ?l
      (case a => k_is); (case l => k_is)
    have t_STRETCH_UNITS := by
      refine' Y37.kdi_mk (x := "STRETCH_UNITS") (f := Y37.suF) KX G ?a ?l ?l2 ?l3 ?l5 ?hh ?hf
      (case a => k_is); (case l => k_is); (case l2 => k_is); (case l3 => k_is); (case l5 => k_is); (case hh => exact ⟨rfl, rfl, rfl⟩); (case hf => exact ⟨rfl, rfl, rfl⟩)
    have t_FINE_windows := by
      refine' Y37.ki_mk (x := "FINE_windows") (n := 96) KX G ?a
      (case a => k_is)
    have t_FINE_spacings := by
      refine' Y37.ki_mk (x := "FINE_spacings") (n := 3) KX G ?a
      (case a => k_is)
    refine' Y37.law_done KX G hmg t_is_integer t_is_whole t_is_kind t_lowest t_pair_times t_pair_mate t_whole_sign t_whole_floor t_whole_ceiling t_number_less t_number_order t_is_number t_check_number t__above t__below t__by_mate t_number_times t_stretch_times t_length_of t_mate_number t_is_mate_in t_is_row t_check_row t_is_member t__law_parts t__law_sign t__law_root t__law_floor t__law_form t__law_plus t__law_minus t__law_under t__law_mate t__law_times t__law_is_member t__law_well t__law_dip t__law_same t__factors_of_w t_wholes_between t_scale_of t_members_between t_members t__law_by t__law_whole_in t__law_members t__law_row t__law_stretch t__law_right m_isinstance m_int m_bool m_tuple m_len m_abs m_max m_str m_list m_range m_min m_sorted m_gcd m_isqrt t_KINDS t_STRETCH_UNITS t_FINE_windows t_FINE_spacings ?a ?l2 ?c2 ?k2
    (case a => k_is); (case l2 => k_is); (case c2 => k_is); (case k2 => k_is)

