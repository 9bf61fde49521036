import PyProof.Rows.All
import Wide.All
import OpenK.AllK
import Wide.FinOn
import HandS.ForMost
import HandS.Exc
import HandS.ForExc
import KE.KIsAll
import KE.KTryMore
import HandS.ExcInit
import HandS.ExcField
import HandS.ExcIs
import HandS.IsInst
import HandS.Gcd
import HandS.TupAny
import HandS.TupMul
import HandS.Zip
import HandS.Flow
import HandS.CallSlots
import HandS.TryOnly
import HandS.Wide
import HandS.RaiseMore
import PyProof.CallFns
import KE.GoesEnum
import KE.GoesMore
import PyProof.EnumMake
import KE.Datum
import KE.DatumOrd
import PyProof.StrOps2
import PyProof.Rows.RowBridgeK
import PySem.Challenge.RW_stillhad_k00_kinds_and_first_faults
import KE.KEqSeq
import PyProof.ReprLen
import PyProof.FitsInt
set_option Elab.async false
set_option linter.all false
set_option maxRecDepth 100000
set_option maxHeartbeats 4000000
/-! DE: denotations over the hand layer: plain data, a store of lists that change, results. -/
namespace DE
open PySem PySem.Spec L2
open PyProof.Rows hiding St

/-- data: ref n is the n-th list of the store, which may change; lst never does, nor fr, the law's own argument; ty: a built-in class -/
inductive D where
  | non | bl (b : Bool) | int (i : Int) | str (x : Str) | ty (n : String) | tup (ds : List D) | lst (ds : List D) | fr (ds : List D) | ref (n : Nat) | exo (cls : Str) (ks : List Str) (ds : List D)

abbrev Sto := List (List D)
abbrev Rho := List (Option D)
structure Ex where
  cls : Str
  ks : List Str
  ds : List D
/-- the exception that is being handled: its address, its class, its own dict -/
abbrev XC := Option (Addr × Value × Option Addr)
structure Gd where
  K : PySem.W.Frag
  mg : Str → Option Value
  xc : XC
inductive Res (α : Type) where
  | ok (a : α) (S : Sto)
  | ex (x : Ex) (S : Sto)
  | bad

/-- the law's own argument: locked, or an object of the written part -/
def FrL (K : PySem.W.Frag) (H : Hp) (a : Addr) (vs : List V) : Prop := (∃ o, H a = some (.frz o (.lst vs))) ∨
  ∃ (o : Obj) (its : Array Value) (n : Nat), K.lookup a = some o ∧ o.cls = .type "list" ∧ o.dict = none ∧ o.data = .seq its n ∧ its.size ≤ sizeLine ∧ Vals vs its.toList
theorem FrL.sql {K : PySem.W.Frag} {H : Hp} {a : Addr} {vs : List V} (h : FrL K H a vs) : SqL K H a vs := h.elim (fun ⟨o, z⟩ => .inl (.inr ⟨o, z⟩)) .inr
mutual
def RV (G : Gd) (β : List Addr) (H : Hp) : D → V → Prop
  | .non, v => v = .non
  | .bl b, v => v = .bl b
  | .int i, v => v = .int i
  | .str x, v => v = .str x
  | .tup ds, v => ∃ a vs, v = .ref a ∧ SqT G.K H a vs ∧ RVs G β H ds vs
  | .ty n, v => v = .ty n
  | .lst ds, v => ∃ a vs, v = .ref a ∧ a ∉ β ∧ H a = some (.lst vs) ∧ RVs G β H ds vs
  | .fr ds, v => ∃ a vs, v = .ref a ∧ FrL G.K H a vs ∧ RVs G β H ds vs
  | .ref n, v => ∃ a, v = .ref a ∧ β[n]? = some a
  | .exo cls ks ds, v => ∃ a cv C dd gs vs, G.xc = some (a, cv, some dd) ∧ v = .ref a ∧ cv = .ref C ∧ G.mg cls = some (.ref C) ∧ H dd = some (.xd gs) ∧ RVs G β H ds vs ∧ ∀ (i : Nat) (f : Str), ks[i]? = some f → gs.lookup f = vs[i]?
def RVs (G : Gd) (β : List Addr) (H : Hp) : List D → List V → Prop
  | [], vs => vs = []
  | d :: ds, vs => ∃ v r, vs = v :: r ∧ RV G β H d v ∧ RVs G β H ds r
end

structure SR (G : Gd) (β : List Addr) (H : Hp) (S : Sto) : Prop where
  len : β.length = S.length
  nd : β.Nodup
  at_ : ∀ (n : Nat) (ds : List D) (a : Addr), S[n]? = some ds → β[n]? = some a → ∃ vs, H a = some (.lst vs) ∧ RVs G β H ds vs

section
variable {G : Gd} {β β' β1 β2 : List Addr} {H H' H1 H2 : Hp} {S S' S1 S2 : Sto} {ρ ρ' : Rho} {σ σ' : St} {d : D} {ds es : List D} {v : V} {vs : List V}
theorem SR.mem (sr : SR G β H S) {a : Addr} (h : a ∈ β) : ∃ vs, H a = some (.lst vs) := by
  obtain ⟨n, hn⟩ := List.mem_iff_getElem?.mp h
  have hl : n < S.length := by rw [← sr.len]; exact (List.getElem?_eq_some_iff.mp hn).1
  obtain ⟨vs, h1, _⟩ := sr.at_ n _ a (List.getElem?_eq_getElem hl) hn
  exact ⟨vs, h1⟩
/-- what is tracked and no list is not of the store -/
theorem SR.nmem (sr : SR G β H S) {a : Addr} {o : HO} (h : H a = some o) (n : ∀ vs, o ≠ .lst vs) : a ∉ β := by
  intro q
  obtain ⟨vs, e⟩ := sr.mem q
  rw [h] at e
  exact n vs (Option.some.inj e)

/-- a later world -/
structure Ext (β : List Addr) (H : Hp) (β' : List Addr) (H' : Hp) : Prop where
  more : ∃ m, β' = β ++ m ∧ ∀ a ∈ m, H a = none
  keep : ∀ a o, H a = some o → a ∉ β → H' a = some o
theorem Ext.refl : Ext β H β H := ⟨⟨[], by simp⟩, fun _ _ h _ => h⟩
theorem Ext.nin (e : Ext β H β' H') {a : Addr} {o : HO} (h : H a = some o) (n : a ∉ β) : a ∉ β' := by
  obtain ⟨m, rfl, hm⟩ := e.more
  intro q
  rcases List.mem_append.mp q with q | q
  · exact n q
  · rw [hm a q] at h; cases h
theorem Ext.trans (e : Ext β H β1 H1) (sr1 : SR G β1 H1 S1) (f : Ext β1 H1 β2 H2) : Ext β H β2 H2 := by
  refine ⟨?_, fun a o h n => f.keep a o (e.keep a o h n) (e.nin h n)⟩
  obtain ⟨m, rfl, hm⟩ := e.more
  obtain ⟨m2, rfl, hm2⟩ := f.more
  refine ⟨m ++ m2, by simp, fun a ha => ?_⟩
  rcases List.mem_append.mp ha with q | q
  · exact hm a q
  · cases hh : H a with
    | none => rfl
    | some o =>
      exfalso
      have h1 := hm2 a q
      by_cases hb : a ∈ β
      · obtain ⟨vs, z⟩ := sr1.mem (List.mem_append_left m hb)
        rw [h1] at z; cases z
      · rw [e.keep a o hh hb] at h1; cases h1
/-- a new thing is laid that is not of the store -/
theorem Ext.laid {p : Addr} {o : HO} (hp : H p = none) : Ext β H β (upd H p o) := ⟨⟨[], by simp⟩, fun a o h _ => by rw [upd_ne (ne_of_none h hp)]; exact h⟩
theorem Ext.same (h : Same H H') : Ext β H β H' := ⟨⟨[], by simp⟩, fun a o e _ => h a o e⟩

theorem rd_mono (e : Ext β H β' H') {a : Addr} {o : HO} (r : Rd H a o) (n : a ∉ β) : Rd H' a o := by
  rcases r with r | ⟨u, r⟩
  · exact .inl (e.keep a _ r n)
  · exact .inr ⟨u, e.keep a _ r n⟩
theorem rd_nin (e : Ext β H β' H') {a : Addr} {o : HO} (r : Rd H a o) (n : a ∉ β) : a ∉ β' := by
  rcases r with r | ⟨u, r⟩
  · exact e.nin r n
  · exact e.nin r n
theorem sqT_mono (sr : SR G β H S) (e : Ext β H β' H') {a : Addr} (r : SqT G.K H a vs) : SqT G.K H' a vs := by
  rcases r with r | r
  · refine .inl (rd_mono e r ?_)
    rcases r with r | ⟨u, r⟩
    · exact sr.nmem r fun _ z => nomatch z
    · exact sr.nmem r fun _ z => nomatch z
  · exact .inr r
theorem FrL.mono (sr : SR G β H S) (e : Ext β H β' H') {a : Addr} (r : FrL G.K H a vs) : FrL G.K H' a vs := by
  rcases r with ⟨o, z⟩ | r
  · exact .inl ⟨o, e.keep a _ z (sr.nmem z fun _ z => nomatch z)⟩
  · exact .inr r
mutual
theorem RV.mono (sr : SR G β H S) (e : Ext β H β' H') : ∀ {d : D} {v : V}, RV G β H d v → RV G β' H' d v
  | .non, v, h => by simpa [RV] using h
  | .bl b, v, h => by simpa [RV] using h
  | .int i, v, h => by simpa [RV] using h
  | .str x, v, h => by simpa [RV] using h
  | .ty n, v, h => by simpa [RV] using h
  | .tup ds, v, h => by
    rw [RV] at h ⊢
    obtain ⟨a, vs, e1, e2, e3⟩ := h
    exact ⟨a, vs, e1, sqT_mono sr e e2, RVs.mono sr e e3⟩
  | .lst ds, v, h => by
    rw [RV] at h ⊢
    obtain ⟨a, vs, e1, n, e2, e3⟩ := h
    exact ⟨a, vs, e1, e.nin e2 n, e.keep a _ e2 n, RVs.mono sr e e3⟩
  | .fr ds, v, h => by
    rw [RV] at h ⊢
    obtain ⟨a, vs, e1, e2, e3⟩ := h
    exact ⟨a, vs, e1, e2.mono sr e, RVs.mono sr e e3⟩
  | .ref n, v, h => by
    rw [RV] at h ⊢
    obtain ⟨a, e1, e2⟩ := h
    obtain ⟨m, rfl, _⟩ := e.more
    refine ⟨a, e1, ?_⟩
    rw [List.getElem?_append_left (List.getElem?_eq_some_iff.mp e2).1]
    exact e2
  | .exo cls ks ds, v, h => by
    rw [RV] at h ⊢
    obtain ⟨a, cv, C, dd, gs, vs, e1, e2, e3, e4, e5, e6, e7⟩ := h
    exact ⟨a, cv, C, dd, gs, vs, e1, e2, e3, e4, e.keep dd _ e5 (sr.nmem e5 fun _ z => nomatch z), RVs.mono sr e e6, e7⟩
theorem RVs.mono (sr : SR G β H S) (e : Ext β H β' H') : ∀ {ds : List D} {vs : List V}, RVs G β H ds vs → RVs G β' H' ds vs
  | [], vs, h => by simpa [RVs] using h
  | d :: ds, vs, h => by
    rw [RVs] at h ⊢
    obtain ⟨v, r, e1, e2, e3⟩ := h
    exact ⟨v, r, e1, RV.mono sr e e2, RVs.mono sr e e3⟩
end
theorem RVs.nil : RVs G β H [] [] := by rw [RVs]
theorem RVs.cons (h : RV G β H d v) (t : RVs G β H ds vs) : RVs G β H (d :: ds) (v :: vs) := by rw [RVs]; exact ⟨v, vs, rfl, h, t⟩
theorem RVs.nil_iff : RVs G β H [] vs ↔ vs = [] := by rw [RVs]
theorem RVs.cons_iff : RVs G β H (d :: ds) vs ↔ ∃ v r, vs = v :: r ∧ RV G β H d v ∧ RVs G β H ds r := by rw [RVs]
theorem RVs.length : ∀ {ds : List D} {vs : List V}, RVs G β H ds vs → ds.length = vs.length
  | [], vs, h => by rw [RVs.nil_iff.mp h]; rfl
  | d :: ds, vs, h => by
    obtain ⟨v, r, rfl, _, t⟩ := RVs.cons_iff.mp h
    simp [RVs.length t]
theorem RVs.append : ∀ {ds es : List D} {vs ws : List V}, RVs G β H ds vs → RVs G β H es ws → RVs G β H (ds ++ es) (vs ++ ws)
  | [], _, vs, _, h, t => by rw [RVs.nil_iff.mp h]; exact t
  | d :: ds, _, vs, _, h, t => by
    obtain ⟨v, r, rfl, h1, h2⟩ := RVs.cons_iff.mp h
    exact RVs.cons h1 (RVs.append h2 t)
theorem RVs.get : ∀ {ds : List D} {vs : List V} {i : Nat} {d : D}, RVs G β H ds vs → ds[i]? = some d → ∃ v, vs[i]? = some v ∧ RV G β H d v
  | [], _, _, _, _, e => by simp at e
  | d :: ds, vs, 0, _, h, e => by
    obtain ⟨v, r, rfl, h1, h2⟩ := RVs.cons_iff.mp h
    simp at e; subst e
    exact ⟨v, rfl, h1⟩
  | d :: ds, vs, i + 1, x, h, e => by
    obtain ⟨v, r, rfl, h1, h2⟩ := RVs.cons_iff.mp h
    exact RVs.get (i := i) h2 (by simpa using e)
theorem RVs.of_get : ∀ {ds : List D} {vs : List V}, ds.length = vs.length → (∀ (i : Nat) (d : D) (v : V), ds[i]? = some d → vs[i]? = some v → RV G β H d v) → RVs G β H ds vs
  | [], [], _, _ => RVs.nil
  | d :: ds, v :: vs, l, h => RVs.cons (h 0 d v rfl rfl) (RVs.of_get (by simpa using l) fun i a b ha hb => h (i + 1) a b (by simpa using ha) (by simpa using hb))
  | [], _ :: _, l, _ => by simp at l
  | _ :: _, [], l, _ => by simp at l
theorem RVs.take (n : Nat) (h : RVs G β H ds vs) : RVs G β H (ds.take n) (vs.take n) := by
  refine RVs.of_get (by simp [h.length]) fun i d v e1 e2 => ?_
  rw [List.getElem?_take] at e1 e2
  split at e1
  · rename_i hi
    rw [if_pos hi] at e2
    obtain ⟨w, e3, r⟩ := h.get e1
    rw [e3] at e2; cases e2; exact r
  · cases e1
theorem RVs.drop (n : Nat) (h : RVs G β H ds vs) : RVs G β H (ds.drop n) (vs.drop n) := by
  refine RVs.of_get (by simp [h.length]) fun i d v e1 e2 => ?_
  rw [List.getElem?_drop] at e1 e2
  obtain ⟨w, e3, r⟩ := h.get e1
  rw [e3] at e2; cases e2; exact r
theorem RVs.set {n : Nat} (h : RVs G β H ds vs) (r : RV G β H d v) : RVs G β H (ds.set n d) (vs.set n v) := by
  refine RVs.of_get (by simp [h.length]) fun i x y e1 e2 => ?_
  by_cases hi : n = i
  · subst hi
    have h1 : n < ds.length := by have := (List.getElem?_eq_some_iff.mp e1).1; simpa using this
    have h2 : n < vs.length := by rw [← h.length]; exact h1
    rw [List.getElem?_set_self h1] at e1
    rw [List.getElem?_set_self h2] at e2
    cases e1; cases e2; exact r
  · rw [List.getElem?_set_ne hi] at e1 e2
    obtain ⟨w, e3, r'⟩ := h.get e1
    rw [e3] at e2; cases e2; exact r'

/-- slots -/
structure RSt (G : Gd) (β : List Addr) (H : Hp) (ρ : Rho) (σ : St) : Prop where
  len : ρ.length = σ.length
  at_ : ∀ (i : Nat) (d : D), ρ[i]? = some (some d) → ∃ v, σ[i]? = some (some v) ∧ RV G β H d v
theorem RSt.mono (rs : RSt G β H ρ σ) (sr : SR G β H S) (e : Ext β H β' H') : RSt G β' H' ρ σ :=
  ⟨rs.len, fun i d h => let ⟨v, e1, r⟩ := rs.at_ i d h; ⟨v, e1, r.mono sr e⟩⟩
theorem RSt.set (rs : RSt G β H ρ σ) (i : Nat) (r : RV G β H d v) : RSt G β H (ρ.set i (some d)) (σ.set i (some v)) := by
  refine ⟨by simp [rs.len], fun j x h => ?_⟩
  by_cases hi : i = j
  · subst hi
    by_cases hl : i < ρ.length
    · rw [List.getElem?_set_self hl] at h
      cases h
      exact ⟨v, by rw [List.getElem?_set_self (by rw [← rs.len]; exact hl)], r⟩
    · rw [List.getElem?_eq_none (by simpa using hl)] at h; cases h
  · rw [List.getElem?_set_ne hi] at h ⊢
    exact rs.at_ j x h
theorem RSt.unset (rs : RSt G β H ρ σ) (i : Nat) {x : Option V} : RSt G β H (ρ.set i none) (σ.set i x) := by
  refine ⟨by simp [rs.len], fun j d h => ?_⟩
  by_cases hi : i = j
  · subst hi
    by_cases hl : i < ρ.length
    · rw [List.getElem?_set_self hl] at h; cases h
    · rw [List.getElem?_eq_none (by simpa using hl)] at h; cases h
  · rw [List.getElem?_set_ne hi] at h ⊢
    exact rs.at_ j d h

/-- exceptions -/
def RX (G : Gd) (β : List Addr) (H : Hp) (x : Ex) (cls : Value) (dx : Option Addr) : Prop :=
  ∃ C d gs vs, cls = .ref C ∧ dx = some d ∧ G.mg x.cls = some (.ref C) ∧ H d = some (.xd gs) ∧ RVs G β H x.ds vs ∧ ∀ (i : Nat) (f : Str), x.ks[i]? = some f → gs.lookup f = vs[i]?
theorem RX.mono {x : Ex} {cls : Value} {dx : Option Addr} (sr : SR G β H S) (e : Ext β H β' H') (r : RX G β H x cls dx) : RX G β' H' x cls dx := by
  obtain ⟨C, d, gs, vs, h1, h2, h3, h4, h5, h6⟩ := r
  exact ⟨C, d, gs, vs, h1, h2, h3, e.keep d _ h4 (sr.nmem h4 fun _ z => nomatch z), h5.mono sr e, h6⟩
/-- a new thing is laid -/
theorem SR.laid {p : Addr} {o : HO} (sr : SR G β H S) (hp : H p = none) : SR G β (upd H p o) S := by
  refine ⟨sr.len, sr.nd, fun n ds a h1 h2 => ?_⟩
  obtain ⟨vs, e1, r⟩ := sr.at_ n ds a h1 h2
  exact ⟨vs, by rw [upd_ne (ne_of_none e1 hp)]; exact e1, r.mono sr (Ext.laid hp)⟩
/-- .. and is of the store -/
theorem SR.push {p : Addr} (sr : SR G β H S) (hp : H p = none) (r : RVs G β H ds vs) : SR G (β ++ [p]) (upd H p (.lst vs)) (S ++ [ds]) ∧ Ext β H (β ++ [p]) (upd H p (.lst vs)) := by
  have hx : Ext β H (β ++ [p]) (upd H p (.lst vs)) := ⟨⟨[p], rfl, by simp [hp]⟩, fun a o h _ => by rw [upd_ne (ne_of_none h hp)]; exact h⟩
  have np : p ∉ β := fun q => by obtain ⟨vs, e⟩ := sr.mem q; rw [hp] at e; cases e
  refine ⟨⟨by simp [sr.len], ?_, fun n ds' a h1 h2 => ?_⟩, hx⟩
  · rw [List.nodup_append]
    exact ⟨sr.nd, by simp, fun a ha b hb => by simp at hb; subst hb; intro z; subst z; exact np ha⟩
  · by_cases hn : n < S.length
    · rw [List.getElem?_append_left hn] at h1
      rw [List.getElem?_append_left (by rw [sr.len]; exact hn)] at h2
      obtain ⟨ws, e1, r1⟩ := sr.at_ n ds' a h1 h2
      exact ⟨ws, by rw [upd_ne (ne_of_none e1 hp)]; exact e1, r1.mono sr hx⟩
    · have hl : n = S.length := by
        have := (List.getElem?_eq_some_iff.mp h1).1
        simp at this; omega
      subst hl
      rw [List.getElem?_append_right (Nat.le_refl _)] at h1
      rw [List.getElem?_append_right (by rw [sr.len]; exact Nat.le_refl _)] at h2
      simp at h1
      simp [sr.len] at h2
      subst h1; subst h2
      exact ⟨vs, upd_same, r.mono sr hx⟩
/-- a list of the store is written -/
theorem SR.write {n : Nat} {a : Addr} (sr : SR G β H S) (hn : β[n]? = some a) (r : RVs G β H ds vs) : SR G β (upd H a (.lst vs)) (S.set n ds) ∧ Ext β H β (upd H a (.lst vs)) := by
  have ha : a ∈ β := List.mem_iff_getElem?.mpr ⟨n, hn⟩
  have hx : Ext β H β (upd H a (.lst vs)) := ⟨⟨[], by simp⟩, fun b o h nb => by rw [upd_ne (fun z => nb (by rw [z]; exact ha))]; exact h⟩
  refine ⟨⟨by simp [sr.len], sr.nd, fun m es b h1 h2 => ?_⟩, hx⟩
  by_cases hm : n = m
  · subst hm
    have hl : n < S.length := by have := (List.getElem?_eq_some_iff.mp h1).1; simpa using this
    rw [List.getElem?_set_self hl] at h1
    rw [hn] at h2
    cases h1; cases h2
    exact ⟨vs, upd_same, r.mono sr hx⟩
  · rw [List.getElem?_set_ne hm] at h1
    obtain ⟨ws, e1, r1⟩ := sr.at_ m es b h1 h2
    have hb : b ≠ a := fun z => by
      subst z
      exact hm ((List.getElem_inj sr.nd).mp ((List.getElem?_eq_some_iff.mp hn).2.trans (List.getElem?_eq_some_iff.mp h2).2.symm))
    exact ⟨ws, by rw [upd_ne hb]; exact e1, r1.mono sr hx⟩
end
mutual
/-- no list of the store from the k-th on -/
def D.low (k : Nat) : D → Bool
  | .tup ds => D.lows k ds
  | .lst ds => D.lows k ds
  | .fr ds => D.lows k ds
  | .exo _ _ ds => D.lows k ds
  | .ref n => decide (n < k)
  | _ => true
def D.lows (k : Nat) : List D → Bool
  | [] => true
  | d :: ds => D.low k d && D.lows k ds
end
section
variable {G : Gd} {β β' β1 β2 : List Addr} {H H' H1 H2 : Hp} {S S' S1 S2 : Sto} {ρ ρ' : Rho} {σ σ' : St} {d : D} {ds es : List D} {v : V} {vs : List V}
mutual
theorem RV.cut (k : Nat) : ∀ {d : D} {v : V}, RV G β H d v → d.low k = true → RV G (β.take k) H d v
  | .non, v, h, _ => by simpa [RV] using h
  | .bl b, v, h, _ => by simpa [RV] using h
  | .int i, v, h, _ => by simpa [RV] using h
  | .str x, v, h, _ => by simpa [RV] using h
  | .ty n, v, h, _ => by simpa [RV] using h
  | .tup ds, v, h, q => by
    rw [RV] at h ⊢
    obtain ⟨a, vs, e1, e2, e3⟩ := h
    exact ⟨a, vs, e1, e2, RVs.cut k e3 (by simpa [D.low] using q)⟩
  | .lst ds, v, h, q => by
    rw [RV] at h ⊢
    obtain ⟨a, vs, e1, n, e2, e3⟩ := h
    exact ⟨a, vs, e1, fun z => n (List.mem_of_mem_take z), e2, RVs.cut k e3 (by simpa [D.low] using q)⟩
  | .fr ds, v, h, q => by
    rw [RV] at h ⊢
    obtain ⟨a, vs, e1, e2, e3⟩ := h
    exact ⟨a, vs, e1, e2, RVs.cut k e3 (by simpa [D.low] using q)⟩
  | .ref n, v, h, q => by
    rw [RV] at h ⊢
    obtain ⟨a, e1, e2⟩ := h
    have hn : n < k := by simpa [D.low] using q
    exact ⟨a, e1, by rw [List.getElem?_take, if_pos hn]; exact e2⟩
  | .exo cls ks ds, v, h, q => by
    rw [RV] at h ⊢
    obtain ⟨a, cv, C, dd, gs, vs, e1, e2, e3, e4, e5, e6, e7⟩ := h
    exact ⟨a, cv, C, dd, gs, vs, e1, e2, e3, e4, e5, RVs.cut k e6 (by simpa [D.low] using q), e7⟩
theorem RVs.cut (k : Nat) : ∀ {ds : List D} {vs : List V}, RVs G β H ds vs → D.lows k ds = true → RVs G (β.take k) H ds vs
  | [], vs, h, _ => by simpa [RVs] using h
  | d :: ds, vs, h, q => by
    rw [RVs] at h ⊢
    obtain ⟨v, r, e1, e2, e3⟩ := h
    have q' : d.low k = true ∧ D.lows k ds = true := by simpa [D.lows] using q
    exact ⟨v, r, e1, RV.cut k e2 q'.1, RVs.cut k e3 q'.2⟩
end
/-- the last lists of the store are dropped -/
theorem SR.cut (k : Nat) (sr : SR G β H S) (hb : ∀ ds ∈ S.take k, D.lows k ds = true) : SR G (β.take k) H (S.take k) := by
  refine ⟨by simp [sr.len], sr.nd.sublist (List.take_sublist k β), fun n ds a h1 h2 => ?_⟩
  have hm : ds ∈ S.take k := List.mem_of_getElem? h1
  have hn : n < k := by
    have := (List.getElem?_eq_some_iff.mp h1).1
    simp at this; omega
  rw [List.getElem?_take, if_pos hn] at h1 h2
  obtain ⟨vs, e1, r⟩ := sr.at_ n ds a h1 h2
  exact ⟨vs, e1, r.cut k (hb ds hm)⟩
theorem Ext.cut (e : Ext β H β' H') (k : Nat) (hk : k = β.length) : Ext β H (β'.take k) H' := by
  obtain ⟨m, rfl, hm⟩ := e.more
  subst hk
  exact ⟨⟨[], by simp⟩, e.keep⟩
/-- a dropped list stands for ever -/
theorem RV.freeze {n k : Nat} (sr : SR G β H S) (hr : RV G β H (.ref n) v) (hn : k ≤ n) (hs : S[n]? = some ds) (hb : D.lows k ds = true) : RV G (β.take k) H (.lst ds) v := by
  simp only [RV] at hr ⊢
  obtain ⟨a, e1, e2⟩ := hr
  obtain ⟨vs, e3, r⟩ := sr.at_ n ds a hs e2
  refine ⟨a, vs, e1, fun z => ?_, e3, r.cut k hb⟩
  obtain ⟨j, hj⟩ := List.mem_iff_getElem?.mp z
  have hjk : j < k := by
    have := (List.getElem?_eq_some_iff.mp hj).1
    simp at this; omega
  rw [List.getElem?_take, if_pos hjk] at hj
  have := (List.getElem_inj sr.nd).mp ((List.getElem?_eq_some_iff.mp e2).2.trans (List.getElem?_eq_some_iff.mp hj).2.symm)
  omega
end

/-! ### results and what is wanted of them -/
structure Amb where
  G : Gd
  xw : St → XK
def Post {α ν : Type} (c : Amb) (R : List Addr → Hp → α → ν → Prop) (β : List Addr) (H : Hp) (σ : St) (Q : ν → Hp → Prop) : Res α → Prop
  | .ok d S' => ∀ β' H' v, Ext β H β' H' → SR c.G β' H' S' → R β' H' d v → Q v H'
  | .ex x S' => ∀ β' H' cls dx, Ext β H β' H' → SR c.G β' H' S' → RX c.G β' H' x cls dx → c.xw σ cls dx H'
  | .bad => False
theorem Post.shift {α ν : Type} {c : Amb} {R : List Addr → Hp → α → ν → Prop} {β β1 : List Addr} {H H1 : Hp} {σ : St} {Q : ν → Hp → Prop} {S1 : Sto} {r : Res α} (h : Post c R β H σ Q r) (sr1 : SR c.G β1 H1 S1) (e : Ext β H β1 H1) : Post c R β1 H1 σ Q r := by
  cases r with
  | ok d S => exact fun β' H' v f sr r => h β' H' v (e.trans sr1 f) sr r
  | ex x S => exact fun β' H' cls dx f sr r => h β' H' cls dx (e.trans sr1 f) sr r
  | bad => exact h
theorem Post.imp {α ν : Type} {c : Amb} {R : List Addr → Hp → α → ν → Prop} {β : List Addr} {H : Hp} {σ : St} {Q Q' : ν → Hp → Prop} {r : Res α} (h : Post c R β H σ Q r) (hq : ∀ v H, Q v H → Q' v H) : Post c R β H σ Q' r := by
  cases r with
  | ok d S => exact fun β' H' v f sr r => hq _ _ (h β' H' v f sr r)
  | ex x S => exact h
  | bad => exact h
/-- the reading that a denotation gives -/
def cG {α ν : Type} (c : Amb) (R : List Addr → Hp → α → ν → Prop) (f : Rho → Sto → Res α) : St → Hp → (ν → Hp → Prop) → Prop :=
  fun σ H Q => ∃ β S ρ, SR c.G β H S ∧ RSt c.G β H ρ σ ∧ Post c R β H σ Q (f ρ S)
abbrev cE (c : Amb) (f : Rho → Sto → Res D) : TE := cG c (RV c.G) f
abbrev cA (c : Amb) (f : Rho → Sto → Res (List D)) : TA := cG c (RVs c.G) f
abbrev RB : List Addr → Hp → Bool → Bool → Prop := fun _ _ b k => b = k
abbrev cT (c : Amb) (f : Rho → Sto → Res Bool) : TT := cG c RB f

def Res.bind {α γ : Type} (r : Res α) (g : α → Sto → Res γ) : Res γ :=
  match r with
  | .ok a S => g a S
  | .ex x S => .ex x S
  | .bad => .bad
def dB {α γ : Type} (f : Rho → Sto → Res α) (g : α → Rho → Sto → Res γ) : Rho → Sto → Res γ := fun ρ S => (f ρ S).bind fun a S1 => g a ρ S1
/-- a denotation's first part -/
theorem cG_step {α γ ν μ : Type} {c : Amb} {R : List Addr → Hp → α → ν → Prop} {R' : List Addr → Hp → γ → μ → Prop} {f : Rho → Sto → Res α} {g : α → Sto → Res γ} {σ : St} {H : Hp} {Q : μ → Hp → Prop} {P : ν → Hp → Prop}
    {β : List Addr} {S : Sto} {ρ : Rho} (sr : SR c.G β H S) (rs : RSt c.G β H ρ σ) (p : Post c R' β H σ Q ((f ρ S).bind g))
    (k : ∀ a S1 β1 H1 v, Ext β H β1 H1 → SR c.G β1 H1 S1 → RSt c.G β1 H1 ρ σ → R β1 H1 a v → Post c R' β1 H1 σ Q (g a S1) → P v H1) : cG c R f σ H P := by
  refine ⟨β, S, ρ, sr, rs, ?_⟩
  unfold Res.bind at p
  cases e : f ρ S with
  | ok a S1 =>
    rw [e] at p
    exact fun β' H' v x sr' r => k a S1 β' H' v x sr' (rs.mono sr x) r (p.shift sr' x)
  | ex x S1 => rw [e] at p; exact p
  | bad => rw [e] at p; exact p
end DE

set_option Elab.async false
set_option linter.all false
set_option maxRecDepth 100000
set_option maxHeartbeats 4000000
/-! DE1: expressions. -/
namespace DE
open PySem PySem.Spec L2
open PyProof.Rows hiding St

abbrev am (X : Cx) (xc : XC) (w : St → XK) : Amb := ⟨⟨X.K, X.mg, xc⟩, w⟩
section
variable {X : Cx} {xc : XC} {w : St → XK} {a b e : Expr} {es : List Expr} {pos : Pos} {f g : Rho → Sto → Res D} {fs : Rho → Sto → Res (List D)} {ft gt : Rho → Sto → Res Bool}

theorem PE.imp {t t' : TE} (h : PE X e t) (i : ∀ σ H Q, t' σ H Q → t σ H Q) : PE X e t' := ⟨fun pins s σ H Q I q => h.run pins s σ H Q I (i σ H Q q)⟩
theorem PT.imp {t t' : TT} (h : PT X e t) (i : ∀ σ H Q, t' σ H Q → t σ H Q) : PT X e t' := ⟨fun pins s σ H Q I q => h.run pins s σ H Q I (i σ H Q q)⟩
theorem PW.imp {t t' : TT} (h : PW X e t) (i : ∀ σ H Q, t' σ H Q → t σ H Q) : PW X e t' := ⟨fun wh pins s σ H Q I q => h.run wh pins s σ H Q I (i σ H Q q)⟩
theorem PA.imp {t t' : TA} (h : PA X es t) (i : ∀ σ H Q, t' σ H Q → t σ H Q) : PA X es t' := ⟨fun p pins s σ H Q I q => h.run p pins s σ H Q I (i σ H Q q)⟩
theorem PS.imp {st : Stmt} {t t' : TS} (h : PS X st t) (i : ∀ D σ H, t' D σ H → t D σ H) : PS X st t' := ⟨fun pins s σ H D I q => h.run pins s σ H D I (i D σ H q)⟩
theorem PSs.imp {st : List Stmt} {t t' : TS} (h : PSs X st t) (i : ∀ D σ H, t' D σ H → t D σ H) : PSs X st t' := ⟨fun pins s σ H D I q => h.run pins s σ H D I (i D σ H q)⟩

/-! ### names, constants -/
def dV (i : Nat) : Rho → Sto → Res D := fun ρ S => match ρ.getD i none with
  | some d => .ok d S
  | none => .bad
def dC (d : D) : Rho → Sto → Res D := fun _ S => .ok d S
theorem de_var (i : Nat) {x : Str} (hN : X.N[i]? = some x := by rfl) (hv : Vis X.env.scope x := by first | exact Or.inl rfl | exact Or.inr (Or.inl rfl) | exact Or.inr (Or.inr rfl)) (hd : (x == ("__debug__" : Str)) = false := by decide)
    (hcd : (x == ("__classdict__" : Str)) = false := by decide) : PE X (.Name x pos) (cE (am X xc w) (dV i)) := by
  refine PE.imp (pe_var hN hv hd hcd) fun σ H Q h => ?_
  obtain ⟨β, S, ρ, sr, rs, p⟩ := h
  unfold dV at p
  cases q : ρ.getD i none with
  | none => rw [q] at p; exact p.elim
  | some d =>
    rw [q] at p
    have q' : ρ[i]? = some (some d) := by
      rw [List.getD_eq_getElem?_getD] at q
      cases z : ρ[i]? with
      | none => rw [z] at q; cases q
      | some y => rw [z] at q; simp at q; rw [q]
    obtain ⟨v, e1, r⟩ := rs.at_ i d q'
    exact ⟨v, e1, p β H v .refl sr r⟩
theorem cC {d : D} {v : V} (r : ∀ β H, RV (am X xc w).G β H d v) {σ : St} {H : Hp} {Q : VK} (h : cE (am X xc w) (dC d) σ H Q) : tC v σ H Q := by
  obtain ⟨β, S, ρ, sr, rs, p⟩ := h
  exact p β H v .refl sr (r β H)
theorem de_int {i j} : PE X (.Constant (.int i) j pos) (cE (am X xc w) (dC (.int i))) := PE.imp pe_int fun _ _ _ h => cC (fun _ _ => by rw [RV]) h
theorem de_bl {b j} : PE X (.Constant (.bool b) j pos) (cE (am X xc w) (dC (.bl b))) := PE.imp pe_bl fun _ _ _ h => cC (fun _ _ => by rw [RV]) h
theorem de_non {j} : PE X (.Constant .none j pos) (cE (am X xc w) (dC .non)) := PE.imp pe_non fun _ _ _ h => cC (fun _ _ => by rw [RV]) h
theorem de_str {x j} : PE X (.Constant (.str x) j pos) (cE (am X xc w) (dC (.str x))) := PE.imp pe_str fun _ _ _ h => cC (fun _ _ => by rw [RV]) h
/-- a built-in class's name as a value -/
theorem de_ty {x : Str} {n : String} (hg : Gl X x) (hm : X.mg x = none) (hv : bootBuiltins x = some (.type n)) (hn : x ≠ "__name__" := by decide) (hd : (x == ("__debug__" : Str)) = false := by decide) : PE X (.Name x pos) (cE (am X xc w) (dC (.ty n))) :=
  PE.imp (pe_bltn (v := .ty n) hg hm hv rfl hn hd) fun _ _ _ h => cC (fun _ _ => by rw [RV]) h

/-! ### operators -/
def Snd2 (G : Gd) (r : R2) (o : D → D → Sto → Res D) : Prop :=
  ∀ (w : St → XK) (β : List Addr) (S : Sto) (H : Hp) (σ : St) (d1 d2 : D) (v1 v2 : V) (Q : VK), SR G β H S → RV G β H d1 v1 → RV G β H d2 v2 → Post ⟨G, w⟩ (RV G) β H σ Q (o d1 d2 S) → r v1 v2 H Q
def dOp (o : D → D → Sto → Res D) (f g : Rho → Sto → Res D) : Rho → Sto → Res D := dB f fun d1 => dB g fun d2 _ S => o d1 d2 S
theorem cOp {r : R2} {o : D → D → Sto → Res D} (s : Snd2 (am X xc w).G r o) {σ : St} {H : Hp} {Q : VK} (h : cE (am X xc w) (dOp o f g) σ H Q) : cE (am X xc w) f σ H fun x H1 => cE (am X xc w) g σ H1 fun y H2 => r x y H2 Q := by
  obtain ⟨β, S, ρ, sr, rs, p⟩ := h
  exact cG_step sr rs p fun d1 S1 β1 H1 v1 x1 sr1 rs1 r1 p1 => cG_step sr1 rs1 p1 fun d2 S2 β2 H2 v2 x2 sr2 rs2 r2 p2 => s _ _ _ _ _ _ _ _ _ _ sr2 (r1.mono sr1 x2) r2 p2
theorem de_op {op : Operator} {r : R2} {o : D → D → Sto → Res D} (ho : OpR X (binaryOp op) r) (s : Snd2 (am X xc w).G r o) (ha : PE X a (cE (am X xc w) f)) (hb : PE X b (cE (am X xc w) g)) : PE X (.BinOp a op b pos) (cE (am X xc w) (dOp o f g)) :=
  PE.imp (pe_op ho ha hb) fun _ _ _ h => cOp s h
theorem de_cmp {op : CmpOp} {r : R2} {o : D → D → Sto → Res D} (ho : OpR X (compareOp op) r) (s : Snd2 (am X xc w).G r o) (ha : PE X a (cE (am X xc w) f)) (hb : PE X b (cE (am X xc w) g)) (hm : behindInMarks op b = false) : PE X (.Compare a [op] [b] pos) (cE (am X xc w) (dOp o f g)) :=
  PE.imp (pe_cmpR ho ha hb hm) fun _ _ _ h => cOp s h
/-- a bool's test -/
def dTst (f : Rho → Sto → Res D) : Rho → Sto → Res Bool := dB f fun d _ S => match d with
  | .bl b => .ok b S
  | _ => .bad
theorem cTst {σ : St} {H : Hp} {Q : Bool → Hp → Prop} (h : cT (am X xc w) (dTst f) σ H Q) : cE (am X xc w) f σ H fun x H1 => ∃ k, x = .bl k ∧ Q k H1 := by
  obtain ⟨β, S, ρ, sr, rs, p⟩ := h
  refine cG_step sr rs p fun d1 S1 β1 H1 v1 x1 sr1 rs1 r1 p1 => ?_
  cases d1 with
  | bl b =>
    rw [RV] at r1
    exact ⟨b, r1, p1 β1 H1 b .refl sr1 rfl⟩
  | _ => exact p1.elim
theorem de_tcmp {op : CmpOp} {r : R2} {o : D → D → Sto → Res D} (ho : OpR X (compareOp op) r) (s : Snd2 (am X xc w).G r o) (ha : PE X a (cE (am X xc w) f)) (hb : PE X b (cE (am X xc w) g)) (hm : behindInMarks op b = false) : PT X (.Compare a [op] [b] pos) (cT (am X xc w) (dTst (dOp o f g))) :=
  PT.imp (pt_cmpR ho ha hb hm) fun _ _ _ h => by
    obtain ⟨β, S, ρ, sr, rs, p⟩ := cTst h
    exact cOp s ⟨β, S, ρ, sr, rs, p⟩
/-- unary -/
def Snd1 (G : Gd) (r : V → Hp → VK → Prop) (o : D → Sto → Res D) : Prop :=
  ∀ (w : St → XK) (β : List Addr) (S : Sto) (H : Hp) (σ : St) (d : D) (v : V) (Q : VK), SR G β H S → RV G β H d v → Post ⟨G, w⟩ (RV G) β H σ Q (o d S) → r v H Q
def dUn (o : D → Sto → Res D) (f : Rho → Sto → Res D) : Rho → Sto → Res D := dB f fun d _ S => o d S
theorem cUn {r : V → Hp → VK → Prop} {o : D → Sto → Res D} (s : Snd1 (am X xc w).G r o) {σ : St} {H : Hp} {Q : VK} (h : cE (am X xc w) (dUn o f) σ H Q) : cE (am X xc w) f σ H fun x H1 => r x H1 Q := by
  obtain ⟨β, S, ρ, sr, rs, p⟩ := h
  exact cG_step sr rs p fun d1 S1 β1 H1 v1 x1 sr1 rs1 r1 p1 => s _ _ _ _ _ _ _ _ sr1 r1 p1
theorem de_un {op : UnaryOp} {r : V → Hp → VK → Prop} {o : D → Sto → Res D} (ho : UnR X (unaryOp op) r) (s : Snd1 (am X xc w).G r o) (ha : PE X a (cE (am X xc w) f)) : PE X (.UnaryOp op a pos) (cE (am X xc w) (dUn o f)) :=
  PE.imp (pe_un ho ha) fun _ _ _ h => cUn s h

/-! ### truth -/
def D.seq (S : Sto) : D → Option (List D)
  | .tup ds => some ds
  | .lst ds => some ds
  | .fr ds => some ds
  | .ref n => S[n]?
  | _ => none
def D.tru (S : Sto) : D → Option Bool
  | .non => some false
  | .bl b => some b
  | .int i => some (i != 0)
  | .str x => if x.length ≤ sizeLine then some ((x.length : Int) != 0) else none
  | d => (d.seq S).map fun l => !l.isEmpty
theorem isEmpty_rvs {G : Gd} {β : List Addr} {H : Hp} {ds : List D} {vs : List V} (h : RVs G β H ds vs) : ds.isEmpty = vs.isEmpty := by
  have := h.length
  cases ds <;> cases vs <;> simp_all
theorem tru_sound {G : Gd} {β : List Addr} {H : Hp} {S : Sto} {d : D} {v : V} {k : Bool} (sr : SR G β H S) (h : RV G β H d v) (e : d.tru S = some k) : TruV G.K v H k := by
  cases d with
  | non => rw [RV] at h; subst h; cases e; rfl
  | bl b => rw [RV] at h; subst h; cases e; rfl
  | int i => rw [RV] at h; subst h; cases e; rfl
  | str x =>
    rw [RV] at h; subst h
    simp only [D.tru] at e
    split at e
    · rename_i hl
      cases e
      exact ⟨hl, rfl⟩
    · cases e
  | ty n => cases e
  | exo cl ks ds => cases e
  | tup ds =>
    rw [RV] at h
    obtain ⟨a, vs, rfl, h1, h2⟩ := h
    cases e
    exact .inr (.inl ⟨vs, h1, congrArg (!·) (isEmpty_rvs h2)⟩)
  | lst ds =>
    rw [RV] at h
    obtain ⟨a, vs, rfl, _, h1, h2⟩ := h
    cases e
    exact .inl ⟨vs, SqL.of h1, congrArg (!·) (isEmpty_rvs h2)⟩
  | fr ds =>
    rw [RV] at h
    obtain ⟨a, vs, rfl, h1, h2⟩ := h
    cases e
    exact .inl ⟨vs, h1.sql, congrArg (!·) (isEmpty_rvs h2)⟩
  | ref n =>
    rw [RV] at h
    obtain ⟨a, rfl, h1⟩ := h
    simp only [D.tru, D.seq] at e
    cases q : S[n]? with
    | none => rw [q] at e; cases e
    | some ds =>
      rw [q] at e; cases e
      obtain ⟨vs, h2, h3⟩ := sr.at_ n ds a q h1
      exact .inl ⟨vs, SqL.of h2, congrArg (!·) (isEmpty_rvs h3)⟩
def optB (o : Option Bool) (S : Sto) : Res Bool := match o with
  | some b => .ok b S
  | none => .bad
def dTru (f : Rho → Sto → Res D) : Rho → Sto → Res Bool := dB f fun d _ S => optB (d.tru S) S
theorem cTru {σ : St} {H : Hp} {Q : Bool → Hp → Prop} (h : cT (am X xc w) (dTru f) σ H Q) : cE (am X xc w) f σ H fun x H1 => ∃ k, TruV X.K x H1 k ∧ Q k H1 := by
  obtain ⟨β, S, ρ, sr, rs, p⟩ := h
  refine cG_step sr rs p fun d1 S1 β1 H1 v1 x1 sr1 rs1 r1 p1 => ?_
  cases e : d1.tru S1 with
  | none => dsimp only [optB] at p1; rw [e] at p1; exact p1.elim
  | some k =>
    dsimp only [optB] at p1
    rw [e] at p1
    exact ⟨k, tru_sound sr1 r1 e, p1 β1 H1 k .refl sr1 rfl⟩
theorem de_truth (ha : PE X a (cE (am X xc w) f)) (he : ∀ whole, isTrue a X.env whole = (do let v ← whole; standAt a.pos; holding [v] (truthy v)) := by intro _; rfl) : PT X a (cT (am X xc w) (dTru f)) :=
  PT.imp (pt_truth ha he) fun _ _ _ h => cTru h
def dNotT (ft : Rho → Sto → Res Bool) : Rho → Sto → Res Bool := dB ft fun b _ S => .ok (!b) S
theorem de_tnot (h : PT X a (cT (am X xc w) ft)) : PT X (.UnaryOp .Not a pos) (cT (am X xc w) (dNotT ft)) := PT.imp (pt_not h) fun σ H Q q => by
  obtain ⟨β, S, ρ, sr, rs, p⟩ := q
  refine cG_step sr rs p fun b S1 β1 H1 k x1 sr1 rs1 r1 p1 => ?_
  subst r1
  exact p1 β1 H1 _ .refl sr1 rfl
def dAndT (ft gt : Rho → Sto → Res Bool) : Rho → Sto → Res Bool := dB ft fun b ρ S => if b = true then gt ρ S else .ok false S
def dOrT (ft gt : Rho → Sto → Res Bool) : Rho → Sto → Res Bool := dB ft fun b ρ S => if b = true then .ok true S else gt ρ S
theorem de_wand1 (h : PT X a (cT (am X xc w) ft)) : PW X (.BoolOp .And [a] pos) (cT (am X xc w) ft) := pw_and1 h
theorem de_wor1 (h : PT X a (cT (am X xc w) ft)) : PW X (.BoolOp .Or [a] pos) (cT (am X xc w) ft) := pw_or1 h
theorem de_wand (h : PT X a (cT (am X xc w) ft)) (h2 : PW X (.BoolOp .And (b :: es) pos) (cT (am X xc w) gt)) : PW X (.BoolOp .And (a :: b :: es) pos) (cT (am X xc w) (dAndT ft gt)) := PW.imp (pw_and h h2) fun σ H Q q => by
  obtain ⟨β, S, ρ, sr, rs, p⟩ := q
  refine cG_step sr rs p fun b S1 β1 H1 k x1 sr1 rs1 r1 p1 => ?_
  subst r1
  cases b with
  | true => exact iteT ⟨β1, S1, ρ, sr1, rs1, p1⟩
  | false => exact iteF (p1 β1 H1 _ .refl sr1 rfl)
theorem de_wor (h : PT X a (cT (am X xc w) ft)) (h2 : PW X (.BoolOp .Or (b :: es) pos) (cT (am X xc w) gt)) : PW X (.BoolOp .Or (a :: b :: es) pos) (cT (am X xc w) (dOrT ft gt)) := PW.imp (pw_or h h2) fun σ H Q q => by
  obtain ⟨β, S, ρ, sr, rs, p⟩ := q
  refine cG_step sr rs p fun b S1 β1 H1 k x1 sr1 rs1 r1 p1 => ?_
  subst r1
  cases b with
  | true => exact iteT (p1 β1 H1 _ .refl sr1 rfl)
  | false => exact iteF ⟨β1, S1, ρ, sr1, rs1, p1⟩
/-- as values -/
def dNot (f : Rho → Sto → Res D) : Rho → Sto → Res D := dB (dTru f) fun b _ S => .ok (.bl (!b)) S
theorem de_not (ha : PE X a (cE (am X xc w) f)) : PE X (.UnaryOp .Not a pos) (cE (am X xc w) (dNot f)) := PE.imp (pe_notT ha) fun σ H Q h => by
  obtain ⟨β, S, ρ, sr, rs, p⟩ := h
  have h : cG (am X xc w) RB (dTru f) σ H fun k H1 => Q (.bl (!k)) H1 := cG_step sr rs p fun b S1 β1 H1 k x1 sr1 rs1 r1 p1 => by
    subst r1
    exact p1 β1 H1 (.bl (!b)) .refl sr1 (by rw [RV])
  exact cTru h
def dAnd (f g : Rho → Sto → Res D) : Rho → Sto → Res D := dB f fun d ρ S => match d.tru S with
  | some true => g ρ S
  | some false => .ok d S
  | none => .bad
def dOr (f g : Rho → Sto → Res D) : Rho → Sto → Res D := dB f fun d ρ S => match d.tru S with
  | some true => .ok d S
  | some false => g ρ S
  | none => .bad
theorem de_and (ha : PE X a (cE (am X xc w) f)) (hb : PE X (.BoolOp .And (b :: es) pos) (cE (am X xc w) g)) : PE X (.BoolOp .And (a :: b :: es) pos) (cE (am X xc w) (dAnd f g)) := PE.imp (pe_andT ha hb) fun σ H Q h => by
  obtain ⟨β, S, ρ, sr, rs, p⟩ := h
  refine cG_step sr rs p fun d1 S1 β1 H1 v1 x1 sr1 rs1 r1 p1 => ?_
  cases e : d1.tru S1 with
  | none => dsimp only [optB] at p1; rw [e] at p1; exact p1.elim
  | some k =>
    dsimp only [optB] at p1
    rw [e] at p1
    refine ⟨k, tru_sound sr1 r1 e, ?_⟩
    cases k with
    | true => exact iteT ⟨β1, S1, ρ, sr1, rs1, p1⟩
    | false => exact iteF (p1 β1 H1 v1 .refl sr1 r1)
theorem de_or (ha : PE X a (cE (am X xc w) f)) (hb : PE X (.BoolOp .Or (b :: es) pos) (cE (am X xc w) g)) : PE X (.BoolOp .Or (a :: b :: es) pos) (cE (am X xc w) (dOr f g)) := PE.imp (pe_orT ha hb) fun σ H Q h => by
  obtain ⟨β, S, ρ, sr, rs, p⟩ := h
  refine cG_step sr rs p fun d1 S1 β1 H1 v1 x1 sr1 rs1 r1 p1 => ?_
  cases e : d1.tru S1 with
  | none => dsimp only [optB] at p1; rw [e] at p1; exact p1.elim
  | some k =>
    dsimp only [optB] at p1
    rw [e] at p1
    refine ⟨k, tru_sound sr1 r1 e, ?_⟩
    cases k with
    | true => exact iteT (p1 β1 H1 v1 .refl sr1 r1)
    | false => exact iteF ⟨β1, S1, ρ, sr1, rs1, p1⟩
def dIf {α : Type} (ft : Rho → Sto → Res Bool) (f g : Rho → Sto → Res α) : Rho → Sto → Res α := dB ft fun b ρ S => if b = true then f ρ S else g ρ S
theorem de_ifExp {c : Expr} (hc : PT X c (cT (am X xc w) ft)) (ha : PE X a (cE (am X xc w) f)) (hb : PE X b (cE (am X xc w) g)) : PE X (.IfExp c a b pos) (cE (am X xc w) (dIf ft f g)) := PE.imp (pe_ifExp hc ha hb) fun σ H Q h => by
  obtain ⟨β, S, ρ, sr, rs, p⟩ := h
  refine cG_step sr rs p fun b S1 β1 H1 k x1 sr1 rs1 r1 p1 => ?_
  subst r1
  cases b with
  | true => exact iteT ⟨β1, S1, ρ, sr1, rs1, p1⟩
  | false => exact iteF ⟨β1, S1, ρ, sr1, rs1, p1⟩

/-! ### argument lists, displays -/
def aNil : Rho → Sto → Res (List D) := fun _ S => .ok [] S
def aCons (f : Rho → Sto → Res D) (fs : Rho → Sto → Res (List D)) : Rho → Sto → Res (List D) := dB f fun d => dB fs fun ds _ S => .ok (d :: ds) S
theorem da_nil : PA X [] (cA (am X xc w) aNil) := PA.imp pa_nil fun σ H Q h => by
  obtain ⟨β, S, ρ, sr, rs, p⟩ := h
  exact p β H [] .refl sr .nil
theorem da_cons (ha : PE X e (cE (am X xc w) f)) (hr : PA X es (cA (am X xc w) fs)) (hs : starEach (e :: es) X.env = (false, eval e X.env) :: starEach es X.env := by rfl) : PA X (e :: es) (cA (am X xc w) (aCons f fs)) := PA.imp (pa_cons ha hr hs) fun σ H Q h => by
  obtain ⟨β, S, ρ, sr, rs, p⟩ := h
  exact cG_step sr rs p fun d1 S1 β1 H1 v1 x1 sr1 rs1 r1 p1 => cG_step sr1 rs1 p1 fun ds S2 β2 H2 vs x2 sr2 rs2 r2 p2 => p2 β2 H2 _ .refl sr2 (.cons (r1.mono sr1 x2) r2)
def okLen (n : Nat) : Bool := decide (n ≤ 16777216)
theorem okLen_le {n : Nat} (h : okLen n = true) : n ≤ sizeLine := by rw [sizeLine_eq]; exact of_decide_eq_true h
def guard {α : Type} (b : Bool) (r : Res α) : Res α := if b = true then r else .bad
def dTup (fs : Rho → Sto → Res (List D)) : Rho → Sto → Res D := dB fs fun ds _ S => guard (okLen ds.length) (.ok (.tup ds) S)
def dLst (fs : Rho → Sto → Res (List D)) : Rho → Sto → Res D := dB fs fun ds _ S => guard (okLen ds.length) (.ok (.lst ds) S)
/-- a list that may change -/
def dLstM (fs : Rho → Sto → Res (List D)) : Rho → Sto → Res D := dB fs fun ds _ S => guard (okLen ds.length) (.ok (.ref S.length) (S ++ [ds]))
theorem post_guard {α ν : Type} {c : Amb} {R : List Addr → Hp → α → ν → Prop} {β : List Addr} {H : Hp} {σ : St} {Q : ν → Hp → Prop} {b : Bool} {r : Res α} (h : Post c R β H σ Q (guard b r)) : b = true ∧ Post c R β H σ Q r := by
  unfold guard at h
  cases b with
  | true => exact ⟨rfl, by simpa using h⟩
  | false => simp at h; exact h.elim
/-- a new tuple, a new list -/
theorem RV.newT {G : Gd} {β : List Addr} {H : Hp} {S : Sto} {ds : List D} {vs : List V} {p : Addr} (sr : SR G β H S) (hp : H p = none) (r : RVs G β H ds vs) : RV G β (upd H p (.tup vs)) (.tup ds) (.ref p) := by
  rw [RV]
  exact ⟨p, vs, rfl, SqT.of upd_same, r.mono sr (Ext.laid hp)⟩
theorem RV.newL {G : Gd} {β : List Addr} {H : Hp} {S : Sto} {ds : List D} {vs : List V} {p : Addr} (sr : SR G β H S) (hp : H p = none) (r : RVs G β H ds vs) : RV G β (upd H p (.lst vs)) (.lst ds) (.ref p) := by
  rw [RV]
  refine ⟨p, vs, rfl, fun q => ?_, upd_same, r.mono sr (Ext.laid hp)⟩
  obtain ⟨ws, e⟩ := sr.mem q
  rw [hp] at e; cases e
theorem RV.newM {G : Gd} {β : List Addr} {H : Hp} {S : Sto} {p : Addr} (sr : SR G β H S) {H' : Hp} : RV G (β ++ [p]) H' (.ref S.length) (.ref p) := by
  rw [RV]
  exact ⟨p, rfl, by rw [← sr.len]; simp⟩
/-- what is wanted of a result is had at a new tuple -/
theorem Post.tup {c : Amb} {β : List Addr} {H : Hp} {σ : St} {Q : VK} {S : Sto} {ds : List D} {vs : List V} {p : Addr} (h : Post c (RV c.G) β H σ Q (.ok (.tup ds) S)) (sr : SR c.G β H S) (hp : H p = none) (r : RVs c.G β H ds vs) : Q (.ref p) (upd H p (.tup vs)) :=
  h β _ _ (Ext.laid hp) (sr.laid hp) (RV.newT sr hp r)
theorem Post.lst {c : Amb} {β : List Addr} {H : Hp} {σ : St} {Q : VK} {S : Sto} {ds : List D} {vs : List V} {p : Addr} (h : Post c (RV c.G) β H σ Q (.ok (.lst ds) S)) (sr : SR c.G β H S) (hp : H p = none) (r : RVs c.G β H ds vs) : Q (.ref p) (upd H p (.lst vs)) :=
  h β _ _ (Ext.laid hp) (sr.laid hp) (RV.newL sr hp r)
theorem Post.lstM {c : Amb} {β : List Addr} {H : Hp} {σ : St} {Q : VK} {S : Sto} {ds : List D} {vs : List V} {p : Addr} (h : Post c (RV c.G) β H σ Q (.ok (.ref S.length) (S ++ [ds]))) (sr : SR c.G β H S) (hp : H p = none) (r : RVs c.G β H ds vs) : Q (.ref p) (upd H p (.lst vs)) :=
  h _ _ _ (sr.push hp r).2 (sr.push hp r).1 (RV.newM sr)
theorem Post.ok0 {c : Amb} {β : List Addr} {H : Hp} {σ : St} {Q : VK} {S : Sto} {d : D} {v : V} (h : Post c (RV c.G) β H σ Q (.ok d S)) (sr : SR c.G β H S) (r : RV c.G β H d v) : Q v H := h β H v .refl sr r
theorem de_tup {k : Nat} (h : PA X es (cA (am X xc w) fs)) : PE X (.Tuple es k pos) (cE (am X xc w) (dTup fs)) := PE.imp (pe_tup h) fun σ H Q q => by
  obtain ⟨β, S, ρ, sr, rs, p⟩ := q
  refine cG_step sr rs p fun ds S1 β1 H1 vs x1 sr1 rs1 r1 p1 => ?_
  obtain ⟨g1, p2⟩ := post_guard p1
  exact ⟨by rw [← r1.length]; exact okLen_le g1, fun p hp => p2.tup sr1 hp r1⟩
theorem de_lst (h : PA X es (cA (am X xc w) fs)) : PE X (.List es pos) (cE (am X xc w) (dLst fs)) := PE.imp (pe_lst h) fun σ H Q q => by
  obtain ⟨β, S, ρ, sr, rs, p⟩ := q
  refine cG_step sr rs p fun ds S1 β1 H1 vs x1 sr1 rs1 r1 p1 => ?_
  obtain ⟨g1, p2⟩ := post_guard p1
  exact ⟨by rw [← r1.length]; exact okLen_le g1, fun p hp => p2.lst sr1 hp r1⟩
theorem de_lstM (h : PA X es (cA (am X xc w) fs)) : PE X (.List es pos) (cE (am X xc w) (dLstM fs)) := PE.imp (pe_lst h) fun σ H Q q => by
  obtain ⟨β, S, ρ, sr, rs, p⟩ := q
  refine cG_step sr rs p fun ds S1 β1 H1 vs x1 sr1 rs1 r1 p1 => ?_
  obtain ⟨g1, p2⟩ := post_guard p1
  exact ⟨by rw [← r1.length]; exact okLen_le g1, fun p hp => p2.lstM sr1 hp r1⟩
end
end DE

set_option Elab.async false
set_option linter.all false
set_option maxRecDepth 100000
set_option maxHeartbeats 4000000
/-! DE2: operators, comparisons, subscripts, slices. -/
namespace DE
open PySem PySem.Spec L2
open PyProof.Rows hiding St

/-- lists (not the law's own argument) -/
def D.list (S : Sto) : D → Option (List D)
  | .lst ds => some ds
  | .ref n => S[n]?
  | _ => none
section
variable {G : Gd} {β : List Addr} {H : Hp} {S : Sto} {d : D} {v : V} {ds : List D}
theorem RV.int_iff {i : Int} : RV G β H (.int i) v ↔ v = .int i := by rw [RV]
theorem RV.bl_iff {b : Bool} : RV G β H (.bl b) v ↔ v = .bl b := by rw [RV]
theorem RV.str_iff {x : Str} : RV G β H (.str x) v ↔ v = .str x := by rw [RV]
theorem RV.non_iff : RV G β H .non v ↔ v = .non := by rw [RV]
theorem RV.ty_iff {n : String} : RV G β H (.ty n) v ↔ v = .ty n := by rw [RV]
theorem RV.tup_iff : RV G β H (.tup ds) v ↔ ∃ a vs, v = .ref a ∧ SqT G.K H a vs ∧ RVs G β H ds vs := by rw [RV]
theorem RV.list (sr : SR G β H S) (h : RV G β H d v) (e : d.list S = some ds) : ∃ a vs, v = .ref a ∧ H a = some (.lst vs) ∧ RVs G β H ds vs := by
  cases d with
  | lst l =>
    rw [RV] at h
    obtain ⟨a, vs, rfl, _, h1, h2⟩ := h
    cases e
    exact ⟨a, vs, rfl, h1, h2⟩
  | ref n =>
    rw [RV] at h
    obtain ⟨a, rfl, h1⟩ := h
    obtain ⟨vs, h2, h3⟩ := sr.at_ n ds a e h1
    exact ⟨a, vs, rfl, h2, h3⟩
  | _ => cases e
/-- what may be walked or measured: a list or a tuple -/
theorem RV.seq (sr : SR G β H S) (h : RV G β H d v) (e : d.seq S = some ds) : ∃ a vs, v = .ref a ∧ (SqL G.K H a vs ∨ SqT G.K H a vs) ∧ RVs G β H ds vs := by
  cases d with
  | tup l =>
    rw [RV] at h
    obtain ⟨a, vs, rfl, h1, h2⟩ := h
    cases e
    exact ⟨a, vs, rfl, .inr h1, h2⟩
  | lst l =>
    rw [RV] at h
    obtain ⟨a, vs, rfl, _, h1, h2⟩ := h
    cases e
    exact ⟨a, vs, rfl, .inl (SqL.of h1), h2⟩
  | fr l =>
    rw [RV] at h
    obtain ⟨a, vs, rfl, h1, h2⟩ := h
    cases e
    exact ⟨a, vs, rfl, .inl h1.sql, h2⟩
  | ref n =>
    rw [RV] at h
    obtain ⟨a, rfl, h1⟩ := h
    obtain ⟨vs, h2, h3⟩ := sr.at_ n ds a e h1
    exact ⟨a, vs, rfl, .inl (SqL.of h2), h3⟩
  | _ => cases e
end

/-- lists, also the law's own argument -/
def D.seqL (S : Sto) : D → Option (List D)
  | .lst ds => some ds
  | .fr ds => some ds
  | .ref n => S[n]?
  | _ => none
theorem RV.seqL {G : Gd} {β : List Addr} {H : Hp} {S : Sto} {d : D} {v : V} {ds : List D} (sr : SR G β H S) (h : RV G β H d v) (e : d.seqL S = some ds) : ∃ a vs, v = .ref a ∧ SqL G.K H a vs ∧ RVs G β H ds vs := by
  cases d with
  | lst l =>
    rw [RV] at h
    obtain ⟨a, vs, rfl, _, h1, h2⟩ := h
    cases e
    exact ⟨a, vs, rfl, SqL.of h1, h2⟩
  | fr l =>
    rw [RV] at h
    obtain ⟨a, vs, rfl, h1, h2⟩ := h
    cases e
    exact ⟨a, vs, rfl, h1.sql, h2⟩
  | ref n =>
    rw [RV] at h
    obtain ⟨a, rfl, h1⟩ := h
    obtain ⟨vs, h2, h3⟩ := sr.at_ n ds a e h1
    exact ⟨a, vs, rfl, SqL.of h2, h3⟩
  | _ => cases e
/-! ### + -/
def oAdd : D → D → Sto → Res D
  | .int i, .int j, S => .ok (.int (i + j)) S
  | .str a, .str b, S => guard (decide (a.length + b.length ≤ 16777216)) (.ok (.str (a ++ b)) S)
  | .tup a, .tup b, S => guard (okLen (a.length + b.length)) (.ok (.tup (a ++ b)) S)
  | x, y, S => match x.list S, y.list S with
    | some a, some b => guard (okLen (a.length + b.length)) (.ok (.lst (a ++ b)) S)
    | _, _ => .bad
def rAdd4 (K : PySem.W.Frag) : R2 := fun x y H Q => ((rI0 fun i j => .int (i + j)) x y H Q ∨ (∃ i j, x = .str i ∧ y = .str j ∧ i.length + j.length ≤ sizeLine ∧ Q (.str (i ++ j)) H)) ∨ (rCatA K x y H Q ∨ rCat x y H Q)
theorem op_add4 {X : Cx} : OpR X (binaryOp .Add) (rAdd4 X.K) := OpR.or (OpR.or op_add op_add_str) (OpR.or op_catA op_cat)
theorem snd_add {G : Gd} : Snd2 G (rAdd4 G.K) oAdd := by
  intro w β S H σ d1 d2 v1 v2 Q sr r1 r2 p
  have lists : ∀ {a b : List D}, d1.list S = some a → d2.list S = some b → Post ⟨G, w⟩ (RV G) β H σ Q (guard (okLen (a.length + b.length)) (.ok (.lst (a ++ b)) S)) → rAdd4 G.K v1 v2 H Q := fun {a b} e1 e2 p => by
    obtain ⟨x, xs, rfl, h1, h2⟩ := r1.list sr e1
    obtain ⟨y, ys, rfl, h3, h4⟩ := r2.list sr e2
    obtain ⟨g, p⟩ := post_guard p
    exact .inr (.inr ⟨x, y, xs, ys, rfl, rfl, h1, h3, by rw [← h2.length, ← h4.length]; exact okLen_le g, fun q hq => p.lst sr hq (h2.append h4)⟩)
  unfold oAdd at p
  split at p
  · rw [RV.int_iff] at r1 r2; subst r1 r2
    exact .inl (.inl ⟨_, _, rfl, rfl, p.ok0 sr (RV.int_iff.mpr rfl)⟩)
  · rw [RV.str_iff] at r1 r2; subst r1 r2
    obtain ⟨g, p⟩ := post_guard p
    exact .inl (.inr ⟨_, _, rfl, rfl, by rw [sizeLine_eq]; exact of_decide_eq_true g, p.ok0 sr (RV.str_iff.mpr rfl)⟩)
  · obtain ⟨a, xs, rfl, h1, h2⟩ := RV.tup_iff.mp r1
    obtain ⟨b, ys, rfl, h3, h4⟩ := RV.tup_iff.mp r2
    obtain ⟨g, p⟩ := post_guard p
    refine .inr (.inl ⟨a, b, xs, ys, rfl, rfl, h1, h3, by rw [← h2.length, ← h4.length]; exact okLen_le g, fun e => ?_, fun _ e => ?_, fun _ _ q hq => p.tup sr hq (h2.append h4)⟩)
    · subst e
      have h5 := h2.append h4
      exact p.ok0 sr (RV.tup_iff.mpr ⟨b, ys, rfl, h3, by simpa using h5⟩)
    · subst e
      have h5 := h2.append h4
      exact p.ok0 sr (RV.tup_iff.mpr ⟨a, xs, rfl, h1, by simpa using h5⟩)
  · split at p
    · rename_i e1 e2
      exact lists e1 e2 p
    · exact p.elim

/-! ### -, *, //, %, ** -/
def oSub : D → D → Sto → Res D
  | .int i, .int j, S => .ok (.int (i - j)) S
  | _, _, _ => .bad
theorem snd_sub {G : Gd} : Snd2 G (rI0 fun i j => .int (i - j)) oSub := by
  intro w β S H σ d1 d2 v1 v2 Q sr r1 r2 p
  unfold oSub at p
  split at p
  · rw [RV.int_iff] at r1 r2; subst r1 r2
    exact ⟨_, _, rfl, rfl, p.ok0 sr (RV.int_iff.mpr rfl)⟩
  · exact p.elim
/-- products: one factor small, or both not too great -/
def okMul (i j : Int) : Bool := decide (i.natAbs < 2 ^ 64) || decide (j.natAbs < 2 ^ 64) || decide (i.natAbs.log2 + j.natAbs.log2 < 1000000)
def oMul : D → D → Sto → Res D
  | .int i, .int j, S => guard (okMul i j) (.ok (.int (i * j)) S)
  | .tup a, .int k, S => guard (!a.isEmpty && decide (2 ≤ k) && decide (k ≤ 1000) && decide (a.length ≤ 1000)) (.ok (.tup (List.replicate k.toNat a).flatten) S)
  | x, .int k, S => match x.list S with
    | some a => guard (decide (-(2 ^ 63) ≤ k) && decide (k < 2 ^ 63) && okLen (a.length * k.toNat)) (.ok (.lst (List.replicate k.toNat a).flatten) S)
    | none => .bad
  | _, _, _ => .bad
def rMul4 (K : PySem.W.Frag) : R2 := fun x y H Q => ((rI CMul fun i j => .int (i * j)) x y H Q ∨ (rI CMulW fun i j => .int (i * j)) x y H Q) ∨ (rRepT K x y H Q ∨ rRep x y H Q)
theorem op_mul4 {X : Cx} : OpR X (binaryOp .Mult) (rMul4 X.K) := OpR.or (OpR.or op_mul op_mulW) (OpR.or op_repT op_rep)
theorem RVs.replicate {G : Gd} {β : List Addr} {H : Hp} {ds : List D} {vs : List V} (h : RVs G β H ds vs) : ∀ n, RVs G β H (List.replicate n ds).flatten (List.replicate n vs).flatten
  | 0 => by simpa using RVs.nil
  | n + 1 => by
    simp only [List.replicate_succ, List.flatten_cons]
    exact h.append (RVs.replicate h n)
theorem snd_mul {G : Gd} : Snd2 G (rMul4 G.K) oMul := by
  intro w β S H σ d1 d2 v1 v2 Q sr r1 r2 p
  unfold oMul at p
  split at p
  · rw [RV.int_iff] at r1 r2; subst r1 r2
    obtain ⟨g, p⟩ := post_guard p
    have q := p.ok0 sr (RV.int_iff.mpr rfl)
    simp only [okMul, Bool.or_eq_true, decide_eq_true_eq] at g
    rcases g with (g | g) | g
    · exact .inl (.inl ⟨_, _, rfl, rfl, .inl (by omega), q⟩)
    · exact .inl (.inl ⟨_, _, rfl, rfl, .inr (by omega), q⟩)
    · exact .inl (.inr ⟨_, _, rfl, rfl, g, q⟩)
  · obtain ⟨a, xs, rfl, h1, h2⟩ := RV.tup_iff.mp r1
    rw [RV.int_iff] at r2; subst r2
    obtain ⟨g, p⟩ := post_guard p
    simp only [Bool.and_eq_true, decide_eq_true_eq, Bool.not_eq_true'] at g
    obtain ⟨⟨⟨g1, g2⟩, g3⟩, g4⟩ := g
    refine .inr (.inl ⟨a, _, xs, rfl, rfl, h1, fun e => ?_, g2, g3, by rw [← h2.length]; exact g4, fun q hq => p.tup sr hq (h2.replicate _)⟩)
    rw [isEmpty_rvs h2, e] at g1
    cases g1
  · rw [RV.int_iff] at r2; subst r2
    split at p
    · rename_i a e1
      obtain ⟨x, xs, rfl, h1, h2⟩ := r1.list sr e1
      obtain ⟨g, p⟩ := post_guard p
      simp only [Bool.and_eq_true, decide_eq_true_eq] at g
      obtain ⟨⟨g1, g2⟩, g3⟩ := g
      exact .inr (.inr ⟨x, _, xs, rfl, rfl, h1, g1, g2, by rw [← h2.length]; exact okLen_le g3, fun q hq => p.lst sr hq (h2.replicate _)⟩)
    · exact p.elim
  · exact p.elim
def oDiv : D → D → Sto → Res D
  | .int i, .int j, S => guard (decide (0 < j) && decide (j.natAbs.log2 < 9000)) (.ok (.int (i / j)) S)
  | _, _, _ => .bad
theorem snd_div {G : Gd} : Snd2 G (rI CDivW fun i j => .int (i / j)) oDiv := by
  intro w β S H σ d1 d2 v1 v2 Q sr r1 r2 p
  unfold oDiv at p
  split at p
  · rw [RV.int_iff] at r1 r2; subst r1 r2
    obtain ⟨g, p⟩ := post_guard p
    simp only [Bool.and_eq_true, decide_eq_true_eq] at g
    exact ⟨_, _, rfl, rfl, g, p.ok0 sr (RV.int_iff.mpr rfl)⟩
  · exact p.elim
def oMod : D → D → Sto → Res D
  | .int i, .int j, S => guard (decide (0 < j)) (.ok (.int (i % j)) S)
  | _, _, _ => .bad
theorem snd_mod {G : Gd} : Snd2 G (rI (fun _ j => 0 < j) fun i j => .int (i % j)) oMod := by
  intro w β S H σ d1 d2 v1 v2 Q sr r1 r2 p
  unfold oMod at p
  split at p
  · rw [RV.int_iff] at r1 r2; subst r1 r2
    obtain ⟨g, p⟩ := post_guard p
    exact ⟨_, _, rfl, rfl, of_decide_eq_true g, p.ok0 sr (RV.int_iff.mpr rfl)⟩
  · exact p.elim
def oPow : D → D → Sto → Res D
  | .int i, .int j, S => guard (decide (0 ≤ j) && decide (j ≤ 1000000) && decide (i.natAbs < 2 ^ 64)) (.ok (.int (i ^ j.toNat)) S)
  | _, _, _ => .bad
theorem snd_pow {G : Gd} : Snd2 G (rI CPow fun i j => .int (i ^ j.toNat)) oPow := by
  intro w β S H σ d1 d2 v1 v2 Q sr r1 r2 p
  unfold oPow at p
  split at p
  · rw [RV.int_iff] at r1 r2; subst r1 r2
    obtain ⟨g, p⟩ := post_guard p
    simp only [Bool.and_eq_true, decide_eq_true_eq] at g
    exact ⟨_, _, rfl, rfl, ⟨g.1.1, g.1.2, g.2⟩, p.ok0 sr (RV.int_iff.mpr rfl)⟩
  · exact p.elim
def oNeg : D → Sto → Res D
  | .int i, S => .ok (.int (-i)) S
  | _, _ => .bad
theorem snd_neg {G : Gd} : Snd1 G (rU fun i => .int (-i)) oNeg := by
  intro w β S H σ d v Q sr r p
  unfold oNeg at p
  split at p
  · rw [RV.int_iff] at r; subst r
    exact ⟨_, rfl, p.ok0 sr (RV.int_iff.mpr rfl)⟩
  · exact p.elim

/-! ### comparisons -/
def oCmp (g : Int → Int → Bool) : D → D → Sto → Res D
  | .int i, .int j, S => .ok (.bl (g i j)) S
  | _, _, _ => .bad
theorem snd_cmp {G : Gd} {g : Int → Int → Bool} : Snd2 G (rI0 fun i j => .bl (g i j)) (oCmp g) := by
  intro w β S H σ d1 d2 v1 v2 Q sr r1 r2 p
  unfold oCmp at p
  split at p
  · rw [RV.int_iff] at r1 r2; subst r1 r2
    exact ⟨_, _, rfl, rfl, p.ok0 sr (RV.bl_iff.mpr rfl)⟩
  · exact p.elim
mutual
/-- data as the library has them (no list that changes) -/
def D.py0 : D → Option PyData
  | .non => some .none
  | .bl b => some (.bool b)
  | .int i => some (.int i)
  | .str x => some (.str x)
  | .tup ds => (D.py0s ds).map .tuple
  | .lst ds => (D.py0s ds).map .list
  | .fr ds => (D.py0s ds).map .list
  | _ => none
def D.py0s : List D → Option (List PyData)
  | [] => some []
  | d :: ds => match D.py0 d, D.py0s ds with
    | some p, some ps => some (p :: ps)
    | _, _ => none
end
def D.py (S : Sto) : D → Option PyData
  | .ref n => match S[n]? with
    | some ds => (D.py0s ds).map .list
    | none => none
  | d => d.py0
section
variable {G : Gd} {β : List Addr} {H : Hp} {S : Sto}
mutual
theorem py0_sound : ∀ {d : D} {v : V} {p : PyData}, RV G β H d v → d.py0 = some p → Dp G.K H v p
  | .non, v, p, h, e => by
    rw [RV.non_iff] at h; subst h
    simp only [D.py0, Option.some.injEq] at e; subst e; exact .non
  | .bl b, v, p, h, e => by
    rw [RV.bl_iff] at h; subst h
    simp only [D.py0, Option.some.injEq] at e; subst e; exact .bl b
  | .int i, v, p, h, e => by
    rw [RV.int_iff] at h; subst h
    simp only [D.py0, Option.some.injEq] at e; subst e; exact .int i
  | .str x, v, p, h, e => by
    rw [RV.str_iff] at h; subst h
    simp only [D.py0, Option.some.injEq] at e; subst e; exact .str x
  | .ty n, v, p, h, e => by simp [D.py0] at e
  | .exo _ _ _, v, p, h, e => by simp [D.py0] at e
  | .ref n, v, p, h, e => by simp [D.py0] at e
  | .tup ds, v, p, h, e => by
    obtain ⟨a, vs, rfl, h1, h2⟩ := RV.tup_iff.mp h
    simp only [D.py0, Option.map_eq_some_iff] at e
    obtain ⟨ps, e1, rfl⟩ := e
    exact .tup h1 (py0s_sound h2 e1)
  | .lst ds, v, p, h, e => by
    rw [RV] at h
    obtain ⟨a, vs, rfl, _, h1, h2⟩ := h
    simp only [D.py0, Option.map_eq_some_iff] at e
    obtain ⟨ps, e1, rfl⟩ := e
    exact .lst (SqL.of h1) (py0s_sound h2 e1)
  | .fr ds, v, p, h, e => by
    rw [RV] at h
    obtain ⟨a, vs, rfl, h1, h2⟩ := h
    simp only [D.py0, Option.map_eq_some_iff] at e
    obtain ⟨ps, e1, rfl⟩ := e
    exact .lst h1.sql (py0s_sound h2 e1)
theorem py0s_sound : ∀ {ds : List D} {vs : List V} {ps : List PyData}, RVs G β H ds vs → D.py0s ds = some ps → DpAll G.K H vs ps
  | [], vs, ps, h, e => by
    rw [RVs.nil_iff.mp h]
    simp only [D.py0s, Option.some.injEq] at e; subst e; exact .nil
  | d :: ds, vs, ps, h, e => by
    obtain ⟨v, r, rfl, h1, h2⟩ := RVs.cons_iff.mp h
    simp only [D.py0s] at e
    split at e
    · rename_i p qs e1 e2
      cases e
      exact .cons (py0_sound h1 e1) (py0s_sound h2 e2)
    · cases e
end
theorem py_sound {d : D} {v : V} {p : PyData} (sr : SR G β H S) (h : RV G β H d v) (e : d.py S = some p) : Dp G.K H v p := by
  unfold D.py at e
  split at e
  · rename_i n
    rw [RV] at h
    obtain ⟨a, rfl, h1⟩ := h
    split at e
    · rename_i ds q
      obtain ⟨vs, h2, h3⟩ := sr.at_ n ds a q h1
      simp only [Option.map_eq_some_iff] at e
      obtain ⟨ps, e1, rfl⟩ := e
      exact .lst (SqL.of h2) (py0s_sound h3 e1)
    · cases e
  · exact py0_sound h e
end
/-- ==: the answer, where it is told -/
def D.eq (S : Sto) : D → D → Option Bool
  | .int i, .int j => some (decide (i = j))
  | .str i, .str j => some (decide (i = j))
  | .bl i, .bl j => some (decide (i = j))
  | x, y => match x.py S, y.py S with
    | some p, some q => if (SeqAt.shaped p && SeqAt.shaped q) = true then some (PyData.eqv p q) else none
    | _, _ => none
def oEq (d e : D) (S : Sto) : Res D := match D.eq S d e with
  | some b => .ok (.bl b) S
  | none => .bad
def oNe (d e : D) (S : Sto) : Res D := match D.eq S d e with
  | some b => .ok (.bl (!b)) S
  | none => .bad
theorem eq_sound {G : Gd} {β : List Addr} {H : Hp} {S : Sto} {d1 d2 : D} {v1 v2 : V} {b : Bool} (sr : SR G β H S) (r1 : RV G β H d1 v1) (r2 : RV G β H d2 v2) (e : D.eq S d1 d2 = some b) :
    (scal v1 v2 = true ∧ b = decide (v1 = v2)) ∨ ∃ p q, Dp G.K H v1 p ∧ Dp G.K H v2 q ∧ SeqAt.shaped p = true ∧ SeqAt.shaped q = true ∧ b = PyData.eqv p q := by
  unfold D.eq at e
  split at e
  · rw [RV.int_iff] at r1 r2; subst r1 r2; cases e
    exact .inl ⟨rfl, by simp⟩
  · rw [RV.str_iff] at r1 r2; subst r1 r2; cases e
    exact .inl ⟨rfl, by simp⟩
  · rw [RV.bl_iff] at r1 r2; subst r1 r2; cases e
    exact .inl ⟨rfl, by simp⟩
  · split at e
    · rename_i p q e1 e2
      split at e
      · rename_i g
        simp only [Bool.and_eq_true] at g
        cases e
        exact .inr ⟨p, q, py_sound sr r1 e1, py_sound sr r2 e2, g.1, g.2, rfl⟩
      · cases e
    · cases e
def rEq2 (K : PySem.W.Frag) : R2 := fun x y H Q => rEq x y H Q ∨ rEqD K x y H Q
def rNe2 (K : PySem.W.Frag) : R2 := fun x y H Q => rNe x y H Q ∨ rNeD K x y H Q
theorem op_eq2 {X : Cx} (hu : X.A.units + 64 < cLine) : OpR X (compareOp .Eq) (rEq2 X.K) := OpR.or op_eq (op_eqD hu)
theorem op_ne2 {X : Cx} (hu : X.A.units + 64 < cLine) : OpR X (compareOp .NotEq) (rNe2 X.K) := OpR.or op_ne (op_neD hu)
theorem snd_eq {G : Gd} : Snd2 G (rEq2 G.K) oEq := by
  intro w β S H σ d1 d2 v1 v2 Q sr r1 r2 p
  unfold oEq at p
  split at p
  · rename_i b e
    have q := p.ok0 sr (RV.bl_iff.mpr rfl)
    rcases eq_sound sr r1 r2 e with ⟨h1, rfl⟩ | ⟨x, y, h1, h2, h3, h4, rfl⟩
    · exact .inl ⟨h1, q⟩
    · exact .inr ⟨x, y, h1, h2, h3, h4, q⟩
  · exact p.elim
theorem snd_ne {G : Gd} : Snd2 G (rNe2 G.K) oNe := by
  intro w β S H σ d1 d2 v1 v2 Q sr r1 r2 p
  unfold oNe at p
  split at p
  · rename_i b e
    have q := p.ok0 sr (RV.bl_iff.mpr rfl)
    rcases eq_sound sr r1 r2 e with ⟨h1, rfl⟩ | ⟨x, y, h1, h2, h3, h4, rfl⟩
    · exact .inl ⟨h1, q⟩
    · exact .inr ⟨x, y, h1, h2, h3, h4, q⟩
  · exact p.elim
/-- is None -/
def D.isN : D → Bool
  | .non => true
  | _ => false
theorem isN_sound {G : Gd} {β : List Addr} {H : Hp} {d : D} {v : V} (r : RV G β H d v) : d.isN = decide (v = .non) := by
  cases d <;> rw [RV] at r
  case non => subst r; rfl
  case bl => subst r; rfl
  case int => subst r; rfl
  case str => subst r; rfl
  case ty => subst r; rfl
  case tup => obtain ⟨a, vs, rfl, _⟩ := r; rfl
  case lst => obtain ⟨a, vs, rfl, _⟩ := r; rfl
  case fr => obtain ⟨a, vs, rfl, _⟩ := r; rfl
  case ref => obtain ⟨a, rfl, _⟩ := r; rfl
  case exo => obtain ⟨a, cv, C, dd, gs, vs, _, rfl, _⟩ := r; rfl
def oIs (d e : D) (S : Sto) : Res D := match e with
  | .non => .ok (.bl d.isN) S
  | _ => .bad
def oIsNot (d e : D) (S : Sto) : Res D := match e with
  | .non => .ok (.bl (!d.isN)) S
  | _ => .bad
theorem snd_is {G : Gd} : Snd2 G (fun x y H Q => y = .non ∧ Q (.bl (decide (x = .non))) H) oIs := by
  intro w β S H σ d1 d2 v1 v2 Q sr r1 r2 p
  unfold oIs at p
  split at p
  · rw [RV.non_iff] at r2
    exact ⟨r2, by rw [← isN_sound r1]; exact p.ok0 sr (RV.bl_iff.mpr rfl)⟩
  · exact p.elim
theorem snd_isNot {G : Gd} : Snd2 G (fun x y H Q => y = .non ∧ Q (.bl (!decide (x = .non))) H) oIsNot := by
  intro w β S H σ d1 d2 v1 v2 Q sr r1 r2 p
  unfold oIsNot at p
  split at p
  · rw [RV.non_iff] at r2
    exact ⟨r2, by rw [← isN_sound r1]; exact p.ok0 sr (RV.bl_iff.mpr rfl)⟩
  · exact p.elim

/-! ### items, slices -/
def oIx : D → D → Sto → Res D
  | .str z, .int i, S => match atI z.cps.toList i with
    | some c => guard (okLen z.length) (.ok (.str ⟨#[c]⟩) S)
    | none => .bad
  | x, .int i, S => match x.seq S with
    | some ds => match atI ds i with
      | some d => .ok d S
      | none => .bad
    | none => .bad
  | _, _, _ => .bad
theorem RVs.atI {G : Gd} {β : List Addr} {H : Hp} {ds : List D} {vs : List V} {i : Int} {d : D} (h : RVs G β H ds vs) (e : L2.atI ds i = some d) : ∃ v, L2.atI vs i = some v ∧ RV G β H d v := by
  unfold L2.atI at e ⊢
  rw [← h.length]
  cases q : ixN ds.length i with
  | none => rw [q] at e; cases e
  | some j =>
    rw [q] at e
    exact h.get e
theorem snd_ix {G : Gd} : Snd2 G (rIx G.K) oIx := by
  intro w β S H σ d1 d2 v1 v2 Q sr r1 r2 p
  unfold oIx at p
  split at p
  · rw [RV.str_iff] at r1
    rw [RV.int_iff] at r2
    subst r1 r2
    split at p
    · rename_i c e
      obtain ⟨g, p⟩ := post_guard p
      exact .inr (.inr ⟨_, _, c, rfl, rfl, okLen_le g, e, p.ok0 sr (RV.str_iff.mpr rfl)⟩)
    · exact p.elim
  · rw [RV.int_iff] at r2
    subst r2
    split at p
    · rename_i ds e
      split at p
      · rename_i d e2
        obtain ⟨a, vs, rfl, h1, h2⟩ := r1.seq sr e
        obtain ⟨v, h3, h4⟩ := h2.atI e2
        rcases h1 with h1 | h1
        · exact .inl ⟨a, vs, _, v, rfl, rfl, h1, h3, p.ok0 sr h4⟩
        · exact .inr (.inl ⟨a, vs, _, v, rfl, rfl, h1, h3, p.ok0 sr h4⟩)
      · exact p.elim
    · exact p.elim
  · exact p.elim
theorem de_ix {X : Cx} {xc : XC} {w : St → XK} {a b : Expr} {pos : Pos} {f g : Rho → Sto → Res D} (ha : PE X a (cE (am X xc w) f)) (hb : PE X b (cE (am X xc w) g)) (hs : PlainIx b := by exact fun _ _ => rfl) : PE X (.Subscript a b pos) (cE (am X xc w) (dOp oIx f g)) :=
  PE.imp (pe_ix ix_seq ha hb hs) fun _ _ _ h => cOp snd_ix h
def cutD {α : Type} (xs : List α) (lo hi : Option Int) : List α := (xs.drop (HT.sIx xs.length 0 lo)).take (HT.sIx xs.length xs.length hi - HT.sIx xs.length 0 lo)
theorem RVs.cutD {G : Gd} {β : List Addr} {H : Hp} {ds : List D} {vs : List V} (h : RVs G β H ds vs) (lo hi : Option Int) : RVs G β H (DE.cutD ds lo hi) (cutV vs lo hi) := by
  unfold DE.cutD cutV
  rw [h.length]
  exact (h.drop _).take _
def oSl : D → Option Int → Option Int → Sto → Res D
  | .str z, lo, hi, S => guard (okLen z.length) (.ok (.str (cutS z lo hi)) S)
  | .tup ds, lo, hi, S => .ok (.tup (cutD ds lo hi)) S
  | x, lo, hi, S => match x.seqL S with
    | some ds => .ok (.lst (cutD ds lo hi)) S
    | none => .bad
def rSl3 (K : PySem.W.Frag) : V → Option Int → Option Int → Hp → VK → Prop := fun x lo hi H Q => (rSlL K x lo hi H Q ∨ rSlA K x lo hi H Q) ∨ rSlS x lo hi H Q
theorem sl_3 {X : Cx} : SlR X (rSl3 X.K) := SlR.or (SlR.or sl_list sl_tupA) sl_str
theorem cutD_all {α : Type} {xs : List α} {lo hi : Option Int} (h : HT.sIx xs.length 0 lo = 0 ∧ HT.sIx xs.length xs.length hi = xs.length) : cutD xs lo hi = xs := by
  unfold cutD
  rw [h.1, h.2]
  simp
theorem snd_sl {G : Gd} (w : St → XK) {β : List Addr} {S : Sto} {H : Hp} {σ : St} {d : D} {v : V} {lo hi : Option Int} {Q : VK} (sr : SR G β H S) (r : RV G β H d v) (p : Post ⟨G, w⟩ (RV G) β H σ Q (oSl d lo hi S)) : rSl3 G.K v lo hi H Q := by
  unfold oSl at p
  split at p
  · rw [RV.str_iff] at r; subst r
    obtain ⟨g, p⟩ := post_guard p
    exact .inr ⟨_, rfl, okLen_le g, p.ok0 sr (RV.str_iff.mpr rfl)⟩
  · obtain ⟨a, vs, rfl, h1, h2⟩ := RV.tup_iff.mp r
    refine .inl (.inr ⟨a, vs, rfl, h1, fun e => ?_, fun _ q hq => p.tup sr hq (h2.cutD lo hi)⟩)
    rw [← h2.length] at e
    rw [cutD_all e] at p
    exact p.ok0 sr r
  · split at p
    · rename_i ds e
      obtain ⟨a, vs, rfl, h1, h2⟩ := r.seqL sr e
      exact .inl (.inl ⟨a, vs, rfl, h1, fun q hq => p.lst sr hq (h2.cutD lo hi)⟩)
    · exact p.elim
abbrev RO : List Addr → Hp → Option Int → Option Int → Prop := fun _ _ a b => a = b
abbrev cO (c : Amb) (f : Rho → Sto → Res (Option Int)) : TO := cG c RO f
def dNoP : Rho → Sto → Res (Option Int) := fun _ S => .ok none S
def dP (f : Rho → Sto → Res D) : Rho → Sto → Res (Option Int) := dB f fun d _ S => match d with
  | .int i => .ok (some i) S
  | _ => .bad
section
variable {X : Cx} {xc : XC} {w : St → XK} {a e : Expr} {pos p2 : Pos} {lo hi : Option Expr} {f : Rho → Sto → Res D} {fl fh : Rho → Sto → Res (Option Int)}
theorem dp_none : PO X none (cO (am X xc w) dNoP) := ⟨fun pins s σ H Q I h => (po_none).run pins s σ H Q I (by
  obtain ⟨β, S, ρ, sr, rs, p⟩ := h
  exact p β H none .refl sr rfl)⟩
theorem dp_some (he : PE X e (cE (am X xc w) f)) : PO X (some e) (cO (am X xc w) (dP f)) := ⟨fun pins s σ H Q I h => (po_some he).run pins s σ H Q I (by
  obtain ⟨β, S, ρ, sr, rs, p⟩ := h
  refine cG_step sr rs p fun d S1 β1 H1 v x1 sr1 rs1 r1 p1 => ?_
  cases d with
  | int i =>
    rw [RV.int_iff] at r1
    exact ⟨i, r1, p1 β1 H1 _ .refl sr1 rfl⟩
  | _ => exact p1.elim)⟩
def dSl (f : Rho → Sto → Res D) (fl fh : Rho → Sto → Res (Option Int)) : Rho → Sto → Res D := dB f fun d => dB fl fun lo => dB fh fun hi _ S => oSl d lo hi S
theorem de_slice (ha : PE X a (cE (am X xc w) f)) (hl : PO X lo (cO (am X xc w) fl)) (hh : PO X hi (cO (am X xc w) fh)) : PE X (.Subscript a (.Slice lo hi none p2) pos) (cE (am X xc w) (dSl f fl fh)) := PE.imp (pe_slice sl_3 ha hl hh) fun σ H Q h => by
  obtain ⟨β, S, ρ, sr, rs, p⟩ := h
  refine cG_step sr rs p fun d S1 β1 H1 v x1 sr1 rs1 r1 p1 => cG_step sr1 rs1 p1 fun l S2 β2 H2 l' x2 sr2 rs2 r2 p2 => cG_step sr2 rs2 p2 fun u S3 β3 H3 u' x3 sr3 rs3 r3 p3 => ?_
  subst r2 r3
  exact snd_sl w sr3 ((r1.mono sr1 x2).mono sr2 x3) p3
end
end DE

set_option Elab.async false
set_option linter.all false
set_option maxRecDepth 100000
set_option maxHeartbeats 4000000
/-! DE3: built-ins by name. -/
namespace DE
open PySem PySem.Spec L2
open PyProof.Rows hiding St

abbrev RC := List V → Hp → VK → Prop
def SndC (G : Gd) (r : RC) (o : List D → Sto → Res D) : Prop :=
  ∀ (w : St → XK) (β : List Addr) (S : Sto) (H : Hp) (σ : St) (ds : List D) (vs : List V) (Q : VK), SR G β H S → RVs G β H ds vs → Post ⟨G, w⟩ (RV G) β H σ Q (o ds S) → r vs H Q
theorem CallR.or {X : Cx} {f : Value} {r r' : RC} (h : CallR X f r) (h' : CallR X f r') : CallR X f (fun xs H Q => r xs H Q ∨ r' xs H Q) := by
  intro pins s σ H xs us Q I rr q
  rcases q with q | q
  · exact h pins s σ H xs us Q I rr q
  · exact h' pins s σ H xs us Q I rr q
def dCB (o : List D → Sto → Res D) (fs : Rho → Sto → Res (List D)) : Rho → Sto → Res D := dB fs fun ds _ S => o ds S
section
variable {X : Cx} {xc : XC} {w : St → XK} {e : Expr} {es : List Expr} {p pos : Pos} {x : Str} {fs : Rho → Sto → Res (List D)} {r : RC} {o : List D → Sto → Res D} {id T : String}
theorem cCB (s : SndC (am X xc w).G r o) {σ : St} {H : Hp} {Q : VK} (h : cE (am X xc w) (dCB o fs) σ H Q) : cA (am X xc w) fs σ H fun vs H1 => r vs H1 Q := by
  obtain ⟨β, S, ρ, sr, rs, p⟩ := h
  exact cG_step sr rs p fun ds S1 β1 H1 vs x1 sr1 rs1 r1 p1 => s _ _ _ _ _ _ _ _ sr1 r1 p1
theorem de_callB (hc : CallR X (.builtin id) r) (s : SndC (am X xc w).G r o) (hv : bootBuiltins x = some (.builtin id)) (hm : X.mg x = none) (ha : PA X (e :: es) (cA (am X xc w) fs)) (hg : Gl X x := by rfl) (hn : x ≠ "__name__" := by decide) (hdb : (x == ("__debug__" : Str)) = false := by decide)
    (he : starEach (e :: es) X.env = (false, eval e X.env) :: starEach es X.env := by rfl) (hpl : (backTo pos (starEach es X.env)).any (·.1) = false := by rfl) : PE X (.Call (.Name x p) (e :: es) [] pos) (cE (am X xc w) (dCB o fs)) :=
  PE.imp (pe_callB hc hg hm hv ha hn hdb he hpl) fun _ _ _ h => cCB s h
theorem de_callTy (hc : CallR X (.type T) r) (s : SndC (am X xc w).G r o) (hv : bootBuiltins x = some (.type T)) (hm : X.mg x = none) (ha : PA X (e :: es) (cA (am X xc w) fs)) (hg : Gl X x := by rfl) (hn : x ≠ "__name__" := by decide) (hdb : (x == ("__debug__" : Str)) = false := by decide)
    (he : starEach (e :: es) X.env = (false, eval e X.env) :: starEach es X.env := by rfl) (hpl : (backTo pos (starEach es X.env)).any (·.1) = false := by rfl) : PE X (.Call (.Name x p) (e :: es) [] pos) (cE (am X xc w) (dCB o fs)) :=
  PE.imp (pe_callTy hc hg hm hv ha hn hdb he hpl) fun _ _ _ h => cCB s h
theorem de_callBf (hc : CallR X (.builtin id) r) (s : SndC (am X xc w).G r o) (hm : X.mg x = some (.builtin id)) (ha : PA X (e :: es) (cA (am X xc w) fs)) (hg : Gl X x := by rfl) (hdb : (x == ("__debug__" : Str)) = false := by decide)
    (he : starEach (e :: es) X.env = (false, eval e X.env) :: starEach es X.env := by rfl) (hpl : (backTo pos (starEach es X.env)).any (·.1) = false := by rfl) : PE X (.Call (.Name x p) (e :: es) [] pos) (cE (am X xc w) (dCB o fs)) :=
  PE.imp (pe_callBfun hc hg hm ha hdb he hpl) fun _ _ _ h => cCB s h
end

section
variable {G : Gd} {β : List Addr} {H : Hp} {S : Sto} {ds : List D} {vs : List V} {d d2 : D}
theorem RVs.one (h : RVs G β H [d] vs) : ∃ v, vs = [v] ∧ RV G β H d v := by
  obtain ⟨v, r, rfl, h1, h2⟩ := RVs.cons_iff.mp h
  rw [RVs.nil_iff.mp h2]
  exact ⟨v, rfl, h1⟩
theorem RVs.two (h : RVs G β H [d, d2] vs) : ∃ v u, vs = [v, u] ∧ RV G β H d v ∧ RV G β H d2 u := by
  obtain ⟨v, r, rfl, h1, h2⟩ := RVs.cons_iff.mp h
  obtain ⟨u, rfl, h3⟩ := h2.one
  exact ⟨v, u, rfl, h1, h3⟩

/-! len, tuple, list, all, any, int, bool, str, abs, max, min, gcd, isinstance -/
def oLen : List D → Sto → Res D
  | [.str z], S => guard (okLen z.length) (.ok (.int z.length) S)
  | [d], S => match d.seq S with
    | some l => .ok (.int l.length) S
    | none => .bad
  | _, _ => .bad
theorem snd_len : SndC G (fun xs H Q => ∃ x n, xs = [x] ∧ LenV G.K x H n ∧ Q (.int n) H) oLen := by
  intro w β S H σ ds vs Q sr r p
  unfold oLen at p
  split at p
  · obtain ⟨v, rfl, r1⟩ := r.one
    rw [RV.str_iff] at r1; subst r1
    obtain ⟨g, p⟩ := post_guard p
    exact ⟨_, _, rfl, ⟨okLen_le g, rfl⟩, p.ok0 sr (RV.int_iff.mpr rfl)⟩
  · obtain ⟨v, rfl, r1⟩ := r.one
    split at p
    · rename_i l e
      obtain ⟨a, vs, rfl, h1, h2⟩ := r1.seq sr e
      have q := p.ok0 sr (RV.int_iff.mpr rfl)
      rw [h2.length] at q
      exact ⟨_, _, rfl, h1.imp (fun h => ⟨vs, h, rfl⟩) (fun h => ⟨vs, h, rfl⟩), q⟩
    · exact p.elim
  · exact p.elim
def oTuple : List D → Sto → Res D
  | [.tup l], S => .ok (.tup l) S
  | [d], S => match d.seqL S with
    | some l => .ok (.tup l) S
    | none => .bad
  | _, _ => .bad
theorem snd_tuple : SndC G (fun xs H Q => ∃ p ys, xs = [.ref p] ∧ ((SqL G.K H p ys ∧ ∀ l, H l = none → Q (.ref l) (upd H l (.tup ys))) ∨ (SqT G.K H p ys ∧ Q (.ref p) H))) oTuple := by
  intro w β S H σ ds vs Q sr r p
  unfold oTuple at p
  split at p
  · obtain ⟨v, rfl, r1⟩ := r.one
    obtain ⟨a, ws, rfl, h1, h2⟩ := RV.tup_iff.mp r1
    exact ⟨a, ws, rfl, .inr ⟨h1, p.ok0 sr r1⟩⟩
  · obtain ⟨v, rfl, r1⟩ := r.one
    split at p
    · rename_i l e
      obtain ⟨a, ws, rfl, h1, h2⟩ := r1.seqL sr e
      exact ⟨a, ws, rfl, .inl ⟨h1, fun q hq => p.tup sr hq h2⟩⟩
    · exact p.elim
  · exact p.elim
def oList : List D → Sto → Res D
  | [d], S => match d.seq S with
    | some l => .ok (.lst l) S
    | none => .bad
  | _, _ => .bad
def oListM : List D → Sto → Res D
  | [d], S => match d.seq S with
    | some l => .ok (.ref S.length) (S ++ [l])
    | none => .bad
  | _, _ => .bad
theorem snd_list : SndC G (fun xs H Q => ∃ p ys, xs = [.ref p] ∧ (SqL G.K H p ys ∨ SqT G.K H p ys) ∧ ∀ l, H l = none → Q (.ref l) (upd H l (.lst ys))) oList := by
  intro w β S H σ ds vs Q sr r p
  unfold oList at p
  split at p
  · obtain ⟨v, rfl, r1⟩ := r.one
    split at p
    · rename_i l e
      obtain ⟨a, ws, rfl, h1, h2⟩ := r1.seq sr e
      exact ⟨a, ws, rfl, h1, fun q hq => p.lst sr hq h2⟩
    · exact p.elim
  · exact p.elim
theorem snd_listM : SndC G (fun xs H Q => ∃ p ys, xs = [.ref p] ∧ (SqL G.K H p ys ∨ SqT G.K H p ys) ∧ ∀ l, H l = none → Q (.ref l) (upd H l (.lst ys))) oListM := by
  intro w β S H σ ds vs Q sr r p
  unfold oListM at p
  split at p
  · obtain ⟨v, rfl, r1⟩ := r.one
    split at p
    · rename_i l e
      obtain ⟨a, ws, rfl, h1, h2⟩ := r1.seq sr e
      exact ⟨a, ws, rfl, h1, fun q hq => p.lstM sr hq h2⟩
    · exact p.elim
  · exact p.elim
def bls : List D → Option (List Bool)
  | [] => some []
  | .bl b :: r => (bls r).map (b :: ·)
  | _ :: _ => none
def intsD : List D → Option (List Int)
  | [] => some []
  | .int b :: r => (intsD r).map (b :: ·)
  | _ :: _ => none
theorem bls_sound : ∀ {ds : List D} {vs : List V} {bs : List Bool}, RVs G β H ds vs → bls ds = some bs → vs = bs.map V.bl
  | [], vs, bs, h, e => by
    rw [RVs.nil_iff.mp h]
    cases e; rfl
  | d :: ds, vs, bs, h, e => by
    obtain ⟨v, r, rfl, h1, h2⟩ := RVs.cons_iff.mp h
    cases d with
    | bl b =>
      simp only [bls, Option.map_eq_some_iff] at e
      obtain ⟨l, e1, rfl⟩ := e
      rw [RV.bl_iff] at h1
      rw [h1, bls_sound h2 e1]; rfl
    | _ => simp [bls] at e
theorem intsD_sound : ∀ {ds : List D} {vs : List V} {bs : List Int}, RVs G β H ds vs → intsD ds = some bs → vs = bs.map V.int
  | [], vs, bs, h, e => by
    rw [RVs.nil_iff.mp h]
    cases e; rfl
  | d :: ds, vs, bs, h, e => by
    obtain ⟨v, r, rfl, h1, h2⟩ := RVs.cons_iff.mp h
    cases d with
    | int b =>
      simp only [intsD, Option.map_eq_some_iff] at e
      obtain ⟨l, e1, rfl⟩ := e
      rw [RV.int_iff] at h1
      rw [h1, intsD_sound h2 e1]; rfl
    | _ => simp [intsD] at e
def oBools (g : List Bool → Bool) : List D → Sto → Res D
  | [d], S => match d.seqL S with
    | some l => match bls l with
      | some bs => .ok (.bl (g bs)) S
      | none => .bad
    | none => .bad
  | _, _ => .bad
theorem snd_bools (g : List Bool → Bool) : SndC G (fun vs H Q => ∃ (a : Addr) (bs : List Bool), vs = [V.ref a] ∧ SqL G.K H a (bs.map V.bl) ∧ Q (.bl (g bs)) H) (oBools g) := by
  intro w β S H σ ds vs Q sr r p
  unfold oBools at p
  split at p
  · obtain ⟨v, rfl, r1⟩ := r.one
    split at p
    · rename_i l e
      split at p
      · rename_i bs e2
        obtain ⟨a, ws, rfl, h1, h2⟩ := r1.seqL sr e
        rw [bls_sound h2 e2] at h1
        exact ⟨a, bs, rfl, h1, p.ok0 sr (RV.bl_iff.mpr rfl)⟩
      · exact p.elim
    · exact p.elim
  · exact p.elim
def oSum : List D → Sto → Res D
  | [d], S => match d.seqL S with
    | some l => match intsD l with
      | some bs => .ok (.int bs.sum) S
      | none => .bad
    | none => .bad
  | _, _ => .bad
theorem snd_sum : SndC G (rSum G.K) oSum := by
  intro w β S H σ ds vs Q sr r p
  unfold oSum at p
  split at p
  · obtain ⟨v, rfl, r1⟩ := r.one
    split at p
    · rename_i l e
      split at p
      · rename_i bs e2
        obtain ⟨a, ws, rfl, h1, h2⟩ := r1.seqL sr e
        rw [intsD_sound h2 e2] at h1
        exact ⟨a, bs, rfl, h1, p.ok0 sr (RV.int_iff.mpr rfl)⟩
      · exact p.elim
    · exact p.elim
  · exact p.elim
def oInt : List D → Sto → Res D
  | [.int i], S => .ok (.int i) S
  | [.bl b], S => .ok (.int (if b then 1 else 0)) S
  | _, _ => .bad
theorem snd_int : SndC G (fun xs H Q => (∃ i, xs = [.int i] ∧ Q (.int i) H) ∨ ∃ k, xs = [.bl k] ∧ Q (.int (if k then 1 else 0)) H) oInt := by
  intro w β S H σ ds vs Q sr r p
  unfold oInt at p
  split at p
  · obtain ⟨v, rfl, r1⟩ := r.one
    rw [RV.int_iff] at r1; subst r1
    exact .inl ⟨_, rfl, p.ok0 sr (RV.int_iff.mpr rfl)⟩
  · obtain ⟨v, rfl, r1⟩ := r.one
    rw [RV.bl_iff] at r1; subst r1
    exact .inr ⟨_, rfl, p.ok0 sr (RV.int_iff.mpr rfl)⟩
  · exact p.elim
def oBool : List D → Sto → Res D
  | [.int i], S => .ok (.bl (i != 0)) S
  | [.bl b], S => .ok (.bl b) S
  | _, _ => .bad
theorem snd_bool : SndC G (fun xs H Q => (∃ i, xs = [.int i] ∧ Q (.bl (i != 0)) H) ∨ ∃ k, xs = [.bl k] ∧ Q (.bl k) H) oBool := by
  intro w β S H σ ds vs Q sr r p
  unfold oBool at p
  split at p
  · obtain ⟨v, rfl, r1⟩ := r.one
    rw [RV.int_iff] at r1; subst r1
    exact .inl ⟨_, rfl, p.ok0 sr (RV.bl_iff.mpr rfl)⟩
  · obtain ⟨v, rfl, r1⟩ := r.one
    rw [RV.bl_iff] at r1; subst r1
    exact .inr ⟨_, rfl, p.ok0 sr (RV.bl_iff.mpr rfl)⟩
  · exact p.elim
def oStr : List D → Sto → Res D
  | [.int i], S => guard (decide (i.natAbs.log2 < 1920)) (.ok (.str (toString i)) S)
  | _, _ => .bad
theorem snd_str : SndC G (fun xs H Q => ∃ i, xs = [.int i] ∧ i.natAbs.log2 < 1920 ∧ Q (.str (toString i)) H) oStr := by
  intro w β S H σ ds vs Q sr r p
  unfold oStr at p
  split at p
  · obtain ⟨v, rfl, r1⟩ := r.one
    rw [RV.int_iff] at r1; subst r1
    obtain ⟨g, p⟩ := post_guard p
    exact ⟨_, rfl, of_decide_eq_true g, p.ok0 sr (RV.str_iff.mpr rfl)⟩
  · exact p.elim
def oI2 (g : Int → Int → Int) : List D → Sto → Res D
  | [.int i, .int j], S => .ok (.int (g i j)) S
  | _, _ => .bad
theorem snd_i2 (g : Int → Int → Int) : SndC G (fun xs H Q => ∃ i j, xs = [.int i, .int j] ∧ Q (.int (g i j)) H) (oI2 g) := by
  intro w β S H σ ds vs Q sr r p
  unfold oI2 at p
  split at p
  · obtain ⟨v, u, rfl, r1, r2⟩ := r.two
    rw [RV.int_iff] at r1 r2; subst r1 r2
    exact ⟨_, _, rfl, p.ok0 sr (RV.int_iff.mpr rfl)⟩
  · exact p.elim
def oI1 (g : Int → Int) : List D → Sto → Res D
  | [.int i], S => .ok (.int (g i)) S
  | _, _ => .bad
theorem snd_i1 (g : Int → Int) : SndC G (fun xs H Q => ∃ i, xs = [.int i] ∧ Q (.int (g i)) H) (oI1 g) := by
  intro w β S H σ ds vs Q sr r p
  unfold oI1 at p
  split at p
  · obtain ⟨v, rfl, r1⟩ := r.one
    rw [RV.int_iff] at r1; subst r1
    exact ⟨_, rfl, p.ok0 sr (RV.int_iff.mpr rfl)⟩
  · exact p.elim
def gcdI (a b : Int) : Int := ((Nat.gcd a.natAbs b.natAbs : Nat) : Int)
/-- the name of a value's built-in class -/
def D.cls (S : Sto) : D → Option String
  | .non => some "NoneType"
  | .bl _ => some "bool"
  | .int _ => some "int"
  | .str _ => some "str"
  | .tup _ => some "tuple"
  | .lst _ => some "list"
  | .fr _ => some "list"
  | .ref n => if n < S.length then some "list" else none
  | .ty _ => none
  | .exo _ _ _ => none
theorem cls_sound {v : V} {n : String} (sr : SR G β H S) (r : RV G β H d v) (e : d.cls S = some n) : TyX G.K H v (.type n) := by
  cases d with
  | non => rw [RV.non_iff] at r; subst r; cases e; exact .base .non
  | bl b => rw [RV.bl_iff] at r; subst r; cases e; exact .base (.bl b)
  | int b => rw [RV.int_iff] at r; subst r; cases e; exact .base (.int b)
  | str b => rw [RV.str_iff] at r; subst r; cases e; exact .base (.str b)
  | ty b => cases e
  | exo _ _ _ => cases e
  | tup l =>
    obtain ⟨a, vs, rfl, h1, h2⟩ := RV.tup_iff.mp r
    cases e
    rcases h1 with (h1 | ⟨o, h1⟩) | ⟨o, its, m, h1, h3, _⟩
    · exact .base (.tup h1)
    · exact .fTuple h1
    · exact .kTuple h1 h3
  | lst l =>
    rw [RV] at r
    obtain ⟨a, vs, rfl, _, h1, h2⟩ := r
    cases e
    exact .base (.lst h1)
  | fr l =>
    rw [RV] at r
    obtain ⟨a, vs, rfl, h1, h2⟩ := r
    cases e
    rcases h1 with ⟨o, z⟩ | ⟨o, its, n, k1, k2, _⟩
    · exact .base (.frz z)
    · exact .kList k1 k2
  | ref m =>
    rw [RV] at r
    obtain ⟨a, rfl, h1⟩ := r
    simp only [D.cls] at e
    split at e
    · rename_i hm
      cases e
      obtain ⟨vs, h2, h3⟩ := sr.at_ m _ a (List.getElem?_eq_getElem hm) h1
      exact .base (.lst h2)
    · cases e
def oIsi : List D → Sto → Res D
  | [d, .ty n], S => match d.cls S with
    | some m => match kitB m n with
      | some b => .ok (.bl b) S
      | none => .bad
    | none => .bad
  | _, _ => .bad
theorem snd_isi : SndC G (rIsi G.K) oIsi := by
  intro w β S H σ ds vs Q sr r p
  unfold oIsi at p
  split at p
  · obtain ⟨v, u, rfl, r1, r2⟩ := r.two
    rw [RV.ty_iff] at r2; subst r2
    split at p
    · rename_i m e
      split at p
      · rename_i b e2
        exact ⟨v, _, _, _, b, rfl, .ty _, cls_sound sr r1 e, kit_ty e2, p.ok0 sr (RV.bl_iff.mpr rfl)⟩
      · exact p.elim
    · exact p.elim
  · exact p.elim
end

/-! ### repr of data -/
section
variable {X : Cx}
def rRepr (K : PySem.W.Frag) : RC := fun xs H Q => ∃ x p, xs = [x] ∧ Dp K H x p ∧ p.showable = true ∧ p.hasDict = false ∧ isDisplay p = true ∧ p.depth ≤ 60 ∧ p.shown.length ≤ sizeLine ∧ Q (.str p.shown) H
theorem call_reprD0 (hg : X.A.guards = some []) (hu : X.A.units + 64 < cLine) : CallR X (.builtin "repr") (rRepr X.K) := by
  intro pins s σ H xs us Q I r h
  obtain ⟨x, p, rfl, hd, h1, h2, h3, h4, h5, q⟩ := h
  obtain ⟨u, rfl, ru⟩ := vals1 r
  obtain ⟨as, rd⟩ := Dp.reads I p x u hd ru
  obtain ⟨a, rfl⟩ := isRef_of_reads rd h3
  refine repr_of_reads' rd h1 (PyData.noDict_hsm h2) hg (by omega) (fun _ _ e => e) (fun h' t tk k => ?_) h5
  exact ⟨.str p.shown, H, I.kept (t' := tk) k, ⟨t, rfl⟩, q⟩
end
def PyData.fine (p : PyData) : Bool := p.showable && !p.hasDict && PyProof.Rows.isDisplay p && decide (p.depth ≤ 60) && okLen p.shown.length
/-- of a number, a text, None besides -/
def rReprA (K : PySem.W.Frag) : RC := fun xs H Q => rRepr K xs H Q ∨ (∃ i, xs = [.int i] ∧ i.natAbs.log2 < 1920 ∧ Q (.str (toString i)) H) ∨ (∃ x, xs = [.str x] ∧ (reprText x).length ≤ sizeLine ∧ Q (.str (reprText x)) H) ∨ (xs = [.non] ∧ Q (.str "None") H)
theorem call_reprD {X : Cx} (hg : X.A.guards = some []) (hu : X.A.units + 64 < cLine) : CallR X (.builtin "repr") (rReprA X.K) := by
  intro pins s σ H xs us Q I r h
  rcases h with h | h | h | h
  · exact call_reprD0 hg hu pins s σ H xs us Q I r h
  · exact SkE.call_repr_int pins s σ H xs us Q I r h
  · obtain ⟨x, rfl, hz, q⟩ := h
    obtain ⟨u, rfl, t, rfl⟩ := vals1 r
    exact PySem.P.repr_of_str ⟨.str _, H, I.tok _, ⟨_, rfl⟩, q⟩ hz
  · obtain ⟨rfl, q⟩ := h
    obtain ⟨u, rfl, ru⟩ := vals1 r
    obtain rfl : u = Value.none := ru
    exact PySem.P.repr_of_none ⟨.str _, H, I.tok _, ⟨_, rfl⟩, q⟩
def oRepr : List D → Sto → Res D
  | [.int i], S => guard (decide (i.natAbs.log2 < 1920)) (.ok (.str (toString i)) S)
  | [.str x], S => guard (okLen (reprText x).length) (.ok (.str (reprText x)) S)
  | [.non], S => .ok (.str "None") S
  | [d], S => match d.py S with
    | some p => guard (PyData.fine p) (.ok (.str p.shown) S)
    | none => .bad
  | _, _ => .bad
theorem snd_repr {G : Gd} : SndC G (rReprA G.K) oRepr := by
  intro w β S H σ ds vs Q sr r p
  unfold oRepr at p
  split at p
  · obtain ⟨v, rfl, r1⟩ := r.one
    rw [RV.int_iff] at r1; subst r1
    obtain ⟨g, p⟩ := post_guard p
    exact .inr (.inl ⟨_, rfl, of_decide_eq_true g, p.ok0 sr (RV.str_iff.mpr rfl)⟩)
  · obtain ⟨v, rfl, r1⟩ := r.one
    rw [RV.str_iff] at r1; subst r1
    obtain ⟨g, p⟩ := post_guard p
    exact .inr (.inr (.inl ⟨_, rfl, okLen_le g, p.ok0 sr (RV.str_iff.mpr rfl)⟩))
  · obtain ⟨v, rfl, r1⟩ := r.one
    rw [RV.non_iff] at r1; subst r1
    exact .inr (.inr (.inr ⟨rfl, p.ok0 sr (RV.str_iff.mpr rfl)⟩))
  · obtain ⟨v, rfl, r1⟩ := r.one
    split at p
    · rename_i d e
      obtain ⟨g, p⟩ := post_guard p
      simp only [PyData.fine, Bool.and_eq_true, Bool.not_eq_true', decide_eq_true_eq] at g
      obtain ⟨⟨⟨⟨g1, g2⟩, g3⟩, g4⟩, g5⟩ := g
      exact .inl ⟨v, _, rfl, py_sound sr r1 e, g1, g2, g3, g4, okLen_le g5, p.ok0 sr (RV.str_iff.mpr rfl)⟩
    · exact p.elim
  · exact p.elim
end DE

set_option Elab.async false
set_option linter.all false
set_option maxRecDepth 100000
set_option maxHeartbeats 4000000
/-! DE4: defs and their calls, where nothing is being shown (guards). -/
namespace DE
open PySem PySem.Spec L2
open PyProof.Rows hiding St

/-- a def's promise, wherever no repr is under way -/
structure FnG (P : Program) (wd : World) (K : PySem.W.Frag) (mg : Str → Option Value) (base : Heap) (k : Nat) (f : Addr) (fd : FuncData) (ps : List Str) (sp : Sp) : Prop where
  len : ∀ vs H Q E, sp vs H Q E → vs.length = ps.length
  go : ∀ (A : Around) (outer : List PySem.Env) (s : Shared) (H : Hp) (args : Args) (us : List Value) (vs : List V) (Q : VK) (E : XK), Room k A → A.guards = some [] → Env0 P wd K mg base A outer s H →
    BindsTo s fd args (ps.zip us) → Vals vs us → sp vs H Q E → codeAny (model P wd) A (.call (.ref f) args) (CR (L2.CX P wd) outer P wd H s Q E) s
theorem FnG.up {P : Program} {wd : World} {K : PySem.W.Frag} {mg : Str → Option Value} {base : Heap} {j k : Nat} {f : Addr} {fd : FuncData} {ps : List Str} {sp : Sp} (F : FnG P wd K mg base j f fd ps sp) (h : j ≤ k) : FnG P wd K mg base k f fd ps sp :=
  ⟨F.len, fun A outer s H args us vs Q E hr => F.go A outer s H args us vs Q E (hr.mono h)⟩

/-- what a def's function of data promises -/
def SpF (G : Gd) (n : Nat) (F : List D → Sto → Res D) : Sp := fun vs H Q E => vs.length = n ∧ ∃ β S ds, SR G β H S ∧ RVs G β H ds vs ∧ Post ⟨G, fun _ => E⟩ (RV G) β H [] Q (F ds S)
theorem post_w {α ν : Type} {G : Gd} {w w' : St → XK} {R : List Addr → Hp → α → ν → Prop} {β : List Addr} {H : Hp} {σ σ' : St} {Q : ν → Hp → Prop} {r : Res α} (h : Post ⟨G, w⟩ R β H σ Q r) (hw : w σ = w' σ') : Post ⟨G, w'⟩ R β H σ' Q r := by
  cases r with
  | ok d S => exact h
  | ex x S =>
    intro β' H' cls dx e sr r
    have := h β' H' cls dx e sr r
    show w' σ' cls dx H'
    rw [← hw]; exact this
  | bad => exact h

/-- picking from a list by places -/
def pickL {α : Type} (z : α) (js : List Nat) (l : List α) : List α := js.map fun j => l.getD j z
theorem pick_vals {vs : List V} {us : List Value} (r : Vals vs us) : ∀ js : List Nat, Vals (pickL .non js vs) (pickL .none js us)
  | [] => .nil
  | j :: js => by
    refine .cons ?_ (pick_vals r js)
    show L2.RelV (vs.getD j V.non) (us.getD j Value.none)
    rw [List.getD_eq_getElem?_getD, List.getD_eq_getElem?_getD]
    cases e : vs[j]? with
    | none => rw [r.none_of e]; rfl
    | some v =>
      obtain ⟨u, e2, q⟩ := r.get e
      rw [e2]; exact q
theorem pick_rvs {G : Gd} {β : List Addr} {H : Hp} {ds : List D} {vs : List V} (r : RVs G β H ds vs) : ∀ js : List Nat, RVs G β H (pickL .non js ds) (pickL .non js vs)
  | [] => .nil
  | j :: js => by
    refine .cons ?_ (pick_rvs r js)
    show RV G β H (ds.getD j D.non) (vs.getD j V.non)
    rw [List.getD_eq_getElem?_getD, List.getD_eq_getElem?_getD]
    cases e : ds[j]? with
    | none =>
      have : vs[j]? = none := by rw [List.getElem?_eq_none_iff, ← r.length]; exact List.getElem?_eq_none_iff.mp e
      rw [this]; exact RV.non_iff.mpr rfl
    | some v =>
      obtain ⟨u, e2, q⟩ := r.get e
      rw [e2]; exact q
/-- how n arguments by place and those named ks come to the parameters -/
def KwB (fd : FuncData) (ps : List Str) (n : Nat) (ks : List Str) (js : List Nat) : Prop :=
  js.length = ps.length ∧ ∀ (s : Shared) (us ws : List Value), us.length = n → ws.length = ks.length → BindsTo s fd ⟨us, ks.zip ws⟩ (ps.zip (pickL .none js (us ++ ws)))

/-- a def by its name, its level, its function of data -/
structure Fd (P : Program) (wd : World) (K : PySem.W.Frag) (mg : Str → Option Value) (base : Heap) (x : Str) (k : Nat) (ps : List Str) (F : List D → Sto → Res D) (f : Addr) (fd : FuncData) : Prop where
  fn : FnG P wd K mg base k f fd ps (SpF ⟨K, mg, none⟩ ps.length F)
  mg : mg x = some (.ref f)
  kp : PySem.W.keepIn K (.ref f) = true
  bd : ∀ (s : Shared) (us : List Value), us.length = ps.length → BindsTo s fd ⟨us, []⟩ (ps.zip us)

section
variable {X : Cx} {k : Nat} {f : Addr} {fd : FuncData} {ps : List Str} {sp : Sp} {x : Str} {p pos : Pos} {e : Expr} {es : List Expr} {w : St → XK} {fs fk : Rho → Sto → Res (List D)} {F : List D → Sto → Res D} {kws : List Keyword} {ks : List Str} {js : List Nat}
theorem goG {pins : List (Addr × Obj)} {σ : St} {H : Hp} {s : Shared} {Q : VK} {E : XK} {args : Args} {us : List Value} {vs : List V} (G : FnG X.prog X.w X.K X.mg X.base k f fd ps sp) (hr : Room k X.A) (hg : X.A.guards = some []) (hb : BindsTo s fd args (ps.zip us))
    (hx : PassesAt (L2.CX X.prog X.w) X σ E) (I : Inv X pins σ H s) (r : Vals vs us) (h : sp vs H Q E) : wpAny (model X.prog X.w) X.A (call (.ref f) args.pos args.kw) (EP X pins σ Q) X.xe s := by
  refine wpAny_call (codeAny_mono (G.go X.A X.stack s H args us vs Q E hr hg I.env0 hb r h) fun r s' hq => ?_)
  cases r with
  | error e => exact hx pins H s e s' I hq
  | ok fl =>
    cases fl with
    | ret u => exact I.after hq
    | next => exact False.elim hq
    | brk => exact False.elim hq
    | cont => exact False.elim hq
theorem spf_of {σ : St} {H : Hp} {Q : VK} {β : List Addr} {S : Sto} {ds : List D} {vs : List V} (sr : SR (am X none w).G β H S) (r : RVs (am X none w).G β H ds vs) (hl : ds.length = ps.length) (p : Post (am X none w) (RV (am X none w).G) β H σ Q (F ds S)) : SpF ⟨X.K, X.mg, none⟩ ps.length F vs H Q (w σ) :=
  ⟨by rw [← r.length]; exact hl, β, S, ds, sr, r, post_w p rfl⟩
/-- a call by data: the number of arguments must be right -/
def dCall (n : Nat) (F : List D → Sto → Res D) (fs : Rho → Sto → Res (List D)) : Rho → Sto → Res D := dB fs fun ds _ S => guard (decide (ds.length = n)) (F ds S)
/-- f(a, ..) -/
theorem de_call (G : Fd X.prog X.w X.K X.mg X.base x k ps F f fd) (hr : Room k X.A) (hG : X.A.guards = some []) (hx : ∀ σ, PassesAt (L2.CX X.prog X.w) X σ (w σ)) (ha : PA X (e :: es) (cA (am X none w) fs)) (hg : Gl X x := by rfl) (hdb : (x == ("__debug__" : Str)) = false := by decide)
    (he : starEach (e :: es) X.env = (false, eval e X.env) :: starEach es X.env := by rfl) (hpl : (backTo pos (starEach es X.env)).any (·.1) = false := by rfl) : PE X (.Call (.Name x p) (e :: es) [] pos) (cE (am X none w) (dCall ps.length F fs)) := by
  refine ⟨fun pins s σ H Q I h => ?_⟩
  obtain ⟨β, S, ρ, sr, rs, pp⟩ := h
  have hA : cA (am X none w) fs σ H fun vs H1 => SpF ⟨X.K, X.mg, none⟩ ps.length F vs H1 Q (w σ) := cG_step sr rs pp fun ds S1 β1 H1 vs x1 sr1 rs1 r1 p1 => by
    obtain ⟨g, p2⟩ := post_guard p1
    exact spf_of sr1 r1 (of_decide_eq_true g) p2
  refine wpAny_Call_Name_kw (ld_glob I hg G.mg ?_ hdb)
  refine PySem.W.callWith_K (h₀ := X.base) I.ok.mod.kin G.kp (thn (ha.run pos pins s σ H _ I hA) fun us s1 ⟨vs, H1, I1, r, q⟩ => ⟨I1.kIn, ?_⟩) he hpl
  exact goG (args := ⟨us, []⟩) G.fn hr hG (G.bd s1 us (by rw [← r.length]; exact G.fn.len _ _ _ _ q)) (hx σ) I1 r q
/-- f() -/
theorem de_call0 (G : Fd X.prog X.w X.K X.mg X.base x k [] F f fd) (hr : Room k X.A) (hG : X.A.guards = some []) (hx : ∀ σ, PassesAt (L2.CX X.prog X.w) X σ (w σ)) (hg : Gl X x := by rfl) (hdb : (x == ("__debug__" : Str)) = false := by decide) :
    PE X (.Call (.Name x p) [] [] pos) (cE (am X none w) (dCall 0 F aNil)) := by
  refine ⟨fun pins s σ H Q I h => ?_⟩
  obtain ⟨β, S, ρ, sr, rs, pp⟩ := h
  have pp : Post (am X none w) (RV (am X none w).G) β H σ Q (guard (decide (([] : List D).length = 0)) (F [] S)) := pp
  have hA : SpF ⟨X.K, X.mg, none⟩ ([] : List Str).length F [] H Q (w σ) := spf_of sr .nil rfl (post_guard pp).2
  refine wpAny_Call_Name_kw (ld_glob I hg G.mg ?_ hdb)
  exact PySem.W.callWith_K0 I.kIn G.kp (goG (us := []) (args := ⟨[], []⟩) G.fn hr hG (G.bd s [] rfl) (hx σ) I .nil hA)
/-- values by keyword -/
theorem dk_nil : PK X [] (cA (am X none w) aNil) := ⟨fun a pins s σ H Q I h => (pk_nil).run a pins s σ H Q I (by
  obtain ⟨β, S, ρ, sr, rs, p⟩ := h
  exact p β H [] .refl sr .nil)⟩
theorem dk_cons {nm : Option Str} {kpos : Pos} {g : Rho → Sto → Res D} (ha : PE X e (cE (am X none w) g)) (hr : PK X kws (cA (am X none w) fk)) : PK X (⟨nm, e, kpos⟩ :: kws) (cA (am X none w) (aCons g fk)) := ⟨fun a pins s σ H Q I h => (pk_cons ha hr).run a pins s σ H Q I (by
  obtain ⟨β, S, ρ, sr, rs, p⟩ := h
  exact cG_step sr rs p fun d1 S1 β1 H1 v1 x1 sr1 rs1 r1 p1 => cG_step sr1 rs1 p1 fun ds S2 β2 H2 vs x2 sr2 rs2 r2 p2 => p2 β2 H2 _ .refl sr2 (.cons (r1.mono sr1 x2) r2))⟩
def dCallK (n m : Nat) (js : List Nat) (F : List D → Sto → Res D) (fs fk : Rho → Sto → Res (List D)) : Rho → Sto → Res D := dB fs fun ds => dB fk fun es _ S => guard (decide (ds.length = n) && decide (es.length = m)) (F (pickL .non js (ds ++ es)) S)
theorem de_callK {n : Nat} (G : Fd X.prog X.w X.K X.mg X.base x k ps F f fd) (kb : KwB fd ps n ks js) (hr : Room k X.A) (hG : X.A.guards = some []) (hx : ∀ σ, PassesAt (L2.CX X.prog X.w) X σ (w σ)) (ha : PA X (e :: es) (cA (am X none w) fs)) (hkw : PK X kws (cA (am X none w) fk))
    (hall : (backToKw pos (keywordEach kws X.env)).all (·.1.isSome) = true := by rfl) (hks : (backToKw pos (keywordEach kws X.env)).filterMap (·.1) = ks := by rfl) (hg : Gl X x := by rfl) (hdb : (x == ("__debug__" : Str)) = false := by decide)
    (he : starEach (e :: es) X.env = (false, eval e X.env) :: starEach es X.env := by rfl) (hpl : ((backTo pos (starEach (e :: es) X.env)).any (·.1) || (backToKw pos (keywordEach kws X.env)).any (·.1.isNone)) = false := by rfl) :
    PE X (.Call (.Name x p) (e :: es) kws pos) (cE (am X none w) (dCallK n ks.length js F fs fk)) := by
  refine ⟨fun pins s σ H Q I h => ?_⟩
  obtain ⟨β, S, ρ, sr, rs, pp⟩ := h
  have hA : cA (am X none w) fs σ H fun vs H1 => cA (am X none w) fk σ H1 fun zs H2 => vs.length = n ∧ zs.length = ks.length ∧ SpF ⟨X.K, X.mg, none⟩ ps.length F (pickL .non js (vs ++ zs)) H2 Q (w σ) :=
    cG_step sr rs pp fun ds S1 β1 H1 vs x1 sr1 rs1 r1 p1 => cG_step sr1 rs1 p1 fun es S2 β2 H2 zs x2 sr2 rs2 r2 p2 => by
      obtain ⟨g, p3⟩ := post_guard p2
      simp only [Bool.and_eq_true, decide_eq_true_eq] at g
      exact ⟨by rw [← r1.length]; exact g.1, by rw [← r2.length]; exact g.2, spf_of sr2 (pick_rvs ((r1.mono sr1 x2).append r2) js) (by simp [pickL, kb.1]) p3⟩
  refine wpAny_Call_Name_kw (ld_glob I hg G.mg ?_ hdb)
  refine PySem.W.callWith_KW (h₀ := X.base) I.ok.mod.kin G.kp hall (thn (ha.run pos pins s σ H _ I hA) fun us s1 ⟨vs, H1, I1, r, q⟩ => ?_) hpl he
  refine thn (hkw.run pos pins s1 σ H1 _ I1 q) fun ws s2 ⟨zs, H2, I2, rz, l1, l2, q2⟩ => ⟨I2.kIn, ?_⟩
  rw [hks]
  exact goG (args := ⟨us, ks.zip ws⟩) G.fn hr hG (kb.2 s2 us ws (by rw [← r.length]; exact l1) (by rw [← rz.length]; exact l2)) (hx σ) I2 (pick_vals (r.append rz) js) q2
theorem de_callK0 (G : Fd X.prog X.w X.K X.mg X.base x k ps F f fd) (kb : KwB fd ps 0 ks js) (hr : Room k X.A) (hG : X.A.guards = some []) (hx : ∀ σ, PassesAt (L2.CX X.prog X.w) X σ (w σ)) (hkw : PK X kws (cA (am X none w) fk))
    (hall : (backToKw pos (keywordEach kws X.env)).all (·.1.isSome) = true := by rfl) (hks : (backToKw pos (keywordEach kws X.env)).filterMap (·.1) = ks := by rfl) (hg : Gl X x := by rfl) (hdb : (x == ("__debug__" : Str)) = false := by decide)
    (hpl : ((backTo pos (starEach [] X.env)).any (·.1) || (backToKw pos (keywordEach kws X.env)).any (·.1.isNone)) = false := by rfl) :
    PE X (.Call (.Name x p) [] kws pos) (cE (am X none w) (dCallK 0 ks.length js F aNil fk)) := by
  refine ⟨fun pins s σ H Q I h => ?_⟩
  obtain ⟨β, S, ρ, sr, rs, pp⟩ := h
  have hA : cA (am X none w) fk σ H fun zs H2 => zs.length = ks.length ∧ SpF ⟨X.K, X.mg, none⟩ ps.length F (pickL .non js zs) H2 Q (w σ) :=
    cG_step (f := fk) sr rs pp fun es S2 β2 H2 zs x2 sr2 rs2 r2 p2 => by
      obtain ⟨g, p3⟩ := post_guard p2
      simp only [Bool.and_eq_true, decide_eq_true_eq] at g
      exact ⟨by rw [← r2.length]; exact g.2, spf_of sr2 (pick_rvs r2 js) (by simp [pickL, kb.1]) p3⟩
  refine wpAny_Call_Name_kw (ld_glob I hg G.mg ?_ hdb)
  refine PySem.W.callWith_KW0 (h₀ := X.base) I.ok.mod.kin G.kp hall (thn (hkw.run pos pins s σ H _ I hA) fun ws s2 ⟨zs, H2, I2, rz, l2, q2⟩ => ⟨I2.kIn, ?_⟩) hpl
  rw [hks]
  exact goG (args := ⟨[] ++ [], ks.zip ws⟩) G.fn hr hG (kb.2 s2 [] ws rfl (by rw [← rz.length]; exact l2)) (hx σ) I2 (pick_vals rz js) q2
end

/-! ### a def keeps what its body does -/
section
variable {P : Program} {wd : World} {K : PySem.W.Frag} {mg : Str → Option Value} {base : Heap}
theorem guards_deeper {A : Around} {env : PySem.Env} (h : A.guards = some []) : (A.deeper env).guards = some [] := h
theorem fnG_of {x qual : Str} {st : Stmt} {f : Addr} {fd : FuncData} {N ps : List Str} {k : Nat} {sp : Sp} (F : Fun K x qual st f fd) (T : FnScope N ps (defScope st)) (len : ∀ vs H Q E, sp vs H Q E → vs.length = ps.length)
    (body : ∀ (cdv : Value) (A : Around) (outer : List PySem.Env) (s : Shared) (H : Hp) (vs : List V) (Q : VK) (E : XK), Room k (A.deeper (envOfC qual (defScope st) s.heap.objs.size f cdv)) → A.guards = some [] → sp vs H Q E →
      ∃ t, PSs (cxOf (L2.CX P wd) P wd K mg base N qual (defScope st) f cdv A outer s H E) (defBody st) t ∧ t { nx := fun _ H' => Q .non H', rt := Q } (L2.start N vs) H) : FnG P wd K mg base (k + 1) f fd ps sp := by
  obtain ⟨oc, od, kV, doc, pm, an, cdv, ct, osl, rfl, lk, hcd⟩ := F.ex
  refine ⟨len, fun A outer s H args us vs Q E room gds env0 binds rel prom => ?_⟩
  have nargs := len _ _ _ _ prom
  have kin : K.In s.heap := env0.mod.kin.keeps fun b o e => (env0.bs b o e).1
  have kinds : ∀ y ∈ ps.zip us, (defScope st).names.lookup y.1 = some .local ∨ ((defScope st).names.lookup y.1 = some .cell ∧ ((cellsFrom (s.heap.objs.size + 1) (defScope st).names []).lookup y.1).isSome = true) := by
    rintro ⟨n, v⟩ hy
    exact (T.par n (List.of_mem_zip hy).1).imp id fun q => ⟨q, PySem.W.cellsFrom_some _ _ _ (.inl q)⟩
  refine codeAny_call_function room.depth (kin _ _ lk) rfl T.co T.gen rfl (PySem.W.codeRec_of kin hcd) (binds _ _ _ _ ?_)
  refine wpAny_newFunctionEnv_cells T.kind kinds fun env he s1 entered => ?_
  subst he
  refine ⟨(env0.mod.nolimit.keeps fun b o e => (env0.bs b o e).1).keeps entered.toInCall.keep, codeAny_func ?_⟩
  obtain ⟨t, ht, hq⟩ := body cdv A outer s H vs Q E (room.deeper _) gds prom
  refine wpAny_mono (ht.run [] s1 (L2.start N vs) H _ (inv_start T room.hd env0 nargs rel entered) hq) (fun fl s' hs => ?_) fun e s' hs => hs
  cases fl with
  | ret u =>
    obtain ⟨v, σ', H', J, rv, q⟩ := hs
    exact ⟨v, H', J.os, J.bare, J.base, J.hok, rv, q⟩
  | next =>
    obtain ⟨σ', H', J, q⟩ := hs
    exact ⟨V.non, H', J.os, J.bare, J.base, J.hok, rfl, q⟩
  | brk =>
    obtain ⟨_, _, _, z⟩ := hs
    exact False.elim z
  | cont =>
    obtain ⟨_, _, _, z⟩ := hs
    exact False.elim z
end
end DE

set_option Elab.async false
set_option linter.all false
set_option maxRecDepth 100000
set_option maxHeartbeats 4000000
/-! DE5: statements. -/
namespace DE
open PySem PySem.Spec L2
open PyProof.Rows hiding St

inductive Out where
  | nx (ρ : Rho) (S : Sto)
  | rt (d : D) (S : Sto)
  | bk (ρ : Rho) (S : Sto)
  | ct (ρ : Rho) (S : Sto)
  | ex (x : Ex) (ρ : Rho) (S : Sto)
  | bad
abbrev Dn := Rho → Sto → Out
/-- what is wanted of a statement's result -/
def PostS (c : Amb) (β : List Addr) (H : Hp) (T : Ends) : Out → Prop
  | .nx ρ S => ∀ β' H' σ', Ext β H β' H' → SR c.G β' H' S → RSt c.G β' H' ρ σ' → T.nx σ' H'
  | .rt d S => ∀ β' H' v, Ext β H β' H' → SR c.G β' H' S → RV c.G β' H' d v → T.rt v H'
  | .bk ρ S => ∀ β' H' σ', Ext β H β' H' → SR c.G β' H' S → RSt c.G β' H' ρ σ' → T.bk σ' H'
  | .ct ρ S => ∀ β' H' σ', Ext β H β' H' → SR c.G β' H' S → RSt c.G β' H' ρ σ' → T.ct σ' H'
  | .ex x ρ S => ∀ β' H' σ' cls dx, Ext β H β' H' → SR c.G β' H' S → RSt c.G β' H' ρ σ' → RX c.G β' H' x cls dx → c.xw σ' cls dx H'
  | .bad => False
theorem PostS.shift {c : Amb} {β β1 : List Addr} {H H1 : Hp} {T : Ends} {S1 : Sto} {r : Out} (h : PostS c β H T r) (sr1 : SR c.G β1 H1 S1) (e : Ext β H β1 H1) : PostS c β1 H1 T r := by
  cases r with
  | nx ρ S => exact fun β' H' σ' f sr rs => h β' H' σ' (e.trans sr1 f) sr rs
  | bk ρ S => exact fun β' H' σ' f sr rs => h β' H' σ' (e.trans sr1 f) sr rs
  | ct ρ S => exact fun β' H' σ' f sr rs => h β' H' σ' (e.trans sr1 f) sr rs
  | rt d S => exact fun β' H' v f sr r => h β' H' v (e.trans sr1 f) sr r
  | ex x ρ S => exact fun β' H' σ' cls dx f sr rs r => h β' H' σ' cls dx (e.trans sr1 f) sr rs r
  | bad => exact h
def cS (c : Amb) (f : Dn) : TS := fun T σ H => ∃ β S ρ, SR c.G β H S ∧ RSt c.G β H ρ σ ∧ PostS c β H T (f ρ S)
def sBind {α : Type} (r : Res α) (ρ : Rho) (g : α → Sto → Out) : Out := match r with
  | .ok a S => g a S
  | .ex x S => .ex x ρ S
  | .bad => .bad
theorem cG_stepS {α ν : Type} {c : Amb} {R : List Addr → Hp → α → ν → Prop} {f : Rho → Sto → Res α} {g : α → Sto → Out} {σ : St} {H : Hp} {T : Ends} {P : ν → Hp → Prop} {β : List Addr} {S : Sto} {ρ : Rho} (sr : SR c.G β H S) (rs : RSt c.G β H ρ σ) (p : PostS c β H T (sBind (f ρ S) ρ g))
    (k : ∀ a S1 β1 H1 v, Ext β H β1 H1 → SR c.G β1 H1 S1 → RSt c.G β1 H1 ρ σ → R β1 H1 a v → PostS c β1 H1 T (g a S1) → P v H1) : cG c R f σ H P := by
  refine ⟨β, S, ρ, sr, rs, ?_⟩
  unfold sBind at p
  cases e : f ρ S with
  | ok a S1 =>
    rw [e] at p
    exact fun β' H' v x sr' r => k a S1 β' H' v x sr' (rs.mono sr x) r (p.shift sr' x)
  | ex x S1 =>
    rw [e] at p
    exact fun β' H' cls dx x' sr' r => p β' H' σ cls dx x' sr' (rs.mono sr x') r
  | bad => rw [e] at p; exact p

section
variable {X : Cx} {xc : XC} {w : St → XK} {st : Stmt} {sts body : List Stmt} {e o i : Expr} {pos p2 : Pos} {f g : Dn} {fe fo fi : Rho → Sto → Res D} {ft : Rho → Sto → Res Bool}
/-! ### blocks -/
def sNil : Dn := fun ρ S => .nx ρ S
def sSeq (f g : Dn) : Dn := fun ρ S => match f ρ S with
  | .nx ρ' S' => g ρ' S'
  | r => r
theorem ds_nil : PSs X [] (cS (am X xc w) sNil) := PSs.imp pss_nil fun T σ H h => by
  obtain ⟨β, S, ρ, sr, rs, p⟩ := h
  exact p β H σ .refl sr rs
theorem ds_cons (h1 : PS X st (cS (am X xc w) f)) (h2 : PSs X sts (cS (am X xc w) g)) : PSs X (st :: sts) (cS (am X xc w) (sSeq f g)) := PSs.imp (pss_cons h1 h2) fun T σ H h => by
  obtain ⟨β, S, ρ, sr, rs, p⟩ := h
  refine ⟨β, S, ρ, sr, rs, ?_⟩
  unfold sSeq at p
  cases e : f ρ S with
  | nx ρ' S' =>
    rw [e] at p
    exact fun β' H' σ' x sr' rs' => ⟨β', S', ρ', sr', rs', p.shift sr' x⟩
  | rt d S' => rw [e] at p; exact p
  | bk ρ' S' => rw [e] at p; exact p
  | ct ρ' S' => rw [e] at p; exact p
  | ex x ρ' S' => rw [e] at p; exact p
  | bad => rw [e] at p; exact p
theorem ds_one (h1 : PS X st (cS (am X xc w) f)) : PSs X [st] (cS (am X xc w) f) := pss_one h1
/-! ### small statements -/
theorem ds_pass : PS X (.Pass pos) (cS (am X xc w) sNil) := PS.imp ps_pass fun T σ H h => by
  obtain ⟨β, S, ρ, sr, rs, p⟩ := h
  exact p β H σ .refl sr rs
def sBreak : Dn := fun ρ S => .bk ρ S
def sCont : Dn := fun ρ S => .ct ρ S
theorem ds_break : PS X (.Break pos) (cS (am X xc w) sBreak) := PS.imp ps_break fun T σ H h => by
  obtain ⟨β, S, ρ, sr, rs, p⟩ := h
  exact p β H σ .refl sr rs
theorem ds_cont : PS X (.Continue pos) (cS (am X xc w) sCont) := PS.imp ps_continue fun T σ H h => by
  obtain ⟨β, S, ρ, sr, rs, p⟩ := h
  exact p β H σ .refl sr rs
def sExpr (fe : Rho → Sto → Res D) : Dn := fun ρ S => sBind (fe ρ S) ρ fun _ S' => .nx ρ S'
theorem ds_expr (he : PE X e (cE (am X xc w) fe)) (hs : swapsWith e none pos.line X.env = pure false := by rfl) : PS X (.Expr e pos) (cS (am X xc w) (sExpr fe)) := PS.imp (ps_expr he hs) fun T σ H h => by
  obtain ⟨β, S, ρ, sr, rs, p⟩ := h
  exact cG_stepS sr rs p fun d S1 β1 H1 v x1 sr1 rs1 r1 p1 => p1 β1 H1 σ .refl sr1 rs1
def sRet (fe : Rho → Sto → Res D) : Dn := fun ρ S => sBind (fe ρ S) ρ fun d S' => .rt d S'
theorem ds_ret (he : PE X e (cE (am X xc w) fe)) : PS X (.Return (some e) pos) (cS (am X xc w) (sRet fe)) := PS.imp (ps_ret he) fun T σ H h => by
  obtain ⟨β, S, ρ, sr, rs, p⟩ := h
  exact cG_stepS sr rs p fun d S1 β1 H1 v x1 sr1 rs1 r1 p1 => p1 β1 H1 v .refl sr1 r1
def sRetN : Dn := fun _ S => .rt .non S
theorem ds_retN : PS X (.Return none pos) (cS (am X xc w) sRetN) := PS.imp ps_retN fun T σ H h => by
  obtain ⟨β, S, ρ, sr, rs, p⟩ := h
  exact p β H .non .refl sr (RV.non_iff.mpr rfl)
def sIf (ft : Rho → Sto → Res Bool) (f g : Dn) : Dn := fun ρ S => sBind (ft ρ S) ρ fun b S' => if b = true then f ρ S' else g ρ S'
theorem ds_if {c : Expr} {a b : List Stmt} (hc : PT X c (cT (am X xc w) ft)) (ha : PSs X a (cS (am X xc w) f)) (hb : PSs X b (cS (am X xc w) g)) : PS X (.If c a b pos) (cS (am X xc w) (sIf ft f g)) := PS.imp (ps_if hc ha hb) fun T σ H h => by
  obtain ⟨β, S, ρ, sr, rs, p⟩ := h
  refine cG_stepS sr rs p fun b S1 β1 H1 k x1 sr1 rs1 r1 p1 => ?_
  subst r1
  cases b with
  | true => exact iteT ⟨β1, S1, ρ, sr1, rs1, p1⟩
  | false => exact iteF ⟨β1, S1, ρ, sr1, rs1, p1⟩
def sSet (j : Nat) (fe : Rho → Sto → Res D) : Dn := fun ρ S => sBind (fe ρ S) ρ fun d S' => .nx (ρ.set j (some d)) S'
theorem ds_set (j : Nat) {x : Str} {pos' : Pos} (he : PE X e (cE (am X xc w) fe)) (hN : X.N.Nodup) (hi : X.N[j]? = some x := by rfl) (hx : Loc X.env.scope x := by first | exact Or.inl rfl | exact Or.inr rfl) (hs : swapsWith e (some (.Name x pos')) pos.line X.env = pure false := by rfl) (hf : X.fn x = true ∨ X.env.scope.names.lookup x = some .local := by first | exact .inl rfl | exact .inr rfl) :
    PS X (.Assign [.Name x pos'] e pos) (cS (am X xc w) (sSet j fe)) := PS.imp (ps_set hN hi hx he hs hf) fun T σ H h => by
  obtain ⟨β, S, ρ, sr, rs, p⟩ := h
  exact cG_stepS sr rs p fun d S1 β1 H1 v x1 sr1 rs1 r1 p1 => p1 β1 H1 _ .refl sr1 (rs1.set j r1)
def sPar (j k : Nat) (fa fb : Rho → Sto → Res D) : Dn := fun ρ S => sBind (fa ρ S) ρ fun d S1 => sBind (fb ρ S1) ρ fun d2 S2 => .nx ((ρ.set j (some d)).set k (some d2)) S2
theorem ds_par (j k : Nat) {x y : Str} {a b : Expr} {px py pt : Pos} {kt k2 pt2} {fa fb : Rho → Sto → Res D} (ha : PE X a (cE (am X xc w) fa)) (hb : PE X b (cE (am X xc w) fb)) (hN : X.N.Nodup) (hc : X.calm = true := by rfl) (hi : X.N[j]? = some x := by rfl) (hj : X.N[k]? = some y := by rfl) (hij : j ≠ k := by decide)
    (hx : X.env.scope.names.lookup x = some .local := by rfl) (hy : X.env.scope.names.lookup y = some .local := by rfl) (hs1 : starEach [a, b] X.env = (false, eval a X.env) :: starEach [b] X.env := by rfl) (hs2 : starEach [b] X.env = (false, eval b X.env) :: starEach [] X.env := by rfl)
    (hw : swappedStores [.Tuple [.Name x px, .Name y py] kt pt] (.Tuple [a, b] k2 pt2) X.env = pure (some [x, y]) := by rfl) (hs : swapsWithSole [.Tuple [.Name x px, .Name y py] kt pt] (.Tuple [a, b] k2 pt2) pos.line X.env = pure false := by rfl) :
    PS X (.Assign [.Tuple [.Name x px, .Name y py] kt pt] (.Tuple [a, b] k2 pt2) pos) (cS (am X xc w) (sPar j k fa fb)) := PS.imp (ps_par hc hN hi hj hij hx hy (da_cons ha (da_cons hb da_nil hs2) hs1) hw hs) fun T σ H h => by
  obtain ⟨β, S, ρ, sr, rs, p⟩ := h
  have q : cA (am X xc w) (aCons fa (aCons fb aNil)) σ H fun vs H1 => ∃ v u, vs = [v, u] ∧ T.nx ((σ.set j (some v)).set k (some u)) H1 := by
    refine ⟨β, S, ρ, sr, rs, ?_⟩
    unfold sPar sBind at p
    unfold aCons dB Res.bind
    cases e1 : fa ρ S with
    | bad => rw [e1] at p; exact p
    | ex x S1 => rw [e1] at p; exact fun β' H' cls dx x' sr' r => p β' H' σ cls dx x' sr' (rs.mono sr x') r
    | ok d S1 =>
      rw [e1] at p
      dsimp only at p ⊢
      cases e2 : fb ρ S1 with
      | bad => rw [e2] at p; exact p
      | ex x S2 => rw [e2] at p; exact fun β' H' cls dx x' sr' r => p β' H' σ cls dx x' sr' (rs.mono sr x') r
      | ok d2 S2 =>
        rw [e2] at p
        dsimp only [aNil] at p ⊢
        intro β' H' vs x' sr' r
        obtain ⟨v, u, rfl, r1, r2⟩ := r.two
        exact ⟨v, u, rfl, p β' H' _ x' sr' (((rs.mono sr x').set j r1).set k r2)⟩
  exact q
/-! ### targets -/
end

inductive Tg where
  | nm (i : Nat)
  | tp (l : List Tg)
mutual
def Tg.bind : Tg → D → Rho → Option Rho
  | .nm i, d, ρ => some (ρ.set i (some d))
  | .tp l, .tup ds, ρ => Tg.binds l ds ρ
  | .tp _, _, _ => none
def Tg.binds : List Tg → List D → Rho → Option Rho
  | [], [], ρ => some ρ
  | t :: l, d :: ds, ρ => match Tg.bind t d ρ with
    | some ρ' => Tg.binds l ds ρ'
    | none => none
  | _, _, _ => none
end
mutual
def Tg.slots : Tg → List Nat
  | .nm i => [i]
  | .tp l => Tg.slotss l
def Tg.slotss : List Tg → List Nat
  | [] => []
  | t :: l => t.slots ++ Tg.slotss l
end
def SameOut (σ σ' : St) (js : List Nat) : Prop := ∀ vs : List Nat, (∀ j ∈ js, j ∈ vs) → wipe σ' vs = wipe σ vs
theorem wipe_set {σ : St} {j : Nat} {x : Option V} : ∀ {vs : List Nat}, j ∈ vs → wipe (σ.set j x) vs = wipe σ vs := by
  have comm : ∀ {vs : List Nat} {σ : St} {j : Nat} {x : Option V}, j ∉ vs → wipe (σ.set j x) vs = (wipe σ vs).set j x := by
    intro vs
    induction vs with
    | nil => intro σ j x _; rfl
    | cons v vs ih =>
      intro σ j x h
      have h1 : j ≠ v := fun e => h (by rw [e]; exact List.mem_cons_self)
      have h2 : j ∉ vs := fun e => h (List.mem_cons_of_mem _ e)
      unfold wipe
      rw [ih h2, List.set_comm _ _ h1]
  intro vs
  induction vs with
  | nil => intro h; cases h
  | cons v vs ih =>
    intro h
    unfold wipe
    by_cases hv : j ∈ vs
    · rw [ih hv]
    · have e : j = v := by
        rcases List.mem_cons.mp h with e | e
        · exact e
        · exact absurd e hv
      subst e
      rw [comm hv, List.set_set]
def cTg (G : Gd) (t : Tg) : TG := fun v σ H Q => ∃ β S ρ d, SR G β H S ∧ RSt G β H ρ σ ∧ RV G β H d v ∧ ∃ ρ', t.bind d ρ = some ρ' ∧ ∀ σ', RSt G β H ρ' σ' → SameOut σ σ' t.slots → Q σ' H
def cTgs (G : Gd) (l : List Tg) : TGs := fun vs σ H Q => ∃ β S ρ ds, SR G β H S ∧ RSt G β H ρ σ ∧ RVs G β H ds vs ∧ ∃ ρ', Tg.binds l ds ρ = some ρ' ∧ ∀ σ', RSt G β H ρ' σ' → SameOut σ σ' (Tg.slotss l) → Q σ' H
section
variable {X : Cx} {xc : XC} {w : St → XK} {e o : Expr} {es : List Expr} {pos : Pos} {t : Tg} {l : List Tg}
theorem PG.imp {g g' : TG} (h : PG X e g) (i : ∀ v σ H Q, g' v σ H Q → g v σ H Q) : PG X e g' := ⟨fun pins s σ H v u Q I r q => h.run pins s σ H v u Q I r (i v σ H Q q)⟩
theorem PGs.imp {g g' : TGs} (h : PGs X es g) (i : ∀ v σ H Q, g' v σ H Q → g v σ H Q) : PGs X es g' := ⟨fun pins s σ H v u Q I r q => h.run pins s σ H v u Q I r (i v σ H Q q)⟩
theorem dt_nm (j : Nat) {x : Str} (hN : X.N.Nodup) (hi : X.N[j]? = some x := by rfl) (hx : Loc X.env.scope x := by first | exact Or.inl rfl | exact Or.inr rfl) (hf : X.fn x = true ∨ X.env.scope.names.lookup x = some .local := by first | exact .inl rfl | exact .inr rfl) :
    PG X (.Name x pos) (cTg (am X xc w).G (.nm j)) := PG.imp (pg_name hN hi hx hf) fun v σ H Q h => by
  obtain ⟨β, S, ρ, d, sr, rs, r, ρ', e, k⟩ := h
  simp only [Tg.bind, Option.some.injEq] at e
  subst e
  exact k _ (rs.set j r) fun vs hv => wipe_set (hv j (by simp [Tg.slots]))
theorem dts_nil : PGs X [] (cTgs (am X xc w).G []) := PGs.imp pgs_nil fun v σ H Q h => by
  obtain ⟨β, S, ρ, ds, sr, rs, r, ρ', e, k⟩ := h
  cases ds with
  | nil =>
    simp only [Tg.binds, Option.some.injEq] at e
    subst e
    exact ⟨RVs.nil_iff.mp r, k σ rs fun _ _ => rfl⟩
  | cons d ds => simp [Tg.binds] at e
theorem dts_cons (h1 : PG X e (cTg (am X xc w).G t)) (h2 : PGs X es (cTgs (am X xc w).G l)) (hs : (assignEach (e :: es) X.env).map (·.2) = assign e X.env :: (assignEach es X.env).map (·.2) := by rfl) : PGs X (e :: es) (cTgs (am X xc w).G (t :: l)) := PGs.imp (pgs_cons h1 h2 hs) fun v σ H Q h => by
  obtain ⟨β, S, ρ, ds, sr, rs, r, ρ', e, k⟩ := h
  cases ds with
  | nil => simp [Tg.binds] at e
  | cons d ds =>
    obtain ⟨x, xs, rfl, r1, r2⟩ := RVs.cons_iff.mp r
    simp only [Tg.binds] at e
    cases q : t.bind d ρ with
    | none => rw [q] at e; cases e
    | some ρ1 =>
      rw [q] at e
      refine ⟨x, xs, rfl, β, S, ρ, d, sr, rs, r1, ρ1, q, fun σ1 rs1 o1 => ⟨β, S, ρ1, ds, sr, rs1, r2, ρ', e, fun σ2 rs2 o2 => k σ2 rs2 fun vs hv => ?_⟩⟩
      rw [o2 vs fun j hj => hv j (by simp [Tg.slotss, hj]), o1 vs fun j hj => hv j (by simp [Tg.slotss, hj])]
theorem dt_tp {n k : Nat} (h : PGs X es (cTgs (am X xc w).G l)) (hl : l.length = n := by rfl) (hc : X.calm = true := by rfl) (hn : (assignEach es X.env).length = n := by rfl) (hst : (assignEach es X.env).findIdx? (·.1) = none := by rfl) :
    PG X (.Tuple es k pos) (cTg (am X xc w).G (.tp l)) := PG.imp (pg_tup (n := n) hc h hn hst) fun v σ H Q h => by
  obtain ⟨β, S, ρ, d, sr, rs, r, ρ', e, k⟩ := h
  cases d with
  | tup ds =>
    obtain ⟨a, vs, rfl, h1, h2⟩ := RV.tup_iff.mp r
    simp only [Tg.bind] at e
    have len : ∀ {l : List Tg} {ds : List D} {ρ ρ' : Rho}, Tg.binds l ds ρ = some ρ' → ds.length = l.length := by
      intro l
      induction l with
      | nil => intro ds ρ ρ' e; cases ds with
        | nil => rfl
        | cons => simp [Tg.binds] at e
      | cons t l ih => intro ds ρ ρ' e; cases ds with
        | nil => simp [Tg.binds] at e
        | cons d ds =>
          simp only [Tg.binds] at e
          split at e
          · simp [ih e]
          · cases e
    exact ⟨a, vs, rfl, h1, by rw [← h2.length, len e, hl], β, S, ρ, ds, sr, rs, h2, ρ', e, k⟩
  | _ => simp [Tg.bind] at e
/-- target = value, the target made of names -/
def sAsg (t : Tg) (fe : Rho → Sto → Res D) : Dn := fun ρ S => sBind (fe ρ S) ρ fun d S' => match t.bind d ρ with
  | some ρ' => .nx ρ' S'
  | none => .bad
theorem ds_asg {tg : Expr} {fe : Rho → Sto → Res D} (he : PE X e (cE (am X xc w) fe)) (hg : PG X tg (cTg (am X xc w).G t)) (hs : swapsWithSole [tg] e pos.line X.env = pure false := by rfl) (hw : swappedStores [tg] e X.env = pure none := by rfl)
    (h1 : (assignEach [tg] X.env).map (·.2) = [assign tg X.env] := by rfl) : PS X (.Assign [tg] e pos) (cS (am X xc w) (sAsg t fe)) := PS.imp (ps_asg he hg hs hw h1) fun T σ H h => by
  obtain ⟨β, S, ρ, sr, rs, p⟩ := h
  refine cG_stepS sr rs p fun d S1 β1 H1 v x1 sr1 rs1 r1 p1 => ?_
  cases q : t.bind d ρ with
  | none => rw [q] at p1; exact p1.elim
  | some ρ' =>
    rw [q] at p1
    exact ⟨β1, S1, ρ, d, sr1, rs1, r1, ρ', q, fun σ' rs' _ => p1 β1 H1 σ' .refl sr1 rs'⟩
/-- xs[i] = value, xs a list of the store -/
def sSetIx (fo fi fe : Rho → Sto → Res D) : Dn := fun ρ S => sBind (fe ρ S) ρ fun d S1 => sBind (fo ρ S1) ρ fun x S2 => sBind (fi ρ S2) ρ fun i S3 => match x, i with
  | .ref n, .int k => match S3[n]? with
    | some ds => match ixN ds.length k with
      | some j => .nx ρ (S3.set n (ds.set j d))
      | none => .bad
    | none => .bad
  | _, _ => .bad
theorem ds_setIx {i : Expr} {p2 : Pos} {fo fi fe : Rho → Sto → Res D} (ho : PE X o (cE (am X xc w) fo)) (hi : PE X i (cE (am X xc w) fi)) (he : PE X e (cE (am X xc w) fe))
    (ha : ∀ v, assign (.Subscript o i p2) X.env v = (do
      let ov ← holding [v] (eval o X.env)
      let iv ← holding [v, ov] (eval i X.env)
      standAt p2
      holding [v, ov, iv] (setItem ov iv v)
      release [v, ov, iv] []) := by intro _; rfl)
    (hs : swapsWithSole [.Subscript o i p2] e pos.line X.env = pure false := by rfl) (hw : swappedStores [.Subscript o i p2] e X.env = pure none := by rfl)
    (h1 : (assignEach [.Subscript o i p2] X.env).map (·.2) = [assign (.Subscript o i p2) X.env] := by rfl) : PS X (.Assign [.Subscript o i p2] e pos) (cS (am X xc w) (sSetIx fo fi fe)) := PS.imp (ps_asg he (pg_sub ho hi set_list ha) hs hw h1) fun T σ H h => by
  obtain ⟨β, S, ρ, sr, rs, p⟩ := h
  refine cG_stepS sr rs p fun d S1 β1 H1 v x1 sr1 rs1 r1 p1 => cG_stepS sr1 rs1 p1 fun x S2 β2 H2 ov x2 sr2 rs2 r2 p2 => cG_stepS sr2 rs2 p2 fun k S3 β3 H3 iv x3 sr3 rs3 r3 p3 => ?_
  cases x with
  | ref n =>
    cases k with
    | int k =>
      dsimp only at p3
      cases q : S3[n]? with
      | none => rw [q] at p3; exact p3.elim
      | some ds =>
        rw [q] at p3
        dsimp only at p3
        cases q2 : ixN ds.length k with
        | none => rw [q2] at p3; exact p3.elim
        | some j =>
          rw [q2] at p3
          have r2' := r2.mono sr2 x3
          rw [RV] at r2'
          obtain ⟨a, rfl, hn⟩ := r2'
          obtain ⟨vs, h4, h5⟩ := sr3.at_ n ds a q hn
          have r1' := (r1.mono sr1 x2).mono sr2 x3
          obtain ⟨sr4, x4⟩ := sr3.write hn (h5.set (n := j) r1')
          exact ⟨a, vs, k, j, rfl, RV.int_iff.mp r3, h4, by rw [← h5.length]; exact q2, p3 β3 _ σ x4 sr4 (rs3.mono sr3 x4)⟩
    | _ => exact p3.elim
  | _ => exact p3.elim
/-- xs.append(value), xs a list of the store -/
def dApp (fo : Rho → Sto → Res D) (fe : Rho → Sto → Res D) : Rho → Sto → Res D := dB fo fun x ρ S1 => match x with
  | .ref n => guard (decide (n < S1.length)) ((fe ρ S1).bind fun d S => match S[n]? with
    | some ds => guard (decide (ds.length < 16777216)) (.ok .non (S.set n (ds ++ [d])))
    | none => .bad)
  | _ => .bad
theorem ref_list {G : Gd} {β : List Addr} {H : Hp} {S : Sto} {n : Nat} {v : V} (sr : SR G β H S) (r : RV G β H (.ref n) v) (hn : n < S.length) : ∃ a vs, v = .ref a ∧ β[n]? = some a ∧ H a = some (.lst vs) ∧ RVs G β H S[n] vs := by
  rw [RV] at r
  obtain ⟨a, rfl, h1⟩ := r
  obtain ⟨vs, h2, h3⟩ := sr.at_ n _ a (List.getElem?_eq_getElem hn) h1
  exact ⟨a, vs, rfl, h1, h2, h3⟩
theorem de_append {apos cpos : Pos} {fo fe : Rho → Sto → Res D} (ho : PE X o (cE (am X xc w) fo)) (he : PE X e (cE (am X xc w) fe)) (hbase : attributeBase o "append" X.env (eval o X.env) = eval o X.env := by rfl)
    (hfew : ((backTo cpos (starEach [e] X.env)).all (fun x => !x.1) && (backToKw cpos (keywordEach [] X.env)).all (fun x => x.1.isSome) && decide (([e] : List Expr).length + ([] : List Keyword).length + (if ([] : List Keyword).isEmpty then 0 else 1) < 30)) = true := by rfl)
    (hline : (apos.endLine == cpos.line) = true := by rfl) (hs : starEach [e] X.env = (false, eval e X.env) :: starEach [] X.env := by rfl) (hplain : (backTo cpos (starEach [] X.env)).any (·.1) = false := by rfl) :
    PE X (.Call (.Attribute o "append" apos) [e] [] cpos) (cE (am X xc w) (dApp fo fe)) := PE.imp (pe_bm PySem.F.plainAttrs_list PySem.F.slot_list_append PySem.F.type_list_append mt_append ho (da_cons (xc := xc) (w := w) he da_nil hs) hbase hfew hline hs hplain) fun σ H Q h => by
  obtain ⟨β, S, ρ, sr, rs, p⟩ := h
  refine cG_step sr rs p fun x S1 β1 H1 ov x1 sr1 rs1 r1 p1 => ?_
  cases x with
  | ref n =>
    obtain ⟨g, p2⟩ := post_guard p1
    obtain ⟨a, vs, rfl, hb, hH, hvs⟩ := ref_list sr1 r1 (of_decide_eq_true g)
    refine ⟨.inl ⟨rfl, vs, SqL.of hH⟩, ?_⟩
    have q : cE (am X xc w) fe σ H1 fun y H2 => rAppend (.ref a) [y] H2 Q := cG_step sr1 rs1 p2 fun d S2 β2 H2 y x2 sr2 rs2 r2 p3 => by
      cases q : S2[n]? with
      | none => rw [q] at p3; exact p3.elim
      | some ds =>
        rw [q] at p3
        obtain ⟨g3, p4⟩ := post_guard p3
        have r3 := r1.mono sr1 x2
        rw [RV] at r3
        obtain ⟨a', e1, hb2⟩ := r3
        cases e1
        obtain ⟨ws, h4, h5⟩ := sr2.at_ n ds a q hb2
        obtain ⟨sr4, x4⟩ := sr2.write hb2 (h5.append (.cons r2 .nil))
        refine ⟨a, ws, y, rfl, rfl, h4, ?_, p4 β2 _ .non x4 sr4 (RV.non_iff.mpr rfl)⟩
        rw [← h5.length, sizeLine_eq]
        exact of_decide_eq_true g3
    obtain ⟨β', S', ρ', sr', rs', p'⟩ := q
    refine ⟨β', S', ρ', sr', rs', ?_⟩
    unfold aCons dB aNil Res.bind
    cases e : fe ρ' S' with
    | ok d S3 =>
      rw [e] at p'
      intro β3 H3 v3 x3 sr3 r3
      obtain ⟨y, rfl, r4⟩ := r3.one
      exact p' β3 H3 y x3 sr3 r4
    | ex x S3 => rw [e] at p'; exact p'
    | bad => rw [e] at p'; exact p'
  | _ => exact p1.elim
end

/-! ### what is walked -/
/-- J gives the data ds, one after another, in every later world (where the list of the store that is walked, if it is one, stands still) -/
structure ItOk (G : Gd) (gd : Option Nat) (ds : List D) (β1 : List Addr) (H1 : Hp) (J : It) : Prop where
  item : ∀ (β : List Addr) (H : Hp) (S : Sto) (i : Nat) (d : D), Ext β1 H1 β H → SR G β H S → (∀ n, gd = some n → S[n]? = some ds) → ds[i]? = some d → J.go i H ∧ ∀ x H', J.yld i H x H' → Ext β H β H' ∧ SR G β H' S ∧ RV G β H' d x
  stop : ∀ (β : List Addr) (H : Hp) (S : Sto), Ext β1 H1 β H → SR G β H S → (∀ n, gd = some n → S[n]? = some ds) → J.stop ds.length H
abbrev RI (G : Gd) : List Addr → Hp → List D × Option Nat → It → Prop := fun β H a J => ItOk G a.2 a.1 β H J
abbrev cI (c : Amb) (f : Rho → Sto → Res (List D × Option Nat)) : TI := cG c (RI c.G) f
section
variable {X : Cx} {xc : XC} {w : St → XK} {e tg l : Expr} {es : List Expr} {pos p : Pos} {fe : Rho → Sto → Res D} {fs : Rho → Sto → Res (List D)}
theorem PI.imp {wi wi' : TI} (h : PI X tg l wi) (i : ∀ σ H R, wi' σ H R → wi σ H R) : PI X tg l wi' := ⟨fun pins s σ H R I q => h.run pins s σ H R I (i σ H R q)⟩
theorem PI.or {wi wi' : TI} (h : PI X tg l wi) (h' : PI X tg l wi') : PI X tg l (fun σ H R => wi σ H R ∨ wi' σ H R) := ⟨fun pins s σ H R I q => q.elim (h.run pins s σ H R I) (h'.run pins s σ H R I)⟩
theorem itok_list {G : Gd} {ds : List D} {β1 : List Addr} {H1 : Hp} {S1 : Sto} {a : Addr} {vs : List V} (sr1 : SR G β1 H1 S1) (h : SqL G.K H1 a vs) (hn : a ∉ β1) (ht : ∃ o, H1 a = some o) (r : RVs G β1 H1 ds vs) : ItOk G none ds β1 H1 (Itl G.K a) := by
  obtain ⟨o, ho⟩ := ht
  have stays : ∀ {β : List Addr} {H : Hp}, Ext β1 H1 β H → SqL G.K H a vs := fun x => by
    rcases h with (h | ⟨u, h⟩) | h
    · exact .inl (.inl (x.keep a _ h hn))
    · exact .inl (.inr ⟨u, x.keep a _ h hn⟩)
    · exact .inr h
  refine ⟨fun β H S i d x sr _ e => ?_, fun β H S x sr _ => ⟨vs, stays x, by rw [r.length]; exact Nat.le_refl _⟩⟩
  obtain ⟨v, e2, rv⟩ := r.get e
  refine ⟨⟨vs, v, stays x, e2⟩, fun y H' hy => ?_⟩
  obtain ⟨rfl, hy⟩ := hy
  have e3 := hy vs (stays x)
  rw [e2] at e3; cases e3
  exact ⟨.refl, sr, rv.mono sr1 x⟩
theorem itok_fr {G : Gd} {ds : List D} {β1 : List Addr} {H1 : Hp} {S1 : Sto} {a : Addr} {vs : List V} (sr1 : SR G β1 H1 S1) (h : FrL G.K H1 a vs) (r : RVs G β1 H1 ds vs) : ItOk G none ds β1 H1 (Itl G.K a) := by
  refine ⟨fun β H S i d x sr _ e => ?_, fun β H S x sr _ => ⟨vs, (h.mono sr1 x).sql, by rw [r.length]; exact Nat.le_refl _⟩⟩
  obtain ⟨v, e2, rv⟩ := r.get e
  refine ⟨⟨vs, v, (h.mono sr1 x).sql, e2⟩, fun y H' hy => ?_⟩
  obtain ⟨rfl, hy⟩ := hy
  have e3 := hy vs (h.mono sr1 x).sql
  rw [e2] at e3; cases e3
  exact ⟨.refl, sr, rv.mono sr1 x⟩
theorem itok_tup {G : Gd} {ds : List D} {β1 : List Addr} {H1 : Hp} {S1 : Sto} {a : Addr} {vs : List V} (sr1 : SR G β1 H1 S1) (h : SqT G.K H1 a vs) (r : RVs G β1 H1 ds vs) : ItOk G none ds β1 H1 (Itt G.K a) := by
  refine ⟨fun β H S i d x sr _ e => ?_, fun β H S x sr _ => ⟨vs, sqT_mono sr1 x h, by rw [r.length]; exact Nat.le_refl _⟩⟩
  obtain ⟨v, e2, rv⟩ := r.get e
  refine ⟨⟨vs, v, sqT_mono sr1 x h, e2⟩, fun y H' hy => ?_⟩
  obtain ⟨rfl, hy⟩ := hy
  have e3 := hy vs (sqT_mono sr1 x h)
  rw [e2] at e3; cases e3
  exact ⟨.refl, sr, rv.mono sr1 x⟩
theorem itok_ref {G : Gd} {n : Nat} {ds : List D} {β1 : List Addr} {H1 : Hp} {a : Addr} (hb : β1[n]? = some a) : ItOk G (some n) ds β1 H1 (Itl G.K a) := by
  have at_ : ∀ {β : List Addr} {H : Hp} {S : Sto}, Ext β1 H1 β H → SR G β H S → S[n]? = some ds → ∃ vs, H a = some (.lst vs) ∧ RVs G β H ds vs := fun {β H S} x sr e => by
    obtain ⟨m, rfl, _⟩ := x.more
    exact sr.at_ n ds a e (by rw [List.getElem?_append_left (List.getElem?_eq_some_iff.mp hb).1]; exact hb)
  refine ⟨fun β H S i d x sr g e => ?_, fun β H S x sr g => ?_⟩
  · obtain ⟨vs, h1, r⟩ := at_ x sr (g n rfl)
    obtain ⟨v, e2, rv⟩ := r.get e
    refine ⟨⟨vs, v, SqL.of h1, e2⟩, fun y H' hy => ?_⟩
    obtain ⟨rfl, hy⟩ := hy
    have e3 := hy vs (SqL.of h1)
    rw [e2] at e3; cases e3
    exact ⟨.refl, sr, rv⟩
  · obtain ⟨vs, h1, r⟩ := at_ x sr (g n rfl)
    exact ⟨vs, SqL.of h1, by rw [r.length]; exact Nat.le_refl _⟩
theorem itok_rng {G : Gd} {β1 : List Addr} {H1 : Hp} {lo : Int} {n : Nat} : ItOk G none ((List.range n).map fun (i : Nat) => D.int (lo + (i : Int))) β1 H1 (Itr lo n) := by
  refine ⟨fun β H S i d x sr _ e => ?_, fun β H S x sr _ => by simp [Itr]⟩
  rw [List.getElem?_map] at e
  cases q : (List.range n)[i]? with
  | none => rw [q] at e; cases e
  | some j =>
    rw [q] at e
    cases e
    obtain ⟨h1, h2⟩ := List.getElem?_eq_some_iff.mp q
    simp at h1 h2
    subst h2
    refine ⟨h1, fun y H' hy => ?_⟩
    obtain ⟨rfl, rfl⟩ := hy
    exact ⟨.refl, sr, RV.int_iff.mpr rfl⟩
/-- for .. in a list or tuple -/
def dIt (fe : Rho → Sto → Res D) : Rho → Sto → Res (List D × Option Nat) := dB fe fun d _ S => match d with
  | .tup ds => .ok (ds, none) S
  | .lst ds => .ok (ds, none) S
  | .fr ds => .ok (ds, none) S
  | .ref n => match S[n]? with
    | some ds => .ok (ds, some n) S
    | none => .bad
  | _ => .bad
theorem di_seq (he : PE X l (cE (am X xc w) fe)) : PI X tg l (cI (am X xc w) (dIt fe)) := by
  refine PI.imp (PI.or (pi_list he) (pi_tup he)) fun σ H R h => ?_
  obtain ⟨β, S, ρ, sr, rs, p⟩ := h
  have key : ∀ {L : V → Hp → Prop}, (∀ d S1 β1 H1 v, fe ρ S = .ok d S1 → Ext β H β1 H1 → SR (am X xc w).G β1 H1 S1 → RV (am X xc w).G β1 H1 d v → L v H1) → cE (am X xc w) fe σ H L := fun {L} k => by
    refine ⟨β, S, ρ, sr, rs, ?_⟩
    unfold dIt dB Res.bind at p
    cases e : fe ρ S with
    | ok d S1 => exact fun β' H' v x sr' r => k d S1 β' H' v e x sr' r
    | ex x S1 => rw [e] at p; exact p
    | bad => rw [e] at p; exact p
  unfold dIt dB Res.bind at p
  cases e : fe ρ S with
  | bad => rw [e] at p; exact p.elim
  | ex x S1 => exact .inl (key fun d S2 _ _ _ e2 => by rw [e] at e2; cases e2)
  | ok d S1 =>
    rw [e] at p
    dsimp only at p
    cases d with
    | tup ds =>
      refine .inr (key fun d S2 β1 H1 v e2 x sr1 r => ?_)
      rw [e] at e2; cases e2
      obtain ⟨a, vs, rfl, h1, h2⟩ := RV.tup_iff.mp r
      exact ⟨a, rfl, ⟨vs, h1⟩, p β1 H1 _ x sr1 (itok_tup sr1 h1 h2)⟩
    | lst ds =>
      refine .inl (key fun d S2 β1 H1 v e2 x sr1 r => ?_)
      rw [e] at e2; cases e2
      rw [RV] at r
      obtain ⟨a, vs, rfl, hn, h1, h2⟩ := r
      exact ⟨a, rfl, ⟨vs, SqL.of h1⟩, p β1 H1 _ x sr1 (itok_list sr1 (SqL.of h1) hn ⟨_, h1⟩ h2)⟩
    | fr ds =>
      refine .inl (key fun d S2 β1 H1 v e2 x sr1 r => ?_)
      rw [e] at e2; cases e2
      rw [RV] at r
      obtain ⟨a, vs, rfl, h1, h2⟩ := r
      exact ⟨a, rfl, ⟨vs, h1.sql⟩, p β1 H1 _ x sr1 (itok_fr sr1 h1 h2)⟩
    | ref n =>
      dsimp only at p
      cases q : S1[n]? with
      | none => rw [q] at p; exact p.elim
      | some ds =>
        rw [q] at p
        refine .inl (key fun d S2 β1 H1 v e2 x sr1 r => ?_)
        rw [e] at e2; cases e2
        rw [RV] at r
        obtain ⟨a, rfl, hb⟩ := r
        obtain ⟨vs, h2, h3⟩ := sr1.at_ n ds a q hb
        exact ⟨a, rfl, ⟨vs, SqL.of h2⟩, p β1 H1 _ x sr1 (itok_ref hb)⟩
    | _ => exact p.elim
/-- range(n), range(a, b) -/
def okI (i : Int) : Bool := decide (-(2 ^ 62) ≤ i) && decide (i < 2 ^ 62)
def rngD (lo hi : Int) : List D := (List.range (hi - lo).toNat).map fun (i : Nat) => D.int (lo + (i : Int))
def dRng1 (fs : Rho → Sto → Res (List D)) : Rho → Sto → Res (List D × Option Nat) := dB fs fun ds _ S => match ds with
  | [.int j] => guard (okI j) (.ok (rngD 0 j, none) S)
  | _ => .bad
def dRng2 (fs : Rho → Sto → Res (List D)) : Rho → Sto → Res (List D × Option Nat) := dB fs fun ds _ S => match ds with
  | [.int i, .int j] => guard (okI i && okI j) (.ok (rngD i j, none) S)
  | _ => .bad
theorem di_rng1 (ha : PA X [e] (cA (am X xc w) fs)) (hm : X.mg "range" = none) (hg : Gl X "range" := by rfl) (hs : starEach [e] X.env = [(false, eval e X.env)] := by rfl) : PI X tg (.Call (.Name "range" p) [e] [] pos) (cI (am X xc w) (dRng1 fs)) := PI.imp (pi_range1 hg hm ha hs) fun σ H R h => by
  obtain ⟨β, S, ρ, sr, rs, p⟩ := h
  unfold dRng1 at p
  refine cG_step sr rs p fun ds S1 β1 H1 vs x1 sr1 rs1 r1 p1 => ?_
  dsimp only at p1
  split at p1
  · obtain ⟨v, rfl, r2⟩ := r1.one
    obtain ⟨g, p2⟩ := post_guard p1
    simp only [okI, Bool.and_eq_true, decide_eq_true_eq] at g
    rw [RV.int_iff] at r2
    subst r2
    rename_i j
    refine ⟨_, rfl, g.1, g.2, p2 β1 H1 _ .refl sr1 ?_⟩
    have := itok_rng (G := (am X xc w).G) (β1 := β1) (H1 := H1) (lo := 0) (n := j.toNat)
    unfold rngD
    rw [Int.sub_zero]
    exact this
  · exact p1.elim
theorem di_rng2 {e2 : Expr} (ha : PA X [e, e2] (cA (am X xc w) fs)) (hm : X.mg "range" = none) (hg : Gl X "range" := by rfl) (hs : starEach [e, e2] X.env = [(false, eval e X.env), (false, eval e2 X.env)] := by rfl) (hs2 : starEach [e2] X.env = [(false, eval e2 X.env)] := by rfl) : PI X tg (.Call (.Name "range" p) [e, e2] [] pos) (cI (am X xc w) (dRng2 fs)) := PI.imp (pi_range2 hg hm ha hs hs2) fun σ H R h => by
  obtain ⟨β, S, ρ, sr, rs, p⟩ := h
  unfold dRng2 at p
  refine cG_step sr rs p fun ds S1 β1 H1 vs x1 sr1 rs1 r1 p1 => ?_
  dsimp only at p1
  split at p1
  · obtain ⟨v, u, rfl, r2, r3⟩ := r1.two
    obtain ⟨g, p2⟩ := post_guard p1
    simp only [okI, Bool.and_eq_true, decide_eq_true_eq] at g
    rw [RV.int_iff] at r2 r3
    subst r2 r3
    exact ⟨_, _, rfl, ⟨g.1.1, g.1.2, g.2.1, g.2.2⟩, p2 β1 H1 _ .refl sr1 itok_rng⟩
  · exact p1.elim

end

/-! ### for -/
/-- the walked list, if it is one of the store, stands still -/
def gdOk (gd : Option Nat) (ds : List D) (S : Sto) : Prop := ∀ n, gd = some n → S[n]? = some ds
theorem gdOk_none {ds : List D} {S : Sto} : gdOk none ds S := fun _ e => nomatch e
open Classical in
/-- one turn after another -/
noncomputable def loopD (ok : Sto → Prop) (t : Tg) (body : Dn) : List D → Rho → Sto → Out
  | [], ρ, S => if ok S then .nx ρ S else .bad
  | d :: ds, ρ, S => if ok S then (match t.bind d ρ with
    | none => .bad
    | some ρ1 => match body ρ1 S with
      | .nx ρ' S' => loopD ok t body ds ρ' S'
      | .ct ρ' S' => loopD ok t body ds ρ' S'
      | .bk ρ' S' => .nx ρ' S'
      | .rt d' S' => .rt d' S'
      | .ex x ρ' S' => .ex x ρ' S'
      | .bad => .bad) else .bad
noncomputable def sFor (fi : Rho → Sto → Res (List D × Option Nat)) (t : Tg) (body : Dn) : Dn := fun ρ S => sBind (fi ρ S) ρ fun a S1 => loopD (gdOk a.2 a.1) t body a.1 ρ S1
section
variable {X : Cx} {xc : XC} {w : St → XK} {tg l : Expr} {pos : Pos} {sts : List Stmt} {fi : Rho → Sto → Res (List D × Option Nat)} {t : Tg} {body : Dn}
theorem ds_for (hp : PassesOwn (model X.prog X.w) X.A X.env X.xe) (hi : PI X tg l (cI (am X xc w) fi)) (hg : PG X tg (cTg (am X xc w).G t)) (hb : PSs X sts (cS (am X xc w) body)) (hc : X.calm = true := by rfl) (hs : ∀ x, foldedSetIterable l X.env x = pure x := by intro _; rfl) :
    PS X (.For tg l sts [] pos) (cS (am X xc w) (sFor fi t body)) := PS.imp (ps_for hp hc hi hg hb hs) fun T σ H h => by
  obtain ⟨β, S, ρ, sr, rs, p⟩ := h
  refine cG_stepS sr rs p fun a S1 β1 H1 J x1 sr1 rs1 ok p1 => ?_
  obtain ⟨ds, gd⟩ := a
  dsimp only at p1 ok
  refine ⟨fun i m σ H => m = ds.length - i ∧ i ≤ ds.length ∧ ∃ β S ρ, Ext β1 H1 β H ∧ SR (am X xc w).G β H S ∧ RSt (am X xc w).G β H ρ σ ∧ PostS (am X xc w) β H T (loopD (gdOk gd ds) t body (ds.drop i) ρ S), ⟨ds.length, by simp, Nat.zero_le _, β1, S1, ρ, .refl, sr1, rs1, by simpa using p1⟩, ?_⟩
  rintro i m σ2 H2 ⟨rfl, hi, β2, S2, ρ2, x2, sr2, rs2, p2⟩
  by_cases hlt : i < ds.length
  · have hd : ds.drop i = ds[i] :: ds.drop (i + 1) := List.drop_eq_getElem_cons hlt
    rw [hd, loopD] at p2
    split at p2
    · rename_i g
      obtain ⟨go, yld⟩ := ok.item β2 H2 S2 i ds[i] x2 sr2 g (List.getElem?_eq_getElem hlt)
      split at p2
      · exact p2.elim
      · rename_i ρ3 e3
        refine .inr ⟨go, fun σ' H' => ∃ β' S' ρ', Ext β1 H1 β' H' ∧ SR (am X xc w).G β' H' S' ∧ RSt (am X xc w).G β' H' ρ' σ' ∧ PostS (am X xc w) β' H' T (loopD (gdOk gd ds) t body (ds.drop (i + 1)) ρ' S'), fun σ' H' hN => ⟨_, by omega, rfl, hlt, hN⟩, fun y H3 hy => ?_⟩
        obtain ⟨x3, sr3, r3⟩ := yld y H3 hy
        refine ⟨β2, S2, ρ2, ds[i], sr3, rs2.mono sr2 x3, r3, ρ3, e3, fun σ4 rs4 _ => ⟨β2, S2, ρ3, sr3, rs4, ?_⟩⟩
        cases e : body ρ3 S2 with
        | nx ρ5 S5 =>
          rw [e] at p2
          exact fun β6 H6 σ6 x6 sr6 rs6 => ⟨β6, S5, ρ5, (x2.trans sr2 (x3.trans sr3 x6)), sr6, rs6, p2.shift sr6 (x3.trans sr3 x6)⟩
        | ct ρ5 S5 =>
          rw [e] at p2
          exact fun β6 H6 σ6 x6 sr6 rs6 => ⟨β6, S5, ρ5, (x2.trans sr2 (x3.trans sr3 x6)), sr6, rs6, p2.shift sr6 (x3.trans sr3 x6)⟩
        | bk ρ5 S5 => rw [e] at p2; exact fun β6 H6 σ6 x6 sr6 rs6 => p2 β6 H6 σ6 (x3.trans sr3 x6) sr6 rs6
        | rt d5 S5 => rw [e] at p2; exact fun β6 H6 v6 x6 sr6 r6 => p2 β6 H6 v6 (x3.trans sr3 x6) sr6 r6
        | ex x5 ρ5 S5 => rw [e] at p2; exact fun β6 H6 σ6 cls dx x6 sr6 rs6 r6 => p2 β6 H6 σ6 cls dx (x3.trans sr3 x6) sr6 rs6 r6
        | bad => rw [e] at p2; exact p2
    · exact p2.elim
  · have e : i = ds.length := by omega
    subst e
    rw [List.drop_length, loopD] at p2
    split at p2
    · rename_i g
      exact .inl ⟨ok.stop β2 H2 S2 x2 sr2 g, p2 β2 H2 σ2 .refl sr2 rs2⟩
    · exact p2.elim

/-! ### while -/
open Classical in
/-- at most n turns -/
noncomputable def whileD (ft : Rho → Sto → Res Bool) (body : Dn) : Nat → Rho → Sto → Out
  | 0, _, _ => .bad
  | n + 1, ρ, S => sBind (ft ρ S) ρ fun b S1 => if b = true then (match body ρ S1 with
    | .nx ρ' S' => whileD ft body n ρ' S'
    | .ct ρ' S' => whileD ft body n ρ' S'
    | .bk ρ' S' => .nx ρ' S'
    | .rt d' S' => .rt d' S'
    | .ex x ρ' S' => .ex x ρ' S'
    | .bad => .bad) else .nx ρ S1
theorem ds_while {c : Expr} {ft : Rho → Sto → Res Bool} (n : Rho → Sto → Nat) (hp : PassesOwn (model X.prog X.w) X.A X.env X.xe) (hc : PT X c (cT (am X xc w) ft)) (hb : PSs X sts (cS (am X xc w) body)) : PS X (.While c sts [] pos) (cS (am X xc w) fun ρ S => whileD ft body (n ρ S) ρ S) := PS.imp (ps_while hp hc hb) fun T σ H h => by
  obtain ⟨β, S, ρ, sr, rs, p⟩ := h
  refine ⟨fun m σ H => ∃ β S ρ, SR (am X xc w).G β H S ∧ RSt (am X xc w).G β H ρ σ ∧ PostS (am X xc w) β H T (whileD ft body m ρ S), ⟨n ρ S, β, S, ρ, sr, rs, p⟩, ?_⟩
  rintro m σ2 H2 ⟨β2, S2, ρ2, sr2, rs2, p2⟩
  cases m with
  | zero => exact p2.elim
  | succ m =>
    rw [whileD] at p2
    refine cG_stepS sr2 rs2 p2 fun b S3 β3 H3 k x3 sr3 rs3 r3 p3 => ?_
    subst r3
    cases b with
    | false => exact iteF (p3 β3 H3 σ2 .refl sr3 rs3)
    | true =>
      refine iteT ⟨fun σ' H' => ∃ β' S' ρ', SR (am X xc w).G β' H' S' ∧ RSt (am X xc w).G β' H' ρ' σ' ∧ PostS (am X xc w) β' H' T (whileD ft body m ρ' S'), fun σ' H' hN => ⟨m, Nat.lt_succ_self m, hN⟩, β3, S3, ρ2, sr3, rs3, ?_⟩
      rw [if_pos rfl] at p3
      cases e : body ρ2 S3 with
      | nx ρ5 S5 => rw [e] at p3; exact fun β6 H6 σ6 x6 sr6 rs6 => ⟨β6, S5, ρ5, sr6, rs6, p3.shift sr6 x6⟩
      | ct ρ5 S5 => rw [e] at p3; exact fun β6 H6 σ6 x6 sr6 rs6 => ⟨β6, S5, ρ5, sr6, rs6, p3.shift sr6 x6⟩
      | bk ρ5 S5 => rw [e] at p3; exact p3
      | rt d5 S5 => rw [e] at p3; exact p3
      | ex x5 ρ5 S5 => rw [e] at p3; exact p3
      | bad => rw [e] at p3; exact p3
end
end DE

set_option Elab.async false
set_option linter.all false
set_option maxRecDepth 100000
set_option maxHeartbeats 4000000
/-! DE6: comprehensions. -/
namespace DE
open PySem PySem.Spec L2
open PyProof.Rows hiding St

def wipeR (ρ : Rho) : List Nat → Rho
  | [] => ρ
  | v :: vs => (wipeR ρ vs).set v none
theorem RSt.wipe {G : Gd} {β : List Addr} {H : Hp} {ρ : Rho} {σ : St} (rs : RSt G β H ρ σ) : ∀ vs : List Nat, RSt G β H (wipeR ρ vs) (L2.wipe σ vs)
  | [] => rs
  | v :: vs => (RSt.wipe rs vs).unset v
theorem wipe_wipe {σ : St} (vs : List Nat) : wipe (wipe σ vs) vs = wipe σ vs := by
  have h : ∀ us : List Nat, (∀ j ∈ us, j ∈ vs) → wipe (wipe σ us) vs = wipe σ vs := by
    intro us
    induction us with
    | nil => intro _; rfl
    | cons u us ih =>
      intro hu
      show wipe ((wipe σ us).set u none) vs = wipe σ vs
      rw [wipe_set (hu u List.mem_cons_self), ih fun j hj => hu j (List.mem_cons_of_mem _ hj)]
  exact h vs fun _ h => h
abbrev w0 : St → XK := fun _ _ _ _ => False
open Classical in
/-- the turns of a comprehension; the list that is made is the n-th of the store -/
noncomputable def lcD (ok : Sto → Prop) (t : Tg) (ft : Rho → Sto → Res Bool) (fe : Rho → Sto → Res D) (ρ : Rho) (n : Nat) : List D → Sto → Res Unit
  | [], S => if ok S then .ok () S else .bad
  | d :: ds, S => if ok S then (match t.bind d ρ with
    | none => .bad
    | some ρ1 => match ft ρ1 S with
      | .ok true S2 => (match fe ρ1 S2 with
        | .ok y S3 => (match S3[n]? with
          | some acc => guard (decide (acc.length < 16777216)) (lcD ok t ft fe ρ n ds (S3.set n (acc ++ [y])))
          | none => .bad)
        | _ => .bad)
      | .ok false S2 => lcD ok t ft fe ρ n ds S2
      | _ => .bad) else .bad
/-- the new list may change -/
def finM (n : Nat) (S : Sto) : Res D := .ok (.ref n) S
/-- the new list stands for ever -/
def finI (n : Nat) (S : Sto) : Res D := match S[n]? with
  | some acc => guard (D.lows n acc && (S.take n).all (D.lows n)) (.ok (.lst acc) (S.take n))
  | none => .bad
noncomputable def dLc (fin : Nat → Sto → Res D) (fi : Rho → Sto → Res (List D × Option Nat)) (t : Tg) (ft : Rho → Sto → Res Bool) (fe : Rho → Sto → Res D) (own : List Nat) : Rho → Sto → Res D :=
  dB fi fun a ρ S => (lcD (gdOk a.2 a.1) t ft fe (wipeR ρ own) S.length a.1 (S ++ [[]])).bind fun _ S' => fin S.length S'
/-- fin tells what is had at the new list -/
def FinOk (G : Gd) (fin : Nat → Sto → Res D) : Prop := ∀ (w : St → XK) (β1 β : List Addr) (H1 H : Hp) (S : Sto) (σ : St) (Q : VK) (a : Addr) (n : Nat), n = β1.length → Ext β1 H1 β H → SR G β H S → β[n]? = some a → Post ⟨G, w⟩ (RV G) β1 H1 σ Q (fin n S) → Q (.ref a) H
theorem fin_M {G : Gd} : FinOk G finM := fun w β1 β H1 H S σ Q a n hn x sr hb p => p β H _ x sr (by rw [RV]; exact ⟨a, rfl, hb⟩)
theorem fin_I {G : Gd} : FinOk G finI := fun w β1 β H1 H S σ Q a n hn x sr hb p => by
  unfold finI at p
  cases e : S[n]? with
  | none => rw [e] at p; exact p.elim
  | some acc =>
    rw [e] at p
    obtain ⟨g, p2⟩ := post_guard p
    simp only [Bool.and_eq_true, List.all_eq_true] at g
    exact p2 (β.take n) H _ (x.cut n hn) (sr.cut n g.2) (RV.freeze sr (by rw [RV]; exact ⟨a, rfl, hb⟩) (Nat.le_refl n) e g.1)
section
variable {X : Cx} {xc : XC} {w : St → XK} {elt tg iter : Expr} {ifs : List Expr} {scope : Scope} {own : List (Str × Nat)} {pos : Pos} {fi : Rho → Sto → Res (List D × Option Nat)} {t : Tg} {ft : Rho → Sto → Res Bool} {fe : Rho → Sto → Res D} {fin : Nat → Sto → Res D}
def dYes : Rho → Sto → Res Bool := fun _ S => .ok true S
theorem dts_yes {X' : Cx} : PTs X' [] (cT (am X' xc w) dYes) := ⟨fun pins s σ H Q I h => pts_nil.run pins s σ H Q I (by
  obtain ⟨β, S, ρ, sr, rs, p⟩ := h
  exact p β H true .refl sr rfl)⟩
theorem dts_if {X' : Cx} {c : Expr} (h : PT X' c (cT (am X' xc w) ft)) : PTs X' [c] (cT (am X' xc w) ft) := pts_one h
theorem cLc (hf : FinOk ⟨X.K, X.mg, xc⟩ fin) (hsl : ∀ j ∈ t.slots, j ∈ own.map (·.2)) {σ : St} {H : Hp} {Q : VK} (h : cE (am X xc w) (dLc fin fi t ft fe (own.map (·.2))) σ H Q) :
    tLc (cI (am X xc w) fi) (cTg (am X xc w0).G t) (cT (am X xc w0) ft) (cE (am X xc w0) fe) (own.map (·.2)) σ H Q := by
  obtain ⟨β, S, ρ, sr, rs, p⟩ := h
  refine cG_step sr rs p fun a S1 β1 H1 J x1 sr1 rs1 ok p1 => ?_
  obtain ⟨ds, gd⟩ := a
  dsimp only at p1 ok
  intro L hL
  obtain ⟨sr2, x2⟩ := sr1.push (ds := []) (vs := []) hL .nil
  have hb0 : (β1 ++ [L])[S1.length]? = some L := by rw [← sr1.len]; simp
  have rs0 := rs1.wipe (own.map (·.2))
  refine ⟨fun i m H => m = ds.length - i ∧ i ≤ ds.length ∧ ∃ β S, Ext β1 H1 β H ∧ SR (am X xc w).G β H S ∧ β[S1.length]? = some L ∧ Post (am X xc w) (RV (am X xc w).G) β1 H1 σ Q ((lcD (gdOk gd ds) t ft fe (wipeR ρ (own.map (·.2))) S1.length (ds.drop i) S).bind fun _ S' => fin S1.length S'),
    ⟨ds.length, by simp, Nat.zero_le _, β1 ++ [L], S1 ++ [[]], x2, sr2, hb0, by simpa using p1⟩, ?_⟩
  rintro i m H2 ⟨rfl, hi, β2, S2, x3, sr3, hb, p2⟩
  by_cases hlt : i < ds.length
  · have hd : ds.drop i = ds[i] :: ds.drop (i + 1) := List.drop_eq_getElem_cons hlt
    rw [hd, lcD] at p2
    split at p2
    · rename_i g
      obtain ⟨go, yld⟩ := ok.item β2 H2 S2 i ds[i] x3 sr3 g (List.getElem?_eq_getElem hlt)
      split at p2
      · exact p2.elim
      · rename_i ρ3 e3
        refine .inr ⟨go, fun H' => ∃ β' S', Ext β1 H1 β' H' ∧ SR (am X xc w).G β' H' S' ∧ β'[S1.length]? = some L ∧ Post (am X xc w) (RV (am X xc w).G) β1 H1 σ Q ((lcD (gdOk gd ds) t ft fe (wipeR ρ (own.map (·.2))) S1.length (ds.drop (i + 1)) S').bind fun _ S'' => fin S1.length S''), fun H' hN => ⟨_, by omega, rfl, hlt, hN⟩, fun y H3 hy => ?_⟩
        obtain ⟨x4, sr4, r4⟩ := yld y H3 hy
        have x5 : Ext β1 H1 β2 H3 := x3.trans sr3 x4
        refine ⟨β2, S2, wipeR ρ (own.map (·.2)), ds[i], sr4, rs0.mono sr1 x5, r4, ρ3, e3, fun σ4 rs4 so => ⟨by rw [so _ hsl]; exact wipe_wipe _, ?_⟩⟩
        refine ⟨β2, S2, ρ3, sr4, rs4, ?_⟩
        cases e1 : ft ρ3 S2 with
        | bad => rw [e1] at p2; exact p2.elim
        | ex x S3 => rw [e1] at p2; exact p2.elim
        | ok b S3 =>
          rw [e1] at p2
          intro β6 H6 k x6 sr6 hk
          subst hk
          have hb6 : β6[S1.length]? = some L := by
            obtain ⟨m, rfl, _⟩ := x6.more
            rw [List.getElem?_append_left (List.getElem?_eq_some_iff.mp hb).1]; exact hb
          cases b with
          | false => exact iteF ⟨β6, S3, x5.trans sr4 x6, sr6, hb6, p2⟩
          | true =>
            refine iteT ⟨β6, S3, ρ3, sr6, rs4.mono sr4 x6, ?_⟩
            dsimp only at p2
            cases e2 : fe ρ3 S3 with
            | bad => rw [e2] at p2; exact p2.elim
            | ex x S4 => rw [e2] at p2; exact p2.elim
            | ok d S4 =>
              rw [e2] at p2
              dsimp only at p2
              intro β7 H7 v x7 sr7 r7
              have hb7 : β7[S1.length]? = some L := by
                obtain ⟨m, rfl, _⟩ := x7.more
                rw [List.getElem?_append_left (List.getElem?_eq_some_iff.mp hb6).1]; exact hb6
              cases e4 : S4[S1.length]? with
              | none => rw [e4] at p2; exact p2.elim
              | some acc =>
                rw [e4] at p2
                dsimp only at p2
                obtain ⟨vs, h8, r8⟩ := sr7.at_ _ acc L e4 hb7
                unfold guard at p2
                split at p2
                · rename_i g2
                  obtain ⟨sr9, x9⟩ := sr7.write hb7 (r8.append (.cons r7 .nil))
                  refine ⟨vs, h8, ?_, β7, _, ((x5.trans sr4 x6).trans sr6 x7).trans sr7 x9, sr9, hb7, p2⟩
                  rw [← r8.length, sizeLine_eq]
                  exact of_decide_eq_true g2
                · exact p2.elim
    · exact p2.elim
  · have e : i = ds.length := by omega
    subst e
    rw [List.drop_length, lcD] at p2
    split at p2
    · rename_i g
      exact .inl ⟨ok.stop β2 H2 S2 x3 sr3 g, hf w β1 β2 H1 H2 S2 σ Q L S1.length (by rw [sr1.len]) x3 sr3 hb p2⟩
    · exact p2.elim
theorem de_lc (hf : FinOk ⟨X.K, X.mg, xc⟩ fin) (hN : X.N.Nodup) (hi : PI X tg iter (cI (am X xc w) fi)) (ok : blkC X.N X.env.scope scope own = true)
    (hg : ∀ (s : Shared) (H : Hp) (C : Addr) (cl : List (Str × Addr)) (fp : List Addr), PG (X.blk s H scope (compEnvC scope cl C X.env) fp) tg (cTg (am (X.blk s H scope (compEnvC scope cl C X.env) fp) xc w0).G t))
    (ht : ∀ (s : Shared) (H : Hp) (C : Addr) (cl : List (Str × Addr)) (fp : List Addr), PTs (X.blk s H scope (compEnvC scope cl C X.env) fp) ifs (cT (am (X.blk s H scope (compEnvC scope cl C X.env) fp) xc w0) ft))
    (he : ∀ (s : Shared) (H : Hp) (C : Addr) (cl : List (Str × Addr)) (fp : List Addr), PE (X.blk s H scope (compEnvC scope cl C X.env) fp) elt (cE (am (X.blk s H scope (compEnvC scope cl C X.env) fp) xc w0) fe))
    (hsl : ∀ j ∈ t.slots, j ∈ own.map (·.2) := by decide) (hc : X.calm = true := by rfl) (hs : ∀ x, foldedSetIterable iter X.env x = pure x := by intro _; rfl) :
    PE X (.ListComp elt [⟨tg, iter, ifs, 0⟩] scope pos) (cE (am X xc w) (dLc fin fi t ft fe (own.map (·.2)))) := PE.imp (pe_lc hc hN hi (blkOk_by ok) hg ht he hs) fun σ H Q h => cLc hf hsl h
/-- y = [..] on one line, y a local -/
theorem ds_setLc (j : Nat) {y : Str} {py spos : Pos} (hf : FinOk ⟨X.K, X.mg, xc⟩ fin) (hN : X.N.Nodup) (hi : PI X tg iter (cI (am X xc w) fi)) (ok : blkC X.N X.env.scope scope own = true)
    (hg : ∀ (s : Shared) (H : Hp) (C : Addr) (cl : List (Str × Addr)) (fp : List Addr), PG (X.blk s H scope (compEnvC scope cl C X.env) fp) tg (cTg (am (X.blk s H scope (compEnvC scope cl C X.env) fp) xc w0).G t))
    (ht : ∀ (s : Shared) (H : Hp) (C : Addr) (cl : List (Str × Addr)) (fp : List Addr), PTs (X.blk s H scope (compEnvC scope cl C X.env) fp) ifs (cT (am (X.blk s H scope (compEnvC scope cl C X.env) fp) xc w0) ft))
    (he : ∀ (s : Shared) (H : Hp) (C : Addr) (cl : List (Str × Addr)) (fp : List Addr), PE (X.blk s H scope (compEnvC scope cl C X.env) fp) elt (cE (am (X.blk s H scope (compEnvC scope cl C X.env) fp) xc w0) fe))
    (hsl : ∀ j ∈ t.slots, j ∈ own.map (·.2) := by decide) (hc : X.calm = true := by rfl) (hs : ∀ x, foldedSetIterable iter X.env x = pure x := by intro _; rfl)
    (hy : X.N[j]? = some y := by rfl) (hyl : X.env.scope.names.lookup y = some .local := by rfl)
    (hsw : swapsWith (.ListComp elt [⟨tg, iter, ifs, 0⟩] scope pos) (some (.Name y py)) spos.line X.env = pure true := by exact sw_true rfl rfl rfl (by decide +kernel)) :
    PS X (.Assign [.Name y py] (.ListComp elt [⟨tg, iter, ifs, 0⟩] scope pos) spos) (cS (am X xc w) (sSet j (dLc fin fi t ft fe (own.map (·.2))))) := PS.imp (ps_setLc hc hN hy hyl hsw hi (blkOk_by ok) hg ht he hs) fun T σ H h => by
  obtain ⟨β, S, ρ, sr, rs, p⟩ := h
  refine cLc (fi := fi) (ft := ft) (fe := fe) (fin := fin) (t := t) (own := own) hf hsl ?_
  exact cG_stepS sr rs p fun d S1 β1 H1 v x1 sr1 rs1 r1 p1 => p1 β1 H1 _ .refl sr1 (rs1.set j r1)
end
end DE

set_option Elab.async false
set_option linter.all false
set_option maxRecDepth 100000
set_option maxHeartbeats 4000000
/-! DE7: enumerate over tuples; enumerate, zip by data. -/
namespace DE
open PySem PySem.Spec L2
open PyProof.Rows hiding St

section
open Sem (wp)
open AutoSeq1 (wpAny_loadPart')
/-- enumerate(v), v anything that an iterator begins over -/
theorem meets_enum1 {v : Value} {o : Obj} {B0 : Heap → Prop} (B : Begins v o B0) :
    Meets (Builtin.«enumerate.__new__» ⟨[.type "enumerate", v], []⟩) (fun _ R s => B0 s.heap ∧ R (.ok (.ret (.ref (s.heap.push o).objs.size)))
      { s with heap := (s.heap.push o).push { cls := .type "enumerate", data := .fields #[.none, .bool false, .ref s.heap.objs.size, rawInt 0, .none, .none] } }) :=
  .of_wp fun prog wd A R s hh => by
    obtain ⟨hp, gs, dr, tk, os⟩ := s
    obtain ⟨hb, hr⟩ := hh
    have hsub := sub_enumerate
    have q1 : ∀ {A' : Around} {E : Value → Shared → Prop} {Q : Value → Shared → Prop}, Q (.ref hp.objs.size) ⟨hp.push o, gs, dr, tk, os⟩ → wpAny (model prog wd) A' (pyIter v) Q E ⟨hp, gs, dr, tk, os⟩ :=
      fun q => B.iter prog wd _ _ ⟨hp, gs, dr, tk, os⟩ _ hb q
    wp_walk using q1
    refine wpAny_stack_any fun stk => wpAny_pure ?_
    split
    · rename_i cc _ _ _ _ _
      cases (cc == Value.type "enumerate") <;> (wp_walk using q1; exact ⟨_, rfl, hr⟩)
    · wp_walk using q1
      exact ⟨_, rfl, hr⟩
theorem call_enum1 {prog : Program} {wd : World} {A : Around} {E : Value → Shared → Prop} {s : Shared} {v : Value} {o : Obj} {B0 : Heap → Prop} {Q : Value → Shared → Prop} (B : Begins v o B0) (hb : B0 s.heap)
    (k : ∀ h', IsEnum h' (s.heap.objs.size + 1) s.heap.objs.size 0 .none → h'.get? s.heap.objs.size = some o → (∀ b u, s.heap.get? b = some u → h'.get? b = some u) → Q (.ref (s.heap.objs.size + 1)) { s with heap := h' }) :
    wpAny (model prog wd) A (call (.type "enumerate") [v]) Q E s := by
  refine callType_new F.called_enumerate (by decide) (F.typeCall_enumerate_1 _) (F.newCall_enumerate_1 _) (fun obj => F.args_object_init_2 obj _) F.entry_enumerate_new (meets_enum1 B) ⟨hb, ?_⟩
  have size1 : (s.heap.push o).objs.size = s.heap.objs.size + 1 := Heap.size_push ..
  have made : IsEnum ((s.heap.push o).push { cls := .type "enumerate", data := .fields #[.none, .bool false, .ref s.heap.objs.size, rawInt 0, .none, .none] }) (s.heap.objs.size + 1) s.heap.objs.size 0 .none := by
    have z := Heap.get?_push_size (s.heap.push o) (o := { cls := .type "enumerate", data := .fields #[.none, .bool false, .ref s.heap.objs.size, rawInt 0, .none, .none] }) rfl
    rw [size1] at z; exact z
  show _ ∧ _
  rw [size1]
  exact ⟨⟨_, made, rfl⟩, k _ made (Heap.get?_push_of_some _ (Heap.get?_push_size _ B.free)) fun b u e => Heap.get?_push_of_some _ (Heap.get?_push_of_some _ e)⟩
end
/-- the tuple at a, with places -/
def IteT (K : PySem.W.Frag) (a : Addr) : It :=
  ⟨fun i H => ∃ (xs : List V) (x : V), SqT K H a xs ∧ xs[i]? = some x, fun i H v H' => ∃ T x, v = .ref T ∧ H T = none ∧ H' = upd H T (.tup [.int (i : Nat), x]) ∧ ∀ xs, SqT K H a xs → xs[i]? = some x, fun i H => ∃ xs : List V, SqT K H a xs ∧ xs.length = i⟩
theorem turn_enumT {P : Program} {wd : World} {K : PySem.W.Frag} {elts : List Expr} {kk : Nat} {tpos : Pos} (a e it : Addr) :
    Turn P wd K (.Tuple elts kk tpos) (IteT K a) [e, it] e (fun i h => (∃ old, IsEnum h e it ((i : Nat) : Int) old) ∧ h.IsTupleIter it a i ∧ e ≠ it ∧ a ≠ it ∧ a ≠ e) where
  mem := by simp
  obj := fun i h st b hb => by
    obtain ⟨⟨old, he⟩, ⟨o, ho, hc, hd⟩, _⟩ := st
    have hb' : b = e ∨ b = it := by simpa using hb
    rcases hb' with z | z
    · subst z; exact ⟨_, he, fun _ q => nomatch q⟩
    · subst z; exact ⟨o, ho, fun _ q => by rw [hd] at q; cases q⟩
  keep := fun i h h' st k => by
    obtain ⟨⟨old, he⟩, hi, hne⟩ := st
    exact ⟨⟨old, k e (by simp) _ he⟩, hi.at fun o q => k it (by simp) o q, hne⟩
  item := by
    intro X hP hw hK hc i pins s σ H E I hf st hg
    subst hP hw hK
    obtain ⟨⟨old, he⟩, hit, hne, hai, hae⟩ := st
    obtain ⟨xs, x, hq, hx⟩ := hg
    obtain ⟨its, rv, p, hz⟩ := I.tuple hq
    obtain ⟨u, hu, ru⟩ := rv.get hx
    have hel : e < s.heap.objs.size := Heap.lt_size he
    have hil : it < s.heap.objs.size := by obtain ⟨_, q, _⟩ := hit; exact Heap.lt_size q
    have hlt : i < its.toArray.size := by simpa using (List.getElem?_eq_some_iff.mp hu).1
    refine wpAny_pyNext_enum_itemD (Draws.tuple (A := X.A.in1) (show X.A.in1.handled = none from I.ok.hd hc) it a hai its.toArray) he ⟨hit, p⟩ hlt hne (by simp only [List.mem_cons, List.not_mem_nil, or_false, not_or]; exact ⟨hne, Ne.symm hae⟩) fun v h' tk hv ho st' hT hsz hk => ?_
    have hvu : v = u := by
      have h1 : its[i]? = some v := by simpa using hv
      rw [hu] at h1; exact (Option.some.inj h1).symm
    subst hvu
    refine ⟨_, rfl, wpAny_letOwnedTupleGo_enum (s := { s with heap := h', toks := tk + 1 }) ho fun h'' he' sb => ?_⟩
    have hT2 : h''.get? s.heap.objs.size = some { cls := .type "tuple", data := .seq #[.int i tk, v] } := (sb.2 _ (Nat.ne_of_gt hel)).trans hT
    have made : ObjOk X.prog X.w (upd H s.heap.objs.size (.tup [.int (i : Nat), x])) h'' s.heap.objs.size (.tup [.int (i : Nat), x]) :=
      ⟨by show 2 ≤ sizeLine; decide, [.int i tk, v], .cons ⟨_, rfl⟩ (.cons ru .nil), ⟨_, hT2, rfl, _, rfl⟩⟩
    have J : Inv X pins σ (upd H s.heap.objs.size (.tup [.int (i : Nat), x])) { s with heap := h'', toks := tk + 1 } :=
      I.turnedNew (ch := [e, it]) (fun b ob hb q => (sb.2 b (fun z => hb (by simp [z]))).trans (hk b ob (fun z => hb (by simp [z])) (fun z => hb (by simp [z])) q)) hf (Nat.le_refl _) made
    refine ⟨.ref s.heap.objs.size, _, J, rfl, ⟨_, x, rfl, I.hok.fresh (Nat.le_refl _), rfl, fun ys hy => by rw [I.tuple_inj hy hq]; exact hx⟩, ⟨⟨v, ?_⟩, st'.1.at fun o q => (sb.2 it (Ne.symm hne)).trans q, hne, hai, hae⟩, fun b hb => ?_⟩
    · have e1 : ((i + 1 : Nat) : Int) = (i : Int) + 1 := by omega
      rw [e1]; exact he'
    · have hb' : b < s.heap.objs.size := by
        have z : b = e ∨ b = it := by simpa using hb
        rcases z with z | z <;> rw [z] <;> assumption
      rw [upd_ne (Nat.ne_of_lt hb')]
      exact (hf b hb).1
  done := by
    intro X hP hw hK hc i pins s σ H E I hf st hg
    subst hP hw hK
    obtain ⟨⟨old, he⟩, hit, hne, hai, hae⟩ := st
    obtain ⟨xs, hq, hx⟩ := hg
    obtain ⟨its, rv, p, hz⟩ := I.tuple hq
    obtain ⟨f0, f1, f2, f3, f4, f5⟩ := hf it (by simp)
    have hn : i = its.toArray.size := by
      rw [← hx, rv.length]; simp
    subst hn
    exact wpAny_pyNext_enum_endD (Draws.tuple (A := X.A.in1) (show X.A.in1.handled = none from I.ok.hd hc) it a hai its.toArray) he ⟨hit, p⟩ fun h' eb => ⟨rfl, I.turned (t' := s.toks) (fun b o hb q => eb b o hb q) f0 f1 f3 f4 f5⟩
  self := fun A i s Q E st h => by
    obtain ⟨⟨_, he⟩, _⟩ := st
    exact wpAny_pyIter_enum he h
def iEnumT (K : PySem.W.Frag) (ta : TA) : TI := fun σ H R => ta σ H fun vs H1 => ∃ a xs, vs = [.ref a] ∧ SqT K H1 a xs ∧ R (IteT K a) H1
theorem pi_enumT {X : Cx} {e : Expr} {ta : TA} {p pos tpos : Pos} {elts : List Expr} {kk : Nat} (hg : Gl X "enumerate") (hm : X.mg "enumerate" = none) (ha : PA X [e] ta) (hs : starEach [e] X.env = [(false, eval e X.env)] := by rfl) :
    PI X (.Tuple elts kk tpos) (.Call (.Name "enumerate" p) [e] [] pos) (iEnumT X.K ta) := by
  refine ⟨fun pins s σ H R I h => ?_⟩
  refine Call_ (ld_blt I hg hm boot_enumerate (PyProof.Rows.callWith_type1 (thn (ha.run pos pins s σ H _ I h) fun us s1 ⟨vs, H1, I1, rr, q1⟩ => ?_) hs rfl))
  obtain ⟨a, xs, ev, hq, q⟩ := q1
  subst ev
  obtain ⟨u, rfl, ru⟩ := Vals.one rr
  obtain rfl : u = Value.ref a := ru
  obtain ⟨its, rv, tup, hz⟩ := I1.tuple hq
  have ha1 : a < s1.heap.objs.size := tup.lt
  refine call_enum1 (begins_tuple a its.toArray) tup fun h' he hit hk => wpAny_pyIter_enum he ?_
  have J : Inv X pins σ H1 { s1 with heap := h' } := I1.kept (t' := s1.toks) hk
  have ne1 : a ≠ s1.heap.objs.size := Nat.ne_of_lt ha1
  have ne2 : a ≠ s1.heap.objs.size + 1 := Nat.ne_of_lt (Nat.lt_succ_of_lt ha1)
  refine ⟨s1.heap.objs.size + 1, [s1.heap.objs.size + 1, s1.heap.objs.size], _, _, H1, rfl, J, turn_enumT a (s1.heap.objs.size + 1) s1.heap.objs.size, ⟨⟨.none, he⟩, ⟨_, hit, rfl, rfl⟩, Nat.succ_ne_self _, ne1, ne2⟩, fun b hb => ?_, q⟩
  have hle : s1.heap.objs.size ≤ b := by
    have z : b = s1.heap.objs.size + 1 ∨ b = s1.heap.objs.size := by simpa using hb
    rcases z with z | z <;> rw [z]
    · exact Nat.le_succ _
    · exact Nat.le_refl _
  exact I1.fpOk hle (I1.hok.fresh hle)

/-! ### by data -/
def enumD (ds : List D) : List D := (List.range ds.length).map fun (i : Nat) => D.tup [.int (i : Int), ds.getD i .non]
theorem enumD_get {ds : List D} {i : Nat} {d : D} (h : (enumD ds)[i]? = some d) : ∃ e, ds[i]? = some e ∧ d = .tup [.int (i : Int), e] := by
  unfold enumD at h
  rw [List.getElem?_map] at h
  cases q : (List.range ds.length)[i]? with
  | none => rw [q] at h; cases h
  | some j =>
    rw [q] at h
    obtain ⟨h1, h2⟩ := List.getElem?_eq_some_iff.mp q
    simp at h1 h2
    subst h2
    cases h
    exact ⟨ds[i], List.getElem?_eq_getElem h1, by simp [List.getD_eq_getElem?_getD, h1]⟩
theorem pair_new {G : Gd} {β : List Addr} {H : Hp} {S : Sto} {d1 d2 : D} {v1 v2 : V} {T : Addr} (sr : SR G β H S) (hT : H T = none) (r1 : RV G β H d1 v1) (r2 : RV G β H d2 v2) : Ext β H β (upd H T (.tup [v1, v2])) ∧ SR G β (upd H T (.tup [v1, v2])) S ∧ RV G β (upd H T (.tup [v1, v2])) (.tup [d1, d2]) (.ref T) :=
  ⟨Ext.laid hT, sr.laid hT, RV.newT sr hT (.cons r1 (.cons r2 .nil))⟩
section
variable {X : Cx} {xc : XC} {w : St → XK} {e e2 : Expr} {elts : List Expr} {kk : Nat} {tpos pos p : Pos} {f g : Rho → Sto → Res D}
/-- a list of the program's own at a, in every later world -/
theorem stays_l {G : Gd} {β1 β : List Addr} {H1 H : Hp} {a : Addr} {vs : List V} (h : SqL G.K H1 a vs) (hn : a ∉ β1) (x : Ext β1 H1 β H) : SqL G.K H a vs := by
  rcases h with (h | ⟨u, h⟩) | h
  · exact .inl (.inl (x.keep a _ h hn))
  · exact .inl (.inr ⟨u, x.keep a _ h hn⟩)
  · exact .inr h
/-- lists that stand for ever -/
def D.still : D → Option (List D)
  | .lst ds => some ds
  | _ => none
theorem RV.still {G : Gd} {β : List Addr} {H : Hp} {S : Sto} {d : D} {v : V} {ds : List D} (sr : SR G β H S) (h : RV G β H d v) (e : d.still = some ds) : ∃ a vs, v = .ref a ∧ a ∉ β ∧ SqL G.K H a vs ∧ RVs G β H ds vs := by
  cases d with
  | lst l =>
    rw [RV] at h
    obtain ⟨a, vs, rfl, hn, h1, h2⟩ := h
    cases e
    exact ⟨a, vs, rfl, hn, SqL.of h1, h2⟩
  | _ => cases e
def dEnumT (fs : Rho → Sto → Res (List D)) : Rho → Sto → Res (List D × Option Nat) := dB fs fun ds _ S => match ds with
  | [.tup l] => .ok (enumD l, none) S
  | _ => .bad
def dEnumL (fs : Rho → Sto → Res (List D)) : Rho → Sto → Res (List D × Option Nat) := dB fs fun ds _ S => match ds with
  | [d] => match d.still with
    | some l => .ok (enumD l, none) S
    | none => .bad
  | _ => .bad
theorem cA_split {c : Amb} {fs : Rho → Sto → Res (List D)} {h : List D → Sto → Res (List D × Option Nat)} {σ : St} {H : Hp} {R : It → Hp → Prop} {P P' : List V → Hp → Prop} (q : cI c (dB fs fun ds _ S => h ds S) σ H R)
    (k : ∀ ds S1 β1 H1 vs, SR c.G β1 H1 S1 → RVs c.G β1 H1 ds vs → Post c (RI c.G) β1 H1 σ R (h ds S1) → P vs H1)
    (k' : ∀ ds S1 β1 H1 vs, SR c.G β1 H1 S1 → RVs c.G β1 H1 ds vs → Post c (RI c.G) β1 H1 σ R (h ds S1) → P' vs H1) : cA c fs σ H P ∧ cA c fs σ H P' := by
  obtain ⟨β, S, ρ, sr, rs, p⟩ := q
  exact ⟨cG_step sr rs p fun ds S1 β1 H1 vs x1 sr1 rs1 r1 p1 => k ds S1 β1 H1 vs sr1 r1 p1, cG_step sr rs p fun ds S1 β1 H1 vs x1 sr1 rs1 r1 p1 => k' ds S1 β1 H1 vs sr1 r1 p1⟩
theorem itok_enumT {G : Gd} {ds : List D} {β1 : List Addr} {H1 : Hp} {S1 : Sto} {a : Addr} {vs : List V} (sr1 : SR G β1 H1 S1) (h : SqT G.K H1 a vs) (r : RVs G β1 H1 ds vs) : ItOk G none (enumD ds) β1 H1 (IteT G.K a) := by
  refine ⟨fun β H S i d x sr _ e => ?_, fun β H S x sr _ => ⟨vs, sqT_mono sr1 x h, by rw [← r.length]; simp [enumD]⟩⟩
  obtain ⟨y, e1, rfl⟩ := enumD_get e
  obtain ⟨v, e2, rv⟩ := r.get e1
  refine ⟨⟨vs, v, sqT_mono sr1 x h, e2⟩, fun z H' hy => ?_⟩
  obtain ⟨T, u, rfl, hT, rfl, hu⟩ := hy
  have e3 := hu vs (sqT_mono sr1 x h)
  rw [e2] at e3; cases e3
  exact pair_new sr hT (RV.int_iff.mpr rfl) (rv.mono sr1 x)
theorem itok_enumL {G : Gd} {ds : List D} {β1 : List Addr} {H1 : Hp} {S1 : Sto} {a : Addr} {vs : List V} (sr1 : SR G β1 H1 S1) (h : SqL G.K H1 a vs) (hn : a ∉ β1) (r : RVs G β1 H1 ds vs) : ItOk G none (enumD ds) β1 H1 (Ite G.K a) := by
  refine ⟨fun β H S i d x sr _ e => ?_, fun β H S x sr _ => ⟨vs, stays_l h hn x, by rw [← r.length]; simp [enumD]⟩⟩
  obtain ⟨y, e1, rfl⟩ := enumD_get e
  obtain ⟨v, e2, rv⟩ := r.get e1
  refine ⟨⟨vs, v, stays_l h hn x, e2⟩, fun z H' hy => ?_⟩
  obtain ⟨T, u, rfl, hT, rfl, hu⟩ := hy
  have e3 := hu vs (stays_l h hn x)
  rw [e2] at e3; cases e3
  exact pair_new sr hT (RV.int_iff.mpr rfl) (rv.mono sr1 x)
/-- enumerate(xs) of a tuple: which of the two it is must be told ahead -/
theorem di_enumT {fs : Rho → Sto → Res (List D)} (ha : PA X [e] (cA (am X xc w) fs)) (hm : X.mg "enumerate" = none) (hg : Gl X "enumerate" := by rfl) (hs : starEach [e] X.env = [(false, eval e X.env)] := by rfl) : PI X (.Tuple elts kk tpos) (.Call (.Name "enumerate" p) [e] [] pos) (cI (am X xc w) (dEnumT fs)) := PI.imp (pi_enumT hg hm ha hs) fun σ H R h => by
  obtain ⟨β, S, ρ, sr, rs, p⟩ := h
  unfold dEnumT at p
  refine cG_step sr rs p fun ds S1 β1 H1 vs x1 sr1 rs1 r1 p1 => ?_
  dsimp only at p1
  split at p1
  · obtain ⟨v, rfl, r2⟩ := r1.one
    obtain ⟨a, ws, rfl, h1, h2⟩ := RV.tup_iff.mp r2
    exact ⟨a, ws, rfl, h1, p1 β1 H1 _ .refl sr1 (itok_enumT sr1 h1 h2)⟩
  · exact p1.elim
theorem di_enumL {fs : Rho → Sto → Res (List D)} (ha : PA X [e] (cA (am X xc w) fs)) (hm : X.mg "enumerate" = none) (hg : Gl X "enumerate" := by rfl) (hs : starEach [e] X.env = [(false, eval e X.env)] := by rfl) : PI X (.Tuple elts kk tpos) (.Call (.Name "enumerate" p) [e] [] pos) (cI (am X xc w) (dEnumL fs)) := PI.imp (pi_enum hg hm ha hs) fun σ H R h => by
  obtain ⟨β, S, ρ, sr, rs, p⟩ := h
  unfold dEnumL at p
  refine cG_step sr rs p fun ds S1 β1 H1 vs x1 sr1 rs1 r1 p1 => ?_
  dsimp only at p1
  split at p1
  · obtain ⟨v, rfl, r2⟩ := r1.one
    split at p1
    · rename_i l e3
      obtain ⟨a, ws, rfl, hn, h1, h2⟩ := r2.still sr1 e3
      exact ⟨a, ws, rfl, h1, p1 β1 H1 _ .refl sr1 (itok_enumL sr1 h1 hn h2)⟩
    · exact p1.elim
  · exact p1.elim
/-- zip of two tuples, of two lists -/
def zipD (as bs : List D) : List D := (as.zip bs).map fun q => D.tup [q.1, q.2]
theorem zipD_get {as bs : List D} {i : Nat} {d : D} (h : (zipD as bs)[i]? = some d) : ∃ x y, as[i]? = some x ∧ bs[i]? = some y ∧ d = .tup [x, y] := by
  unfold zipD at h
  rw [List.getElem?_map] at h
  cases q : (as.zip bs)[i]? with
  | none => rw [q] at h; cases h
  | some z =>
    rw [q] at h
    cases h
    obtain ⟨x, y⟩ := z
    have := List.getElem?_zip_eq_some.mp q
    exact ⟨x, y, this.1, this.2, rfl⟩
theorem itok_zipT {G : Gd} {as bs : List D} {β1 : List Addr} {H1 : Hp} {S1 : Sto} {a b : Addr} {us vs : List V} (sr1 : SR G β1 H1 S1) (h : SqT G.K H1 a us) (h' : SqT G.K H1 b vs) (r : RVs G β1 H1 as us) (r' : RVs G β1 H1 bs vs) : ItOk G none (zipD as bs) β1 H1 (RZ.ItzT G.K a b) := by
  refine ⟨fun β H S i d x sr _ e => ?_, fun β H S x sr _ => ⟨us, vs, sqT_mono sr1 x h, sqT_mono sr1 x h', by rw [← r.length, ← r'.length]; simp [zipD]; omega⟩⟩
  obtain ⟨y, z, e1, e2, rfl⟩ := zipD_get e
  obtain ⟨u, e3, ru⟩ := r.get e1
  obtain ⟨v, e4, rv⟩ := r'.get e2
  refine ⟨⟨us, vs, u, v, sqT_mono sr1 x h, sqT_mono sr1 x h', e3, e4⟩, fun q H' hy => ?_⟩
  obtain ⟨T, u', v', rfl, hT, rfl, hu, hv⟩ := hy
  have e5 := hu us (sqT_mono sr1 x h)
  have e6 := hv vs (sqT_mono sr1 x h')
  rw [e3] at e5; cases e5
  rw [e4] at e6; cases e6
  exact pair_new sr hT (ru.mono sr1 x) (rv.mono sr1 x)
theorem itok_zipL {G : Gd} {as bs : List D} {β1 : List Addr} {H1 : Hp} {S1 : Sto} {a b : Addr} {us vs : List V} (sr1 : SR G β1 H1 S1) (h : SqL G.K H1 a us) (h' : SqL G.K H1 b vs) (hn : a ∉ β1) (hn' : b ∉ β1) (r : RVs G β1 H1 as us) (r' : RVs G β1 H1 bs vs) : ItOk G none (zipD as bs) β1 H1 (Itz G.K a b) := by
  refine ⟨fun β H S i d x sr _ e => ?_, fun β H S x sr _ => ⟨us, vs, stays_l h hn x, stays_l h' hn' x, by rw [← r.length, ← r'.length]; simp [zipD]; omega⟩⟩
  obtain ⟨y, z, e1, e2, rfl⟩ := zipD_get e
  obtain ⟨u, e3, ru⟩ := r.get e1
  obtain ⟨v, e4, rv⟩ := r'.get e2
  refine ⟨⟨us, vs, u, v, stays_l h hn x, stays_l h' hn' x, e3, e4⟩, fun q H' hy => ?_⟩
  obtain ⟨T, u', v', rfl, hT, rfl, hu, hv⟩ := hy
  have e5 := hu us (stays_l h hn x)
  have e6 := hv vs (stays_l h' hn' x)
  rw [e3] at e5; cases e5
  rw [e4] at e6; cases e6
  exact pair_new sr hT (ru.mono sr1 x) (rv.mono sr1 x)
def zipK (S : Sto) : List D → Res (List D × Option Nat)
  | [.tup as, .tup bs] => .ok (zipD as bs, none) S
  | [x, y] => match x.still, y.still with
    | some as, some bs => .ok (zipD as bs, none) S
    | _, _ => .bad
  | _ => .bad
def dZip (fs : Rho → Sto → Res (List D)) : Rho → Sto → Res (List D × Option Nat) := dB fs fun ds _ S => zipK S ds
theorem di_zip {fs : Rho → Sto → Res (List D)} (ha : PA X [e, e2] (cA (am X xc w) fs)) (hm : X.mg "zip" = none) (hg : Gl X "zip" := by rfl) (hs : starEach [e, e2] X.env = (false, eval e X.env) :: starEach [e2] X.env := by rfl) (hpl : (backTo pos (starEach [e2] X.env)).any (·.1) = false := by rfl) :
    PI X (.Tuple elts kk tpos) (.Call (.Name "zip" p) [e, e2] [] pos) (cI (am X xc w) (dZip fs)) := PI.imp (RZ.pi_zipA hg hm ha hs hpl) fun σ H R h => by
  obtain ⟨β, S, ρ, sr, rs, p⟩ := h
  unfold dZip at p
  refine cG_step sr rs p fun ds S1 β1 H1 vs x1 sr1 rs1 r1 p1 => ?_
  unfold zipK at p1
  dsimp only at p1
  split at p1
  · obtain ⟨v, u, rfl, r2, r3⟩ := r1.two
    obtain ⟨a, us, rfl, h1, h2⟩ := RV.tup_iff.mp r2
    obtain ⟨b, vs, rfl, h3, h4⟩ := RV.tup_iff.mp r3
    exact ⟨a, b, us, vs, rfl, .inr ⟨h1, h3, p1 β1 H1 _ .refl sr1 (itok_zipT sr1 h1 h3 h2 h4)⟩⟩
  · obtain ⟨v, u, rfl, r2, r3⟩ := r1.two
    split at p1
    · rename_i q1 q2
      obtain ⟨a, us, rfl, n1, h1, h2⟩ := r2.still sr1 q1
      obtain ⟨b, vs, rfl, n2, h3, h4⟩ := r3.still sr1 q2
      exact ⟨a, b, us, vs, rfl, .inl ⟨h1, h3, p1 β1 H1 _ .refl sr1 (itok_zipL sr1 h1 h3 n1 n2 h2 h4)⟩⟩
    · exact p1.elim
  · exact p1.elim
end
end DE

set_option Elab.async false
set_option linter.all false
set_option maxRecDepth 100000
set_option maxHeartbeats 4000000
/-! DE8: raise, try. -/
namespace DE
open PySem PySem.Spec L2
open PyProof.Rows hiding St

theorem SR.same {G : Gd} {β : List Addr} {H H' : Hp} {S : Sto} (sr : SR G β H S) (e : Same H H') : SR G β H' S :=
  ⟨sr.len, sr.nd, fun n ds a h1 h2 => let ⟨vs, h3, r⟩ := sr.at_ n ds a h1 h2; ⟨vs, e _ _ h3, r.mono sr (Ext.same e)⟩⟩
/-! ### an exception is raised -/
/-- a class of exceptions with an __init__ that keeps its arguments as fields -/
structure XT (K : PySem.W.Frag) (mg : Str → Option Value) (x : Str) (ks : List Str) (C fI : Addr) : Prop where
  oex : OexC K C
  g : mg x = some (.ref C)
  init : PySem.W.findIn K (.ref C) "__init__" = some (some (.ref fI))
  ty : PySem.W.typeIn K (.ref fI) = some (.type "function")
  no : ∀ f ∈ ks, PySem.W.findIn K (.ref C) f = some none
/-- what such an __init__ promises -/
def spInit (C : Addr) (ks : List Str) : Sp := fun vs H Q _ => ∃ (a : Addr) (xs : List V), vs = .ref a :: xs ∧ xs.length = ks.length ∧ H a = some (exo a C none) ∧
  ∀ (d : Addr) (H' : Hp), H d = none → d ≠ a → (∀ b, b ≠ a → b ≠ d → H' b = H b) → H' a = some (exo a C (some d)) → H' d = some (exd d (ks.zip xs).reverse) → Q .non H'
section
variable {P : Program} {wd : World} {K : PySem.W.Frag} {mg : Str → Option Value} {base : Heap}
/-- def __init__(self, a): self.a = a -/
theorem init1 {q p1 : Str} {st : Stmt} {fI C : Addr} {fd : FuncData} {e1 e2 e3 e4 : Pos} (F : Fun K "__init__" q st fI fd) (T : FnScope ["self", p1] ["self", p1] (defScope st)) (hb : defBody st = [.Assign [.Attribute (.Name "self" e1) p1 e2] (.Name p1 e3) e4])
    (l0 : (defScope st).names.lookup ("self" : Str) = some NameKind.local) (l1 : (defScope st).names.lookup p1 = some .local) (hd : (p1 == ("__debug__" : Str)) = false) (hcd : (p1 == ("__classdict__" : Str)) = false) (ox : OexC K C) (no : PySem.W.findIn K (.ref C) p1 = some none) :
    FnOk P wd K mg base (L2.CX P wd) 1 fI fd ["self", p1] (spInit C [p1]) := by
  refine F.okX T (fun vs H Q E h => ?_) (fun cdv A outer s H vs Q E hr h => ?_)
  · obtain ⟨a, xs, rfl, hl, _⟩ := h
    simp at hl; simp [hl]
  · obtain ⟨a, xs, rfl, hl, ha, k⟩ := h
    obtain ⟨x, rfl⟩ : ∃ x, xs = [x] := by
      match xs, hl with
      | [x], _ => exact ⟨x, rfl⟩
    rw [hb]
    refine ⟨_, pss_one (ps_ost (pe_var (i := 0) rfl (.inl l0)) (pe_var (i := 1) rfl (.inl l1) hd hcd)), ?_⟩
    refine ⟨x, rfl, .ref a, rfl, a, C, rfl, ox, no, .inl ⟨ha, fun dx hdx hne => ?_⟩⟩
    refine k dx _ hdx hne (fun b h1 h2 => by rw [upd_ne h1, upd_ne h2]) upd_same ?_
    rw [upd_ne hne, upd_same]
    rfl
/-- def __init__(self, a, b): self.a = a; self.b = b -/
theorem init2 {q p1 p2 : Str} {st : Stmt} {fI C : Addr} {fd : FuncData} {e1 e2 e3 e4 e5 e6 e7 e8 : Pos} (F : Fun K "__init__" q st fI fd) (T : FnScope ["self", p1, p2] ["self", p1, p2] (defScope st)) (hb : defBody st = [.Assign [.Attribute (.Name "self" e1) p1 e2] (.Name p1 e3) e4, .Assign [.Attribute (.Name "self" e5) p2 e6] (.Name p2 e7) e8])
    (l0 : (defScope st).names.lookup ("self" : Str) = some NameKind.local) (l1 : (defScope st).names.lookup p1 = some .local) (l2 : (defScope st).names.lookup p2 = some .local) (hd : (p1 == ("__debug__" : Str)) = false) (hcd : (p1 == ("__classdict__" : Str)) = false) (hd2 : (p2 == ("__debug__" : Str)) = false) (hcd2 : (p2 == ("__classdict__" : Str)) = false)
    (ox : OexC K C) (no : PySem.W.findIn K (.ref C) p1 = some none) (no2 : PySem.W.findIn K (.ref C) p2 = some none) :
    FnOk P wd K mg base (L2.CX P wd) 1 fI fd ["self", p1, p2] (spInit C [p1, p2]) := by
  refine F.okX T (fun vs H Q E h => ?_) (fun cdv A outer s H vs Q E hr h => ?_)
  · obtain ⟨a, xs, rfl, hl, _⟩ := h
    simp at hl; simp [hl]
  · obtain ⟨a, xs, rfl, hl, ha, k⟩ := h
    obtain ⟨x, y, rfl⟩ : ∃ x y, xs = [x, y] := by
      match xs, hl with
      | [x, y], _ => exact ⟨x, y, rfl⟩
    rw [hb]
    refine ⟨_, pss_cons (ps_ost (pe_var (i := 0) rfl (.inl l0)) (pe_var (i := 1) rfl (.inl l1) hd hcd)) (pss_one (ps_ost (pe_var (i := 0) rfl (.inl l0)) (pe_var (i := 2) rfl (.inl l2) hd2 hcd2))), ?_⟩
    refine ⟨x, rfl, .ref a, rfl, a, C, rfl, ox, no, .inl ⟨ha, fun dx hdx hne => ?_⟩⟩
    refine ⟨y, rfl, .ref a, rfl, a, C, rfl, ox, no2, .inr ⟨dx, [(p1, x)], upd_same, by rw [upd_ne hne, upd_same], by simp, ?_⟩⟩
    refine k dx _ hdx hne (fun b h1 h2 => by rw [upd_ne h2, upd_ne h1, upd_ne h2]) (by rw [upd_ne (Ne.symm hne), upd_same]) ?_
    rw [upd_same]
    rfl
end
def sRaise (x : Str) (ks : List Str) (fs : Rho → Sto → Res (List D)) : Dn := fun ρ S => sBind (fs ρ S) ρ fun ds S1 => if ds.length = ks.length then .ex ⟨x, ks, ds⟩ ρ S1 else .bad
theorem lookup_zip_rev {ks : List Str} (nd : ks.Nodup) : ∀ {xs : List V} {i : Nat} {f : Str}, xs.length = ks.length → ks[i]? = some f → ((ks.zip xs).reverse).lookup f = xs[i]? := by
  have mem : ∀ {l : List (Str × V)} {f : Str} {v : V}, (l.map (·.1)).Nodup → (f, v) ∈ l → l.lookup f = some v := by
    intro l
    induction l with
    | nil => intro f v _ h; cases h
    | cons p l ih =>
      intro f v nd h
      obtain ⟨g, u⟩ := p
      simp only [List.map_cons, List.nodup_cons] at nd
      rcases List.mem_cons.mp h with e | e
      · cases e; simp [List.lookup]
      · have hne : f ≠ g := fun z => nd.1 (by rw [← z]; exact List.mem_map_of_mem (f := (·.1)) e)
        have hb : (f == g) = false := by simpa using hne
        rw [List.lookup, hb]
        exact ih nd.2 e
  intro xs i f hl h
  have hi : i < ks.length := (List.getElem?_eq_some_iff.mp h).1
  have hx : xs[i]? = some xs[i] := List.getElem?_eq_getElem (by omega)
  rw [hx]
  refine mem ?_ ?_
  · rw [List.map_reverse, List.map_fst_zip (by omega)]
    exact (List.reverse_perm ks).nodup_iff.mpr nd
  · rw [List.mem_reverse]
    refine List.mem_iff_getElem?.mpr ⟨i, ?_⟩
    rw [List.getElem?_zip_eq_some]
    exact ⟨h, hx⟩
section
variable {X : Cx} {xc : XC} {W : WX} {w : St → XK} {x : Str} {ks : List Str} {C fI : Addr} {fd : FuncData} {ps : List Str} {e : Expr} {es : List Expr} {p pos pos2 : Pos} {fs : Rho → Sto → Res (List D)}
theorem ds_raise (T : XT X.K X.mg x ks C fI) (F1 : FnOk X.prog X.w X.K X.mg X.base (L2.CX X.prog X.w) 1 fI fd ps (spInit C ks)) (bd : Binds X.K fd ps []) (hr : Room 2 X.A) (tk : Takes X W) (ha : PA X (e :: es) (cA (am X xc (WE W)) fs)) (nd : ks.Nodup := by decide) (hk : ks.length ≤ 900 := by decide)
    (hg : Gl X x := by rfl) (hc : X.calm = true := by rfl) (hdb : (x == ("__debug__" : Str)) = false := by decide) (he : starEach (e :: es) X.env = (false, eval e X.env) :: starEach es X.env := by rfl) (hpl : (backTo pos (starEach es X.env)).any (·.1) = false := by rfl) :
    PS X (.Raise (some (.Call (.Name x p) (e :: es) [] pos)) none pos2) (cS (am X xc (WE W)) (sRaise x ks fs)) := PS.imp (ps_raise hc tk (pmk_oex T.oex T.init T.ty F1 hr bd .nil passL hg T.g ha hdb he hpl)) fun T' σ H h => by
  obtain ⟨β, S, ρ, sr, rs, pp⟩ := h
  refine cG_stepS sr rs pp fun ds S1 β1 H1 vs x1 sr1 rs1 r1 p1 => ?_
  split at p1
  · rename_i hl
    have hv : vs.length = ks.length := by rw [← r1.length]; exact hl
    refine ⟨by omega, fun a hna => ⟨a, vs ++ [], rfl, by simp [hv], upd_same, fun d H' hd hne hk' h2 h3 => ⟨rfl, d, _, h2, h3, ?_, ?_⟩⟩⟩
    · rw [upd_ne hne] at hd; exact hd
    · have hd1 : H1 d = none := by rw [upd_ne hne] at hd; exact hd
      have sm : Same H1 (upd (del H' a) d (.xd ((ks.zip (vs ++ [])).reverse))) := fun b o hb => by
        have n1 : b ≠ d := ne_of_none hb hd1
        have n2 : b ≠ a := ne_of_none hb hna
        rw [upd_ne n1, del_ne n2, hk' b n2 n1, upd_ne n2]
        exact hb
      refine p1 β1 _ σ (.ref C) (some d) (Ext.same sm) (sr1.same sm) (rs1.mono sr1 (Ext.same sm)) ⟨C, d, _, vs, rfl, rfl, T.g, upd_same, r1.mono sr1 (Ext.same sm), fun i f hi => ?_⟩
      rw [List.append_nil]
      exact lookup_zip_rev nd hv hi
  · exact p1.elim
end

/-! ### try: .. except X as n: .. -/
mutual
/-- no exception within -/
def D.noX : D → Bool
  | .tup ds => D.noXs ds
  | .lst ds => D.noXs ds
  | .fr ds => D.noXs ds
  | .exo _ _ _ => false
  | _ => true
def D.noXs : List D → Bool
  | [] => true
  | d :: ds => d.noX && D.noXs ds
end
section
variable {K : PySem.W.Frag} {mg : Str → Option Value} {xc xc' : XC} {β : List Addr} {H : Hp} {S : Sto}
mutual
theorem RV.unX : ∀ {d : D} {v : V}, RV ⟨K, mg, xc⟩ β H d v → d.noX = true → RV ⟨K, mg, xc'⟩ β H d v
  | .non, v, h, _ => by simpa [RV] using h
  | .bl b, v, h, _ => by simpa [RV] using h
  | .int i, v, h, _ => by simpa [RV] using h
  | .str x, v, h, _ => by simpa [RV] using h
  | .ty n, v, h, _ => by simpa [RV] using h
  | .ref n, v, h, _ => by simpa [RV] using h
  | .exo _ _ _, v, h, q => by simp [D.noX] at q
  | .tup ds, v, h, q => by
    rw [RV] at h ⊢
    obtain ⟨a, vs, e1, e2, e3⟩ := h
    exact ⟨a, vs, e1, e2, RVs.unX e3 (by simpa [D.noX] using q)⟩
  | .lst ds, v, h, q => by
    rw [RV] at h ⊢
    obtain ⟨a, vs, e1, n, e2, e3⟩ := h
    exact ⟨a, vs, e1, n, e2, RVs.unX e3 (by simpa [D.noX] using q)⟩
  | .fr ds, v, h, q => by
    rw [RV] at h ⊢
    obtain ⟨a, vs, e1, e2, e3⟩ := h
    exact ⟨a, vs, e1, e2, RVs.unX e3 (by simpa [D.noX] using q)⟩
theorem RVs.unX : ∀ {ds : List D} {vs : List V}, RVs ⟨K, mg, xc⟩ β H ds vs → D.noXs ds = true → RVs ⟨K, mg, xc'⟩ β H ds vs
  | [], vs, h, _ => by simpa [RVs] using h
  | d :: ds, vs, h, q => by
    rw [RVs] at h ⊢
    obtain ⟨v, r, e1, e2, e3⟩ := h
    have q' : d.noX = true ∧ D.noXs ds = true := by simpa [D.noXs] using q
    exact ⟨v, r, e1, RV.unX e2 q'.1, RVs.unX e3 q'.2⟩
end
mutual
theorem RV.inX : ∀ {d : D} {v : V}, RV ⟨K, mg, none⟩ β H d v → RV ⟨K, mg, xc⟩ β H d v
  | .non, v, h => by simpa [RV] using h
  | .bl b, v, h => by simpa [RV] using h
  | .int i, v, h => by simpa [RV] using h
  | .str x, v, h => by simpa [RV] using h
  | .ty n, v, h => by simpa [RV] using h
  | .ref n, v, h => by simpa [RV] using h
  | .exo _ _ _, v, h => by
    rw [RV] at h
    obtain ⟨a, cv, C, dd, gs, vs, e1, _⟩ := h
    cases e1
  | .tup ds, v, h => by
    rw [RV] at h ⊢
    obtain ⟨a, vs, e1, e2, e3⟩ := h
    exact ⟨a, vs, e1, e2, RVs.inX e3⟩
  | .lst ds, v, h => by
    rw [RV] at h ⊢
    obtain ⟨a, vs, e1, n, e2, e3⟩ := h
    exact ⟨a, vs, e1, n, e2, RVs.inX e3⟩
  | .fr ds, v, h => by
    rw [RV] at h ⊢
    obtain ⟨a, vs, e1, e2, e3⟩ := h
    exact ⟨a, vs, e1, e2, RVs.inX e3⟩
theorem RVs.inX : ∀ {ds : List D} {vs : List V}, RVs ⟨K, mg, none⟩ β H ds vs → RVs ⟨K, mg, xc⟩ β H ds vs
  | [], vs, h => by simpa [RVs] using h
  | d :: ds, vs, h => by
    rw [RVs] at h ⊢
    obtain ⟨v, r, e1, e2, e3⟩ := h
    exact ⟨v, r, e1, RV.inX e2, RVs.inX e3⟩
end
theorem SR.inX (sr : SR ⟨K, mg, none⟩ β H S) : SR ⟨K, mg, xc⟩ β H S := ⟨sr.len, sr.nd, fun n ds a h1 h2 => let ⟨vs, e, r⟩ := sr.at_ n ds a h1 h2; ⟨vs, e, r.inX⟩⟩
theorem SR.unX (sr : SR ⟨K, mg, xc⟩ β H S) (h : S.all D.noXs = true) : SR ⟨K, mg, xc'⟩ β H S := ⟨sr.len, sr.nd, fun n ds a h1 h2 => let ⟨vs, e, r⟩ := sr.at_ n ds a h1 h2; ⟨vs, e, r.unX (List.all_eq_true.mp h ds (List.mem_of_getElem? h1))⟩⟩
theorem RSt.inX {ρ : Rho} {σ : St} (rs : RSt ⟨K, mg, none⟩ β H ρ σ) : RSt ⟨K, mg, xc⟩ β H ρ σ := ⟨rs.len, fun i d h => let ⟨v, e, r⟩ := rs.at_ i d h; ⟨v, e, r.inX⟩⟩
/-- all slots without an exception -/
def rhoX (ρ : Rho) : Bool := ρ.all fun o => match o with
  | some d => d.noX
  | none => true
theorem RSt.unX {ρ : Rho} {σ : St} (rs : RSt ⟨K, mg, xc⟩ β H ρ σ) (h : rhoX ρ = true) : RSt ⟨K, mg, xc'⟩ β H ρ σ := ⟨rs.len, fun i d q => by
  obtain ⟨v, e, r⟩ := rs.at_ i d q
  exact ⟨v, e, r.unX (List.all_eq_true.mp h (some d) (List.mem_of_getElem? q))⟩⟩
end
/-- behind the suite the name is gone -/
def behindX (j : Nat) : Out → Out
  | .nx ρ S => if (S.all D.noXs && rhoX (ρ.set j none)) = true then .nx (ρ.set j none) S else .bad
  | .bk ρ S => if (S.all D.noXs && rhoX (ρ.set j none)) = true then .bk (ρ.set j none) S else .bad
  | .ct ρ S => if (S.all D.noXs && rhoX (ρ.set j none)) = true then .ct (ρ.set j none) S else .bad
  | .rt d S => if (S.all D.noXs && d.noX) = true then .rt d S else .bad
  | _ => .bad
def sTry (ct : Str → Option Bool) (j : Nat) (fb fs : Dn) : Dn := fun ρ S => match fb ρ S with
  | .ex x ρ' S' => (match ct x.cls with
    | some true => behindX j (fs (ρ'.set j (some (.exo x.cls x.ks x.ds))) S')
    | some false => .ex x ρ' S'
    | none => .bad)
  | r => r
section
variable {X : Cx} {W : WX} {x n : Str} {c : Value} {j : Nat} {body suite : List Stmt} {b₀ : Stmt} {np pos pos' : Pos} {fb fs : Dn} {ct : Str → Option Bool}
theorem ds_try (hct : ∀ nm C b, X.mg nm = some (.ref C) → ct nm = some b → PySem.W.exmOne X.K (.ref C) c = some b) (hs : X.stack = X.env :: X.outer) (hf : X.env.frame = some X.env.locals) (hN : X.N.Nodup) (hi : X.N[j]? = some n) (hln : X.env.kindOf n = some .local) (hc : Names X x c) (tk : Takes X W)
    (hb : ∀ (W' : WX) (pn : List (Addr × Obj)) (xe : Value → Shared → Prop), Takes (X.tr pn xe) W' → PassesOwn (model X.prog X.w) X.A X.env xe → PSs (X.tr pn xe) body (cS (am (X.tr pn xe) none (WE W')) fb))
    (hsu : ∀ (a : Addr) (oe : Obj) (cls : Value) (d : Option Addr) (pn : List (Addr × Obj)), Zc cls d oe → (∃ vs, oe.data = .fields vs) → PSs (X.suite a ((a, oe) :: pn)) (b₀ :: suite) (cS (am (X.suite a ((a, oe) :: pn)) (some (a, cls, d)) w0) fs)) :
    PS X (.Try body [.ExceptHandler (some (.Name x np)) (some n) (b₀ :: suite) pos'] [] [] pos) (cS (am X none (WE W)) (sTry ct j fb fs)) :=
  PS.imp (ps_try_as (tb := fun W' => cS ⟨⟨X.K, X.mg, none⟩, WE W'⟩ fb) (ts := fun a cls d => cS ⟨⟨X.K, X.mg, some (a, cls, d)⟩, w0⟩ fs) (Wout := W) hs hf hN hi hln hc tk hb hsu) fun T σ H h => by
  obtain ⟨β, S, ρ, sr, rs, p⟩ := h
  refine ⟨β, S, ρ, sr, rs, ?_⟩
  unfold sTry at p
  cases e : fb ρ S with
  | ex x ρ' S' =>
    rw [e] at p
    dsimp only at p
    intro β1 H1 σ1 cls dx x1 sr1 rs1 rx
    obtain ⟨C, d, gs, vs, rfl, rfl, h3, h4, h5, h6⟩ := id rx
    cases q : ct x.cls with
    | none => rw [q] at p; exact p.elim
    | some b =>
      rw [q] at p
      refine ⟨b, hct _ _ _ h3 q, fun hb1 a na => ?_, fun hb1 => ?_⟩
      · subst hb1
        dsimp only at p
        have r : RV ⟨X.K, X.mg, some (a, .ref C, some d)⟩ β1 H1 (.exo x.cls x.ks x.ds) (.ref a) := by
          rw [RV]
          exact ⟨a, _, C, d, gs, vs, rfl, rfl, rfl, h3, h4, h5.inX, h6⟩
        refine ⟨β1, S', _, sr1.inX, rs1.inX.set j r, ?_⟩
        cases e2 : fs (ρ'.set j (some (.exo x.cls x.ks x.ds))) S' with
        | nx ρ2 S2 =>
          rw [e2] at p
          simp only [behindX] at p
          split at p
          · rename_i g
            simp only [Bool.and_eq_true] at g
            exact fun β2 H2 σ2 x2 sr2 rs2 => p β2 H2 _ (x1.trans sr1 x2) (sr2.unX g.1) ((rs2.unset j).unX g.2)
          · exact p.elim
        | bk ρ2 S2 =>
          rw [e2] at p
          simp only [behindX] at p
          split at p
          · rename_i g
            simp only [Bool.and_eq_true] at g
            exact fun β2 H2 σ2 x2 sr2 rs2 => p β2 H2 _ (x1.trans sr1 x2) (sr2.unX g.1) ((rs2.unset j).unX g.2)
          · exact p.elim
        | ct ρ2 S2 =>
          rw [e2] at p
          simp only [behindX] at p
          split at p
          · rename_i g
            simp only [Bool.and_eq_true] at g
            exact fun β2 H2 σ2 x2 sr2 rs2 => p β2 H2 _ (x1.trans sr1 x2) (sr2.unX g.1) ((rs2.unset j).unX g.2)
          · exact p.elim
        | rt d2 S2 =>
          rw [e2] at p
          simp only [behindX] at p
          split at p
          · rename_i g
            simp only [Bool.and_eq_true] at g
            exact fun β2 H2 v2 x2 sr2 r2 => p β2 H2 v2 (x1.trans sr1 x2) (sr2.unX g.1) (r2.unX g.2)
          · exact p.elim
        | ex x2 ρ2 S2 => rw [e2] at p; exact p.elim
        | bad => rw [e2] at p; exact p.elim
      · subst hb1
        exact p β1 H1 σ1 (.ref C) (some d) x1 sr1 rs1 rx
  | nx ρ' S' => rw [e] at p; exact p
  | bk ρ' S' => rw [e] at p; exact p
  | ct ρ' S' => rw [e] at p; exact p
  | rt d S' => rw [e] at p; exact p
  | bad => rw [e] at p; exact p
end
/-! ### within the suite: the error's fields, its class -/
def dXfld (c : Str) (f : Str) (fe : Rho → Sto → Res D) : Rho → Sto → Res D := dB fe fun d _ S => match d with
  | .exo cn ks ds => (if cn = c then (match ks.findIdx? (· == f) with
    | some i => (match ds[i]? with
      | some y => .ok y S
      | none => .bad)
    | none => .bad) else .bad)
  | _ => .bad
section
variable {X : Cx} {w : St → XK} {a : Addr} {oe : Obj} {cls : Value} {d : Option Addr} {pn : List (Addr × Obj)} {e : Expr} {pos : Pos} {c f : Str} {fe : Rho → Sto → Res D}
theorem de_xfld (T : ∀ C, cls = .ref C → X.mg c = some (.ref C) → XfC X.K C ∧ PySem.W.findIn X.K (.ref C) f = some none) (hz : Zc cls d oe) (hf : ∃ vs, oe.data = .fields vs) (he : PE (X.suite a ((a, oe) :: pn)) e (cE (am (X.suite a ((a, oe) :: pn)) (some (a, cls, d)) w) fe))
    (hb : attributeBase e f X.env (eval e X.env) = eval e X.env := by rfl) : PE (X.suite a ((a, oe) :: pn)) (.Attribute e f pos) (cE (am (X.suite a ((a, oe) :: pn)) (some (a, cls, d)) w) (dXfld c f fe)) := by
  by_cases hC : ∃ C, cls = .ref C ∧ X.mg c = some (.ref C)
  · obtain ⟨C, rfl, hCc⟩ := hC
    obtain ⟨T1, T2⟩ := T C rfl hCc
    refine PE.imp (pe_xf T1 T2 hz hf he hb) fun σ H Q h => ?_
    obtain ⟨β, S, ρ, sr, rs, p⟩ := h
    refine cG_step sr rs p fun y S1 β1 H1 v x1 sr1 rs1 r1 p1 => ?_
    cases y with
    | exo cn ks ds =>
      dsimp only at p1
      rw [RV] at r1
      obtain ⟨a', cv, C', dd, gs, vs, e1, rfl, e3, e4, e5, e6, e7⟩ := r1
      have e1' : some (a, Value.ref C, d) = some (a', cv, some dd) := e1
      cases e1'
      by_cases hcn : cn = c
      · rw [if_pos hcn] at p1
        cases q : ks.findIdx? (· == f) with
        | none => rw [q] at p1; exact p1.elim
        | some i =>
          rw [q] at p1
          dsimp only at p1
          cases q2 : ds[i]? with
          | none => rw [q2] at p1; exact p1.elim
          | some y =>
            rw [q2] at p1
            obtain ⟨u, hu, ru⟩ := e6.get q2
            have hk : ks[i]? = some f := by
              obtain ⟨h1, h2, _⟩ := List.findIdx?_eq_some_iff_getElem.mp q
              rw [List.getElem?_eq_getElem h1]
              exact congrArg some (by simpa using h2)
            exact ⟨rfl, rfl, dd, gs, u, rfl, e5, by rw [e7 i f hk]; exact hu, p1.ok0 sr1 ru⟩
      · rw [if_neg hcn] at p1; exact p1.elim
    | _ => exact p1.elim
  · refine ⟨fun pins s σ H Q I h => ?_⟩
    refine attr_of hb (thn (he.run pins s σ H (fun _ _ => False) I ?_) fun u s1 hh => ?_)
    · obtain ⟨β, S, ρ, sr, rs, p⟩ := h
      refine cG_step sr rs p fun y S1 β1 H1 v x1 sr1 rs1 r1 p1 => ?_
      cases y with
      | exo cn ks ds =>
        rw [RV] at r1
        obtain ⟨a', cv, C', dd, gs, vs, e1, rfl, e3, e4, _⟩ := r1
        have e1' : some (a, cls, d) = some (a', cv, some dd) := e1
        cases e1'
        dsimp only at p1
        by_cases hcn : cn = c
        · exact hC ⟨C', e3, hcn ▸ e4⟩
        · rw [if_neg hcn] at p1; exact p1.elim
      | _ => exact p1.elim
    · obtain ⟨_, _, _, _, z⟩ := hh
      exact z.elim
end
end DE

/-! ### isinstance of an error that has fields -/
namespace DE
open PySem PySem.Spec PySem.Calls PySem.W
open PyProof.Rows hiding St
section
variable {prog : Program} {wd : World} {A : Around} {E : Value → Shared → Prop} {s : Shared} {K : Frag} {x D0 : Addr} {ox : Obj} {od : Option Obj}
theorem find_data {C : Addr} {name : Str} {a g : Value} (c1 : (clsIn K C).isSome = true) (c2 : findIn K (.ref C) name = some (some a)) (c3 : specialIn K a "__get__" = some (some g)) (c4 : takesIn K a = some true) :
    findObj K C od name = some (.bind g a) := by
  obtain ⟨cd, c1⟩ := Option.isSome_iff_exists.mp c1
  unfold findObj
  rw [c1, Option.bind_some, c2, Option.bind_some]
  simp [c3, c4]
theorem class_of_exc {Q : Option Value → Shared → Prop} (T : L2.ExcC K D0) (kin : K.In s.heap) (I : InstAt s.heap x ox D0 od) (h : Q (some (.ref D0)) { s with toks := s.toks + 1 }) :
    wpAny (model prog wd) A (getAttr? (.ref x) "__class__") Q E s := by
  have found : findObj K D0 od "__class__" = some (.bind (.builtin "getset_descriptor.__get__") (.builtin "object.__class__")) :=
    find_data (by obtain ⟨cd, hc, _⟩ := any_some T.hd; rw [hc]; rfl) T.ha T.hn T.ht
  obtain ⟨hp, g, dr, t, os⟩ := s
  have look0 := I.type (M := model prog wd)
  have look1 := looks_findIn (M := model prog wd) kin T.hg
  have look2 := looks_findIn (M := model prog wd) kin T.hk
  have look3 := looks_find (M := model prog wd) kin I found
  have isExc : Looks (model prog wd) hp (isInstance (.ref x) (.type "BaseException")) true := look0.andThen (looks_subIn kin T.hs)
  have no2 : (Value.builtin "BaseException.__getattribute__" == Value.builtin "object.__getattribute__") = false := by decide +kernel
  have no1 : (onTheHeap (Value.ref D0) && Value.builtin "BaseException.__getattribute__" == Value.builtin "object.__getattribute__") = false := by rw [no2]; rfl
  unfold getAttr?
  unfold getAttrBy? getAttrBy
  refine wpAny_bind (wpAny_mkText (wpAny_bind (wpAny_attempt (wpAny_holding (wpAny_bind (look0.at (wpAny_bind (look1.at ?_))))))))
  show wpAny _ _ (if (onTheHeap (Value.ref D0) && Value.builtin "BaseException.__getattribute__" == Value.builtin "object.__getattribute__") = true then _ else _) _ _ _
  rw [no1, if_neg Bool.false_ne_true]
  unfold getAttrByItsOwn
  unfold hookBefore
  refine wpAny_bind ?_
  rw [if_pos (show onTheHeap (Value.ref D0) = true from rfl)]
  refine look2.at ?_
  refine wpAny_bind (wpAny_attempt (wpAny_holding ?_))
  unfold callGetattribute
  rw [show (false && onTheHeap (Value.builtin "BaseException.__getattribute__")) = false from rfl, if_neg Bool.false_ne_true]
  unfold boundAndCalled
  rw [PySem.F.excAttr_ValueError.ga.bind (.ref x)]
  refine wpAny_bind (wpAny_pure ?_)
  show wpAny _ _ (call (.builtin "BaseException.__getattribute__") [.ref x, .str "__class__" t]) _ _ _
  refine wpAny_call (codeAny_call_builtin PySem.F.excAttr_ValueError.ga.plain PySem.F.entry_bexc_ga ?_)
  refine @check_slot (model prog wd) _ _ ⟨hp, g, dr, t + 1, os⟩ "BaseException.__getattribute__" "BaseException" "__getattribute__" (.ref x) [.str "__class__" t] [] _ (by decide +kernel) (by decide +kernel) isExc (PySem.F.args_bexc_ga (.ref x) (.str "__class__" t)) ?_
  unfold Builtin.«object.__getattribute__»
  refine wpAny_bind (wpAny_of_eq (a := ((Value.ref x : Value), [Value.str "__class__" t])) (by first | rfl | (simp only [slotArgs]; rfl)) ?_)
  refine wpAny_bind (wpAny_pure (wpAny_bind (look0.at (wpAny_bind (look3.at ?_)))))
  show wpAny _ _ (holding [Value.builtin "object.__class__"] (call (.builtin "getset_descriptor.__get__") [.builtin "object.__class__", .ref x, .ref D0]) >>= ret) _ _ _
  refine wpAny_bind (wpAny_holding (wpAny_call (class_get (s := ⟨hp, g, dr, t + 1, os⟩) (ox := ox) (od := od) kin I T.hm ?_)))
  refine wpAny_pure ?_
  show wpAny _ _ (handedOut (.ref D0)) _ _ _
  rw [handedOut_of (v := .ref D0) rfl]
  first
    | exact wpAny_pure (wpAny_pure h)
    | exact wpAny_pure h
    | exact wpAny_pure (wpAny_bind (wpAny_pure (wpAny_pure h)))
theorem kit_exc (T : L2.ExcC K D0) : KitX K (.ref x) (.ref D0) (fun h => ∃ od, InstAt h x ox D0 od) where
  ty := fun _ _ _ I => I.elim fun _ I => I.type
  it := fun _ _ kin _ => by
    obtain ⟨cdD, hcD, _⟩ := any_some T.hd
    unfold clsIn at hcD
    split at hcD
    · rename_i k1 k2 k3 k4 ho
      intro A' Q' E' s' k q
      unfold isType
      unfold loadHead
      exact wpAny_bind (wpAny_loadPart (k _ _ (kin _ _ ho)) (wpAny_pure q))
    · cases hcD
  ne := fun h tp dd its n sl kin htp => by
    obtain ⟨cdD, hcD, _⟩ := any_some T.hd
    refine Bool.eq_false_iff.mpr fun q => ?_
    obtain rfl : D0 = tp := Value.ref.inj (beq_iff_eq.mp q)
    unfold clsIn at hcD
    split at hcD
    · rename_i k1 k2 k3 k4 ho
      have z := (kin _ _ ho).symm.trans htp
      cases z
    · cases hcD
  ca := fun kin I k => I.elim fun _ I => class_of_exc T kin I k
end
end DE
namespace DE
open PySem PySem.Spec L2
open PyProof.Rows hiding St
/-- isinstance(e, C): by the names of the classes -/
def oIsE (it : Str → Str → Option Bool) (y : Str) (fe : Rho → Sto → Res D) : Rho → Sto → Res D := dB fe fun d _ S => match d with
  | .exo cn _ _ => (match it cn y with
    | some b => .ok (.bl b) S
    | none => .bad)
  | _ => .bad
section
variable {X : Cx} {w : St → XK} {a : Addr} {oe : Obj} {cls : Value} {d : Option Addr} {pn : List (Addr × Obj)} {e : Expr} {pos p py : Pos} {y : Str} {cy : V} {cv : Value} {fe : Rho → Sto → Res D}
theorem de_isE {it : Str → Str → Option Bool} (T : ∀ C cn b, cls = .ref C → X.mg cn = some (.ref C) → it cn y = some b → ExcC X.K C ∧ PySem.W.kitOne X.K (.ref C) cv = some b) (hy : PE (X.suite a ((a, oe) :: pn)) (.Name y py) (tC cy)) (hcv : ∀ u, RelV cy u → u = cv) (hz : Zc cls d oe) (hf : ∃ vs, oe.data = .fields vs)
    (hm : X.mg "isinstance" = none) (he : PE (X.suite a ((a, oe) :: pn)) e (cE (am (X.suite a ((a, oe) :: pn)) (some (a, cls, d)) w) fe)) (hg : Gl X "isinstance" := by rfl)
    (h1 : starEach [e, .Name y py] X.env = (false, eval e X.env) :: starEach [.Name y py] X.env := by rfl) (h2 : starEach [.Name y py] X.env = (false, eval (.Name y py) X.env) :: starEach [] X.env := by rfl) (hpl : (backTo pos (starEach [.Name y py] X.env)).any (·.1) = false := by rfl) :
    PE (X.suite a ((a, oe) :: pn)) (.Call (.Name "isinstance" p) [e, .Name y py] [] pos) (cE (am (X.suite a ((a, oe) :: pn)) (some (a, cls, d)) w) (oIsE it y fe)) := by
  have rule : CallR (X.suite a ((a, oe) :: pn)) (.builtin "isinstance") (fun xs H Q => xs = [.ref a, cy] ∧ ∃ C dd gs b, cls = .ref C ∧ d = some dd ∧ H dd = some (.xd gs) ∧ ExcC X.K C ∧ PySem.W.kitOne X.K (.ref C) cv = some b ∧ Q (.bl b) H) := by
    intro pins s σ H xs us Q I r h
    obtain ⟨rfl, C, dd, gs, b, rfl, rfl, hd, T1, k1, q⟩ := h
    obtain ⟨u1, u2, rfl, ra, rc⟩ := vals2 r
    obtain rfl : u1 = Value.ref a := ra
    have ec := hcv _ rc
    subst ec
    obtain ⟨hget, _⟩ := I.pin (a, oe) (List.mem_append.mpr (.inl List.mem_cons_self))
    obtain ⟨vs, hv⟩ := hf
    have hx : ObjOk X.prog X.w H s.heap dd (.xd gs) := I.hok dd _ hd
    obtain ⟨mA, hns, hr⟩ := hx
    obtain ⟨od, ho, hl⟩ := lookIn_ns hns
    have J : PySem.W.InstAt s.heap a oe C (some od) := ⟨hget, hz.1, by unfold PySem.W.notCls; rw [hv] <;> rfl, by rw [hz.2]; exact ho⟩
    exact PySem.W.kia_one (kit_exc (ox := oe) T1) I.kIn ⟨_, J⟩ k1 (fun z => nomatch z) fun tk => ⟨.bl b, H, I.tok tk, rfl, q⟩
  refine PE.imp (pe_callB (X := X.suite a ((a, oe) :: pn)) rule hg hm PyProof.Rows.boot_isinstance (pa_cons he (pa_cons hy pa_nil h2) h1) (by decide) (by decide) h1 hpl) fun σ H Q h => ?_
  obtain ⟨β, S, ρ, sr, rs, q⟩ := h
  refine cG_step sr rs q fun z S1 β1 H1 v x1 sr1 rs1 r1 p1 => ?_
  show v :: [cy] = [.ref a, cy] ∧ _
  cases z with
  | exo cn ks ds =>
    dsimp only at p1
    cases q2 : it cn y with
    | none => rw [q2] at p1; exact p1.elim
    | some b =>
      rw [q2] at p1
      rw [RV] at r1
      obtain ⟨a', cv', C, dd, gs, vs, e1, rfl, e3, e4, e5, e6, e7⟩ := r1
      have e1' : some (a, cls, d) = some (a', cv', some dd) := e1
      cases e1'
      obtain ⟨T1, T2⟩ := T C cn b e3 e4 q2
      exact ⟨rfl, C, dd, gs, b, e3, rfl, e5, T1, T2, p1.ok0 sr1 (RV.bl_iff.mpr rfl)⟩
  | _ => exact p1.elim
end
end DE

set_option Elab.async false
set_option linter.all false
set_option maxRecDepth 100000
set_option maxHeartbeats 4000000
/-! DE9: a def's function of data, from its body; the law's end. -/
namespace DE
open PySem PySem.Spec L2
open PyProof.Rows hiding St

def fnRes : Out → Res D
  | .nx _ S => .ok .non S
  | .rt d S => .ok d S
  | .ex x _ S => .ex x S
  | _ => .bad
def startR (n : Nat) (ds : List D) : Rho := ds.map some ++ List.replicate (n - ds.length) none
theorem start_rs {G : Gd} {β : List Addr} {H : Hp} {ds : List D} {vs : List V} {N : List Str} (r : RVs G β H ds vs) : RSt G β H (startR N.length ds) (L2.start N vs) := by
  unfold startR L2.start
  refine ⟨by simp [r.length], fun i d h => ?_⟩
  by_cases hi : i < ds.length
  · rw [List.getElem?_append_left (by simpa using hi), List.getElem?_map] at h
    rw [List.getElem?_append_left (by simpa [← r.length] using hi), List.getElem?_map]
    cases e : ds[i]? with
    | none => rw [e] at h; cases h
    | some x =>
      rw [e] at h; cases h
      obtain ⟨v, e2, rv⟩ := r.get e
      exact ⟨v, by rw [e2]; rfl, rv⟩
  · rw [List.getElem?_append_right (by simpa using hi), List.getElem?_replicate] at h
    split at h <;> cases h
/-- what is had of r is had of r' -/
def LeAt (S : Sto) (r r' : Res D) : Prop := ∀ (c : Amb) (β : List Addr) (H : Hp) (σ : St) (Q : VK), SR c.G β H S → Post c (RV c.G) β H σ Q r → Post c (RV c.G) β H σ Q r'
theorem LeAt.refl {S : Sto} {r : Res D} : LeAt S r r := fun _ _ _ _ _ _ h => h
theorem LeAt.of_eq {S : Sto} {r r' : Res D} (h : r = r') : LeAt S r r' := h ▸ .refl
theorem LeAt.bad {S : Sto} {r : Res D} : LeAt S .bad r := fun _ _ _ _ _ _ h => h.elim
/-- the lists that a call made are dropped behind it; the one that it hands back stands for ever -/
def cutRes (k : Nat) : Res D → Res D
  | .ok (.ref n) S => if n < k then guard ((S.take k).all (D.lows k)) (.ok (.ref n) (S.take k)) else (match S[n]? with
    | some ds => guard (D.lows k ds && (S.take k).all (D.lows k)) (.ok (.lst ds) (S.take k))
    | none => .bad)
  | .ok d S => guard (d.low k && (S.take k).all (D.lows k)) (.ok d (S.take k))
  | .ex x S => guard (D.lows k x.ds && (S.take k).all (D.lows k)) (.ex x (S.take k))
  | .bad => .bad
theorem RX.cut {G : Gd} {β : List Addr} {H : Hp} {x : Ex} {cls : Value} {dx : Option Addr} (k : Nat) (r : RX G β H x cls dx) (h : D.lows k x.ds = true) : RX G (β.take k) H x cls dx := by
  obtain ⟨C, d, gs, vs, h1, h2, h3, h4, h5, h6⟩ := r
  exact ⟨C, d, gs, vs, h1, h2, h3, h4, h5.cut k h, h6⟩
theorem LeAt.cut {S : Sto} {r : Res D} : LeAt S (cutRes S.length r) r := fun c β H σ Q sr h => by
  have plain : ∀ {d : D} {S' : Sto}, Post c (RV c.G) β H σ Q (guard (d.low S.length && (S'.take S.length).all (D.lows S.length)) (.ok d (S'.take S.length))) → Post c (RV c.G) β H σ Q (.ok d S') := fun {d S'} h => by
    obtain ⟨g, h⟩ := post_guard h
    simp only [Bool.and_eq_true, List.all_eq_true] at g
    exact fun β' H' v x sr' r => h (β'.take S.length) H' v (x.cut _ sr.len.symm) (sr'.cut _ g.2) (r.cut _ g.1)
  cases r with
  | bad => exact h
  | ex x S' =>
    obtain ⟨g, h⟩ := post_guard (show Post c (RV c.G) β H σ Q (guard _ _) from h)
    simp only [Bool.and_eq_true, List.all_eq_true] at g
    exact fun β' H' cls dx x' sr' r => h (β'.take S.length) H' cls dx (x'.cut _ sr.len.symm) (sr'.cut _ g.2) (r.cut _ g.1)
  | ok d S' =>
    cases d with
    | ref n =>
      dsimp only [cutRes] at h
      by_cases hn : n < S.length
      · rw [if_pos hn] at h
        obtain ⟨g, h⟩ := post_guard h
        simp only [List.all_eq_true] at g
        exact fun β' H' v x sr' r => h (β'.take S.length) H' v (x.cut _ sr.len.symm) (sr'.cut _ g) (r.cut _ (by simpa [D.low] using hn))
      · rw [if_neg hn] at h
        cases e : S'[n]? with
        | none => rw [e] at h; exact h.elim
        | some ds =>
          rw [e] at h
          obtain ⟨g, h⟩ := post_guard h
          simp only [Bool.and_eq_true, List.all_eq_true] at g
          exact fun β' H' v x sr' r => h (β'.take S.length) H' v (x.cut _ sr.len.symm) (sr'.cut _ g.2) (RV.freeze sr' r (by omega) e g.1)
    | non => exact plain h
    | bl b => exact plain h
    | int i => exact plain h
    | str x => exact plain h
    | ty n => exact plain h
    | tup ds => exact plain h
    | lst ds => exact plain h
    | fr ds => exact plain h
    | exo a b ds => exact plain h

theorem passAt0 {X : Cx} (σ : St) : PassesAt (L2.CX X.prog X.w) X σ (w0 σ) := fun _ _ _ _ _ _ h => by
  obtain ⟨_, _, _, _, _, _, _, _, _, _, _, _, z⟩ := h
  exact z.elim
section
variable {P : Program} {wd : World} {K : PySem.W.Frag} {mg : Str → Option Value} {base : Heap}
/-- the wish of a def about exceptions -/
abbrev Wd (E : XK) : WX := fun cls d _ H => E cls d H
/-- THE RULE: a def is its function of data -/
theorem mk_fd {x qual : Str} {st : Stmt} {f : Addr} {fd : FuncData} {N ps : List Str} {k : Nat} {b : Dn} {F : List D → Sto → Res D} (U : Fun K x qual st f fd) (T : FnScope N ps (defScope st)) (hm : mg x = some (.ref f)) (bd : ∀ (s : Shared) (us : List Value), us.length = ps.length → BindsTo s fd ⟨us, []⟩ (ps.zip us))
    (body : ∀ (cdv : Value) (A : Around) (outer : List PySem.Env) (s : Shared) (H : Hp) (E : XK), Room k (A.deeper (envOfC qual (defScope st) s.heap.objs.size f cdv)) → (A.deeper (envOfC qual (defScope st) s.heap.objs.size f cdv)).guards = some [] →
      Takes (cxOf (L2.CX P wd) P wd K mg base N qual (defScope st) f cdv A outer s H E) (Wd E) →
      PassesOwn (model P wd) (A.deeper (envOfC qual (defScope st) s.heap.objs.size f cdv)) (envOfC qual (defScope st) s.heap.objs.size f cdv) (cxOf (L2.CX P wd) P wd K mg base N qual (defScope st) f cdv A outer s H E).xe →
      PSs (cxOf (L2.CX P wd) P wd K mg base N qual (defScope st) f cdv A outer s H E) (defBody st) (cS (am (cxOf (L2.CX P wd) P wd K mg base N qual (defScope st) f cdv A outer s H E) none (WE (Wd E))) b))
    (hF : ∀ ds S, ds.length = ps.length → LeAt S (F ds S) (fnRes (b (startR N.length ds) S))) : Fd P wd K mg base x (k + 1) ps F f fd := by
  refine ⟨fnG_of U T (fun vs H Q E h => h.1) (fun cdv A outer s H vs Q E hr hg h => ?_), hm, U.kp, bd⟩
  have tk : Takes (cxOf (L2.CX P wd) P wd K mg base N qual (defScope st) f cdv A outer s H E) (Wd E) := takes_of rfl rfl rfl rfl
  have po : PassesOwn (model P wd) (A.deeper (envOfC qual (defScope st) s.heap.objs.size f cdv)) (envOfC qual (defScope st) s.heap.objs.size f cdv) (cxOf (L2.CX P wd) P wd K mg base N qual (defScope st) f cdv A outer s H E).xe :=
    passes_of (X := cxOf (L2.CX P wd) P wd K mg base N qual (defScope st) f cdv A outer s H E) rfl
  refine ⟨_, body cdv A outer s H E hr hg tk po, ?_⟩
  obtain ⟨hl, β, S, ds, sr, r, p⟩ := h
  refine ⟨β, S, startR N.length ds, sr, start_rs r, ?_⟩
  have p2 := hF ds S (by rw [r.length]; exact hl) _ β H [] Q sr p
  cases e : b (startR N.length ds) S with
  | nx ρ S' => rw [e] at p2; exact fun β' H' σ' x sr' _ => p2 β' H' .non x sr' (RV.non_iff.mpr rfl)
  | rt d S' => rw [e] at p2; exact p2
  | ex x ρ S' => rw [e] at p2; exact fun β' H' σ' cls dx x' sr' _ r' => p2 β' H' cls dx x' sr' r'
  | bk ρ S' => rw [e] at p2; exact p2.elim
  | ct ρ S' => rw [e] at p2; exact p2.elim
  | bad => rw [e] at p2; exact p2.elim
end

/-! ### the end -/
theorem rvs_ints {G : Gd} {β : List Addr} {H : Hp} : ∀ ns : List Int, RVs G β H (ns.map D.int) (ns.map V.int)
  | [] => .nil
  | n :: ns => .cons (RV.int_iff.mpr rfl) (rvs_ints ns)
theorem law_end {P : Program} {wd : World} {K : PySem.W.Frag} {mg mb : Str → Option Value} {k : Nat} {fa a : Addr} {fd : FuncData} {x : Str} {F : List D → Sto → Res D} {s₁ : Shared} {vs : List Value} {ns : List Int}
    (kin : K.In s₁.heap) (g1 : s₁.heap.Ns mainGlobals mg) (g2 : s₁.heap.Ns builtinsNs mb) (g3 : ∀ x : Str, x ≠ "__name__" → mb x = bootBuiltins x) (nolim : s₁.heap.NoLimit) (nogen : s₁.gens = #[])
    (obj : s₁.heap.get? a = some { cls := .type "list", data := .seq vs.toArray }) (hi : IntsAre vs ns) (hl : ns.length ≤ sizeLine) (hr : Room k callerA)
    (L : ∀ base : Heap, K.In base → base.Ns mainGlobals mg → FnG P wd K mg base k fa fd [x] (SpF ⟨K, mg, none⟩ 1 F)) (bind1 : ∀ (s : Shared) (u : Value), BindsTo s fd ⟨[u], []⟩ [(x, u)])
    (hF : ∃ S, F [.fr (ns.map D.int)] [] = .ok (.bl true) S) :
    codeAny (model P wd) callerA (.call (.ref fa) ⟨[.ref a], []⟩) (fun r s' => r = .ok (.ret (.bool true)) ∧ OldK s₁.heap s'.heap ∧ s'.os = s₁.os ∧ AllBare s'.gens) s₁ := by
  have items := vals_ints hi
  have many := hi.length
  obtain ⟨S', hF⟩ := hF
  -- H tracks nothing but the script, locked
  have main : ∀ H : Hp, (∀ b, H b = none ∨ ∃ o xs, H b = some (.frz o (.lst xs))) → FrL K H a (ns.map V.int) → HOk P wd H s₁.heap → (∀ b, H b ≠ none → b = a) → (H a ≠ none → K.lookup a = none) →
      codeAny (model P wd) callerA (.call (.ref fa) ⟨[.ref a], []⟩) (fun r s' => r = .ok (.ret (.bool true)) ∧ OldK s₁.heap s'.heap ∧ s'.os = s₁.os ∧ AllBare s'.gens) s₁ := by
    intro H only script held just apart
    have nodict : ∀ {b : Addr} {o : Obj} {es : Array DictEntry} {ep : Nat}, s₁.heap.get? b = some o → o.data = .dict es ep → H b = none := by
      intro b o es ep e d
      cases q : H b with
      | none => rfl
      | some u =>
        obtain rfl : b = a := just b (by rw [q]; simp)
        rw [obj] at e; cases e; cases d
    have below : ∀ {b : Addr} {m : Str → Option Value}, s₁.heap.Ns b m → (hidT s₁.heap H).Ns b m := fun ⟨o, es, ep, e, d, r⟩ => ⟨o, es, ep, hidT_get e (nodict e d), d, r⟩
    have kin2 : K.In (hidT s₁.heap H) := fun b o e => hidT_get (kin b o e) (by
      cases q : H b with
      | none => rfl
      | some u =>
        obtain rfl : b = a := just b (by rw [q]; simp)
        rw [apart (by rw [q]; simp)] at e; cases e)
    obtain ⟨mc, l1, l2⟩ := nolim
    have env0 : Env0 P wd K mg (hidT s₁.heap H) callerA [] s₁ H :=
      { frames := rfl, mod := ⟨kin2, below g1, ⟨mb, below g2, g3⟩, ⟨mc, below l1, l2⟩⟩, bs := fun b o e => of_hidT e, bsz := Nat.le_of_eq (hidT_size _ _), funs := trivial, frf := fun b hb => (by simp [frs] at hb), hok := held, bare := .of_eq nogen }
    have prom : SpF ⟨K, mg, none⟩ 1 F [.ref a] H (fun v _ => v = .bl true) fun _ _ _ => False := by
      refine ⟨rfl, [], [], [.fr (ns.map D.int)], ⟨rfl, List.nodup_nil, fun n ds b h => by simp at h⟩, .cons (by rw [RV]; exact ⟨a, _, rfl, script, rvs_ints ns⟩) .nil, ?_⟩
      rw [hF]
      exact fun β' H' v _ _ r => RV.bl_iff.mp r
    refine codeAny_mono ((L _ kin2 (below g1)).go callerA [] s₁ H ⟨[.ref a], []⟩ [.ref a] [.ref a] _ _ hr rfl env0 (bind1 s₁ (.ref a)) (.cons rfl .nil) prom) fun r s' h => ?_
    cases r with
    | error e =>
      obtain ⟨_, _, _, _, _, _, _, _, _, _, _, _, z⟩ := h
      exact z.elim
    | ok fl =>
      cases fl with
      | next => exact False.elim h
      | brk => exact False.elim h
      | cont => exact False.elim h
      | ret u =>
        obtain ⟨v, H', os, bare, un, held', rv, q⟩ := h
        have q : v = .bl true := q
        subst q
        obtain rfl : u = Value.bool true := rv
        refine ⟨rfl, OldK.of_keep fun b o e => ?_, os, bare⟩
        rcases only b with z | ⟨ob, xs, z⟩
        · exact un.keep b o e z (by intro y; simp [frs] at y) (by simp)
        · obtain ⟨e1, _⟩ := held b _ z
          obtain ⟨e2, _⟩ := held' b _ (un.frzs b ob _ z)
          rw [e] at e1; cases e1
          exact e2
  cases hk : K.lookup a with
  | some o =>
    have e := kin a o hk
    rw [obj] at e
    cases e
    exact main (fun _ => none) (fun _ => .inl rfl) (.inr ⟨_, vs.toArray, _, hk, rfl, rfl, rfl, by rw [List.size_toArray, many]; exact hl, by simpa using items⟩) (fun b u z => by cases (show (none : Option HO) = some u from z)) (fun b z => absurd rfl z) fun z => absurd rfl z
  | none =>
    refine main (fun b => if b = a then some (.frz { cls := .type "list", data := .seq vs.toArray } (.lst (ns.map V.int))) else none) (fun b => ?_) (.inl ⟨_, if_pos rfl⟩) (fun b u z => ?_) (fun b z => ?_) fun _ => hk
    · by_cases hb : b = a
      · exact .inr ⟨_, _, if_pos hb⟩
      · exact .inl (if_neg hb)
    · dsimp only at z
      by_cases hb : b = a
      · subst hb
        rw [if_pos rfl] at z
        cases z
        exact ⟨obj, by rw [List.length_map]; exact hl, vs, _, items, obj⟩
      · rw [if_neg hb] at z
        cases z
    · by_cases hb : b = a
      · exact hb
      · exact absurd (if_neg hb) z
/-- the goal that the head leaves, from the law's function of data -/
theorem walk_fd {l : PySem.W.OpenLaw} {n k : Nat} {q : Program} {loose : List Str} {XP : (Str → Option Value) → Heap → Prop} {YP : World → Heap → Prop} {d : DefRec} {K : Params → PySem.W.Frag} {x : Str} {F : List D → Sto → Res D}
    (hn : l.most = some n) (hn2 : n ≤ sizeLine) (hdf : d.params.defaults = []) (hr : Room k callerA) (hY : ∀ (w : World) (h : Heap), YP w h → (K w.params).In h)
    (L : ∀ (w : World) (mg : Str → Option Value) (fa : Addr) (h : Heap), (K w.params).In h → h.Ns mainGlobals mg → mg d.name = some (.ref fa) →
      ∃ fd : FuncData, (∀ (s : Shared) (u : Value), BindsTo s fd ⟨[u], []⟩ [(x, u)]) ∧ ∀ base : Heap, (K w.params).In base → base.Ns mainGlobals mg → FnG l.prog w (K w.params) mg base k fa fd [x] (SpF ⟨K w.params, mg, none⟩ 1 F))
    (hF : ∀ ns : List Int, ns.length ≤ n → ∃ S, F [.fr (ns.map D.int)] [] = .ok (.bl true) S) : PySem.W.WalkO q loose XP YP l.row.toRowW d [] (fun f vs => PySem.call f vs) := by
  refine Att.attach_call hn hdf fun w s₀ s₁ mg mb fa o pm cd doc a vs ns G Y ho hd hcd hmg hobj hints hlen hg => ?_
  have kin := hY w _ Y
  obtain ⟨fd, hb, hL⟩ := L w mg fa _ kin G.T.g hmg
  exact law_end kin G.T.g G.T.b G.T.builtins G.T.nolimit hg hobj hints (Nat.le_trans hlen hn2) hr hL hb (hF ns hlen)
end DE

set_option Elab.async false
set_option linter.all false
set_option maxRecDepth 100000
/-! more of the built-ins -/
namespace DE
open PySem PySem.Spec L2
open PyProof.Rows hiding St
/-! ### the names of the built-ins -/
theorem bt_len : bootBuiltins "len" = some (.builtin "len") := by decide +kernel
theorem bt_all : bootBuiltins "all" = some (.builtin "all") := by decide +kernel
theorem bt_any : bootBuiltins "any" = some (.builtin "any") := by decide +kernel
theorem bt_sum : bootBuiltins "sum" = some (.builtin "sum") := by decide +kernel
theorem bt_abs : bootBuiltins "abs" = some (.builtin "abs") := by decide +kernel
theorem bt_max : bootBuiltins "max" = some (.builtin "max") := by decide +kernel
theorem bt_min : bootBuiltins "min" = some (.builtin "min") := by decide +kernel
theorem bt_repr : bootBuiltins "repr" = some (.builtin "repr") := by decide +kernel
theorem bt_isinstance : bootBuiltins "isinstance" = some (.builtin "isinstance") := by decide +kernel
theorem bt_int : bootBuiltins "int" = some (.type "int") := by decide +kernel
theorem bt_bool : bootBuiltins "bool" = some (.type "bool") := by decide +kernel
theorem bt_str : bootBuiltins "str" = some (.type "str") := by decide +kernel
theorem bt_list : bootBuiltins "list" = some (.type "list") := by decide +kernel
theorem bt_tuple : bootBuiltins "tuple" = some (.type "tuple") := by decide +kernel
theorem bt_range : bootBuiltins "range" = some (.type "range") := by decide +kernel
theorem bt_zip : bootBuiltins "zip" = some (.type "zip") := by decide +kernel
theorem bt_enumerate : bootBuiltins "enumerate" = some (.type "enumerate") := by decide +kernel
/-! ### a text so many times: two times or more -/
def repS (x : Str) (n : Nat) : Str := ⟨(List.replicate n x.cps).foldl (· ++ ·) #[]⟩
def oRepS : D → D → Sto → Res D
  | .str x, .int n, S => guard (decide (x.length ≤ 1000) && decide (-1000 < n) && decide (n < 1000)) (.ok (.str (if n < 1 then Str.empty else if (n == 1 || x.length == 0) = true then x else repS x n.toNat)) S)
  | _, _, _ => .bad
section
variable {X : Cx}
def rRepS : R2 := fun x y H Q => ∃ t n, x = .str t ∧ y = .int n ∧ t.length ≤ 1000 ∧ -1000 < n ∧ n < 1000 ∧ Q (.str (if n < 1 then Str.empty else if (n == 1 || t.length == 0) = true then t else repS t n.toNat)) H
theorem rep_len (x : Str) (n : Nat) : (repS x n).length = n * x.length := by
  unfold repS Str.length
  have : ∀ (n : Nat) (acc : Array Nat), ((List.replicate n x.cps).foldl (· ++ ·) acc).size = acc.size + n * x.cps.size := by
    intro n
    induction n with
    | zero => intro acc; simp
    | succ k ih => intro acc; rw [List.replicate_succ, List.foldl_cons, ih, Array.size_append, Nat.succ_mul]; omega
  have e := this n #[]
  simpa using e
theorem op_repS : OpR X (binaryOp .Mult) rRepS := by
  intro pins s σ H x y v u Q I rx ry h
  obtain ⟨t, n, rfl, rfl, h1, h2, h3, q⟩ := h
  obtain ⟨k, rfl⟩ := rx
  obtain ⟨k', rfl⟩ := ry
  have b : ¬ n < 1 → n.toNat * t.length ≤ 1000000 := fun _ => Nat.le_trans (Nat.mul_le_mul (show n.toNat ≤ 1000 by omega) h1) (by decide)
  refine P.mul_str ?_ (fun hn _ => ?_) (fun hn _ => ?_) ?_
  · rw [decide_eq_false (by omega), decide_eq_false (by omega)]; rfl
  · have : (1000 : Int) ≤ (2 ^ 63 - 1) / n := by
      rw [Int.le_ediv_iff_mul_le (by omega)]; omega
    omega
  · unfold Builtin.Str.tooLong
    rw [decide_eq_false]
    rw [sizeLine_eq, Nat.mul_comm]
    have := b hn
    omega
  · have fin : ∀ (z : Str), z.length ≤ sizeLine → (∀ Q' : VK, Q' (.str z) H → EP X pins σ Q' (.str z s.toks) { s with toks := s.toks + 1 }) := fun z _ Q' q' => ⟨.str z, H, I.tok _, ⟨_, rfl⟩, q'⟩
    by_cases hn : n < 1
    · rw [if_pos hn] at q ⊢
      exact ⟨by decide, fin _ (by decide) _ q⟩
    · rw [if_neg hn] at q ⊢
      by_cases hm : (n == 1 || t.length == 0) = true
      · rw [if_pos hm] at q ⊢
        exact ⟨.str t, H, I, ⟨_, rfl⟩, q⟩
      · rw [if_neg hm] at q ⊢
        have hl : (repS t n.toNat).length ≤ sizeLine := by rw [rep_len, sizeLine_eq]; have := b hn; omega
        exact ⟨hl, fin _ hl _ q⟩
end
theorem snd_repS {G : Gd} : Snd2 G rRepS oRepS := by
  intro w β S H σ d1 d2 v1 v2 Q sr r1 r2 p
  unfold oRepS at p
  split at p
  · rw [RV.str_iff] at r1; rw [RV.int_iff] at r2; subst r1 r2
    obtain ⟨g, p⟩ := post_guard p
    simp only [Bool.and_eq_true, decide_eq_true_eq] at g
    exact ⟨_, _, rfl, rfl, g.1.1, g.1.2, g.2, p.ok0 sr (RV.str_iff.mpr rfl)⟩
  · exact p.elim
/-! ### the least of a list of pairs of ints -/
def pairI : D → Option (Int × Int)
  | .tup [.int a, .int b] => some (a, b)
  | _ => none
def pairsI : List D → Option (List (Int × Int))
  | [] => some []
  | d :: ds => match pairI d, pairsI ds with
    | some p, some ps => some (p :: ps)
    | _, _ => none
def pltI (p q : Int × Int) : Bool := if p.1 = q.1 then decide (p.2 < q.2) else decide (p.1 < q.1)
def minP (p : Int × Int) (ps : List (Int × Int)) : Int × Int := ps.foldl (fun a y => if pltI y a = true then y else a) p
def oMinP : List D → Sto → Res D
  | [.ref n], S => match S[n]? with
    | some ds => (match pairsI ds with
      | some (p :: ps) => .ok (.tup [.int (minP p ps).1, .int (minP p ps).2]) S
      | _ => .bad)
    | none => .bad
  | _, _ => .bad
def rMinP (K : PySem.W.Frag) : RC := fun xs H Q => ∃ (a : Addr) (vs : List V) (p : Int × Int) (ps : List (Int × Int)), xs = [.ref a] ∧ SqL K H a vs ∧ DpAll K H vs ((p :: ps).map W.Datum.toD) ∧
  ∀ (i : Nat) (v : V), vs[i]? = some v → (p :: ps)[i]? = some (minP p ps) → Q v H
theorem call_minPairs {X : Cx} (hc : X.calm = true) (hu : X.A.units + 64 < cLine) : CallR X (.builtin "min") (rMinP X.K) := by
  intro pins s σ H xs us Q I r h
  obtain ⟨a, vs, p, ps, rfl, hs, hd, q⟩ := h
  obtain ⟨its, rv, hl, _⟩ := I.list hs
  rw [Vals.ref1 r]
  obtain ⟨as, ra⟩ := Dp.readsAll I _ vs its hd rv
  refine W.min_list_datum (α := Int × Int) (I.ok.hd hc) hl.isList ⟨as, ra⟩ (by show X.A.units + 1 + (max 0 0 + 1) < cLine; omega) fun i v h' tk hi hv k => ?_
  have hi' : its[i]? = some v := by simpa using hi
  obtain ⟨bs, r1, h2, _, _⟩ := W.readsAll_at ra i v hi'
  obtain ⟨cs, r2⟩ := hv
  have e := (reads_det (fun b o e _ => k b o e) r1 r2).1
  have hlen := rv.length
  have hv2 : i < vs.length := by rw [hlen]; exact (List.getElem?_eq_some_iff.mp hi').1
  obtain ⟨u, hu2, ru⟩ := rv.get (List.getElem?_eq_getElem hv2)
  rw [hi'] at hu2; cases hu2
  refine ⟨vs[i], H, I.kept k, ru, q i _ (List.getElem?_eq_getElem hv2) ?_⟩
  rw [List.length_map] at h2
  rw [List.getElem?_eq_getElem h2]
  rw [List.getD_eq_getElem?_getD, List.getElem?_map, List.getElem?_eq_getElem h2] at e
  have e' : W.Datum.toD (W.minOf p ps) = W.Datum.toD (p :: ps)[i] := e
  have e2 : W.minOf p ps = (p :: ps)[i] := by
    have : PyData.tuple [PyData.int (W.minOf p ps).1, PyData.int (W.minOf p ps).2] = PyData.tuple [PyData.int (p :: ps)[i].1, PyData.int (p :: ps)[i].2] := e'
    injection this with this
    injection this with a1 a2
    injection a2 with a2 _
    injection a1 with a1
    injection a2 with a2
    exact Prod.ext a1 a2
  rw [← e2]; rfl
theorem pairs_dp {G : Gd} {β : List Addr} {H : Hp} : ∀ {ds : List D} {vs : List V} {ps : List (Int × Int)}, RVs G β H ds vs → pairsI ds = some ps → DpAll G.K H vs (ps.map W.Datum.toD)
  | [], vs, ps, r, e => by
    cases RVs.nil_iff.mp r
    cases e
    exact .nil
  | d :: ds, vs, ps, r, e => by
    obtain ⟨v, t, rfl, r1, r2⟩ := RVs.cons_iff.mp r
    unfold pairsI at e
    split at e
    · rename_i p qs e1 e2
      cases e
      refine .cons ?_ (pairs_dp r2 e2)
      unfold pairI at e1
      split at e1
      · cases e1
        exact py0_sound r1 rfl
      · cases e1
    · cases e
theorem pairs_get : ∀ {ds : List D} {ps : List (Int × Int)} {i : Nat} {p : Int × Int}, pairsI ds = some ps → ps[i]? = some p → ds[i]? = some (.tup [.int p.1, .int p.2])
  | [], ps, i, p, e, h => by cases e; simp at h
  | d :: ds, ps, i, p, e, h => by
    unfold pairsI at e
    split at e
    · rename_i p' qs e1 e2
      cases e
      cases i with
      | zero =>
        simp only [List.getElem?_cons_zero, Option.some.injEq] at h ⊢
        subst h
        unfold pairI at e1
        split at e1
        · cases e1; rfl
        · cases e1
      | succ i =>
        simp only [List.getElem?_cons_succ] at h ⊢
        exact pairs_get e2 h
    · cases e
theorem snd_minP {G : Gd} : SndC G (rMinP G.K) oMinP := by
  intro w β S H σ ds vs Q sr r p
  unfold oMinP at p
  split at p
  · obtain ⟨v, rfl, r1⟩ := r.one
    split at p
    · rename_i es e1
      split at p
      · rename_i p0 ps e2
        rw [RV] at r1
        obtain ⟨a, rfl, hb⟩ := r1
        obtain ⟨ws, h2, h3⟩ := sr.at_ _ _ a e1 hb
        refine ⟨a, ws, p0, ps, rfl, SqL.of h2, pairs_dp h3 e2, fun i v hv hi => p.ok0 sr ?_⟩
        have e3 := pairs_get e2 hi
        obtain ⟨v', e4, rv⟩ := h3.get e3
        rw [hv] at e4; cases e4
        exact rv
      · exact p.elim
    · exact p.elim
  · exact p.elim
end DE

set_option Elab.async false
set_option linter.all false
set_option maxRecDepth 100000
set_option maxHeartbeats 1000000
/-! running denotations -/
namespace DE
open PySem PySem.Spec L2
open PyProof.Rows hiding St
section
variable {α γ : Type} {ρ ρ' : Rho} {S S' : Sto} {f g : Rho → Sto → Res D} {fs gs : Rho → Sto → Res (List D)} {ft gt : Rho → Sto → Res Bool} {a b : Dn} {d e : D} {ds es : List D}
theorem bind_ok {x : α} {k : α → Sto → Res γ} : (Res.ok x S).bind k = k x S := rfl
theorem bind_ex {x : Ex} {k : α → Sto → Res γ} : (Res.ex x S : Res α).bind k = .ex x S := rfl
theorem r_dB {f : Rho → Sto → Res α} {k : α → Rho → Sto → Res γ} : dB f k ρ S = (f ρ S).bind fun x S1 => k x ρ S1 := rfl
theorem r_dV {i : Nat} (h : ρ.getD i none = some d) : dV i ρ S = .ok d S := by unfold dV; rw [h]
theorem r_dC : dC d ρ S = .ok d S := rfl
theorem r_dOp {o : D → D → Sto → Res D} : dOp o f g ρ S = (f ρ S).bind fun x S1 => (g ρ S1).bind fun y S2 => o x y S2 := rfl
theorem r_dUn {o : D → Sto → Res D} : dUn o f ρ S = (f ρ S).bind fun x S1 => o x S1 := rfl
def tstK (d : D) (S : Sto) : Res Bool := match d with
  | .bl b => .ok b S
  | _ => .bad
theorem r_dTst : dTst f ρ S = (f ρ S).bind tstK := rfl
theorem r_tst {b : Bool} : tstK (.bl b) S = .ok b S := rfl
theorem r_dTru : dTru f ρ S = (f ρ S).bind fun d S => optB (d.tru S) S := rfl
theorem r_optB {b : Bool} : optB (some b) S = .ok b S := rfl
theorem r_trub {b : Bool} : (D.bl b).tru S = some b := rfl
theorem r_truT : (D.tup ds).tru S = some (!ds.isEmpty) := rfl
theorem r_dNotT : dNotT ft ρ S = (ft ρ S).bind fun b S => .ok (!b) S := rfl
theorem r_dAndT : dAndT ft gt ρ S = (ft ρ S).bind fun b S => if b = true then gt ρ S else .ok false S := rfl
theorem r_dOrT : dOrT ft gt ρ S = (ft ρ S).bind fun b S => if b = true then .ok true S else gt ρ S := rfl
theorem r_dNot : dNot f ρ S = (dTru f ρ S).bind fun b S => .ok (.bl (!b)) S := rfl
def andK (o : Option Bool) (d : D) (S : Sto) (r : Res D) : Res D := match o with
  | some true => r
  | some false => .ok d S
  | none => .bad
def orK (o : Option Bool) (d : D) (S : Sto) (r : Res D) : Res D := match o with
  | some true => .ok d S
  | some false => r
  | none => .bad
theorem r_dAnd : dAnd f g ρ S = (f ρ S).bind fun d S => andK (d.tru S) d S (g ρ S) := rfl
theorem r_dOr : dOr f g ρ S = (f ρ S).bind fun d S => orK (d.tru S) d S (g ρ S) := rfl
theorem r_and1 {r : Res D} : andK (some true) d S r = r := rfl
theorem r_and0 {r : Res D} : andK (some false) d S r = .ok d S := rfl
theorem r_or1 {r : Res D} : orK (some true) d S r = .ok d S := rfl
theorem r_or0 {r : Res D} : orK (some false) d S r = r := rfl
theorem r_dIf {ga gb : Rho → Sto → Res α} : dIf ft ga gb ρ S = (ft ρ S).bind fun b S => if b = true then ga ρ S else gb ρ S := rfl
theorem r_aNil : aNil ρ S = .ok [] S := rfl
theorem r_aCons : aCons f fs ρ S = (f ρ S).bind fun d S1 => (fs ρ S1).bind fun ds S2 => .ok (d :: ds) S2 := rfl
theorem r_guard {r : Res α} {b : Bool} (h : b = true) : guard b r = r := by unfold guard; rw [if_pos h]
theorem r_dTup : dTup fs ρ S = (fs ρ S).bind fun ds S => guard (okLen ds.length) (.ok (.tup ds) S) := rfl
theorem r_dLst : dLst fs ρ S = (fs ρ S).bind fun ds S => guard (okLen ds.length) (.ok (.lst ds) S) := rfl
theorem r_dLstM : dLstM fs ρ S = (fs ρ S).bind fun ds S => guard (okLen ds.length) (.ok (.ref S.length) (S ++ [ds])) := rfl
theorem r_dSl {fl fh : Rho → Sto → Res (Option Int)} : dSl f fl fh ρ S = (f ρ S).bind fun d S => (fl ρ S).bind fun lo S => (fh ρ S).bind fun hi S => oSl d lo hi S := rfl
theorem r_dNoP : dNoP ρ S = .ok none S := rfl
def pK (d : D) (S : Sto) : Res (Option Int) := match d with
  | .int i => .ok (some i) S
  | _ => .bad
theorem r_dP : dP f ρ S = (f ρ S).bind pK := rfl
theorem r_pK {i : Int} : pK (.int i) S = .ok (some i) S := rfl
theorem r_dCB {o : List D → Sto → Res D} : dCB o fs ρ S = (fs ρ S).bind o := rfl
theorem r_dCall {n : Nat} {F : List D → Sto → Res D} : dCall n F fs ρ S = (fs ρ S).bind fun ds S => guard (decide (ds.length = n)) (F ds S) := rfl
theorem r_dCallK {n m : Nat} {js : List Nat} {F : List D → Sto → Res D} : dCallK n m js F fs gs ρ S = (fs ρ S).bind fun ds S => (gs ρ S).bind fun es S => guard (decide (ds.length = n) && decide (es.length = m)) (F (pickL .non js (ds ++ es)) S) := rfl
/-! statements -/
def Out.sq (o : Out) (g : Dn) : Out := match o with
  | .nx ρ' S' => g ρ' S'
  | r => r
theorem r_sSeq : sSeq a b ρ S = (a ρ S).sq b := by
  unfold sSeq Out.sq; rfl
theorem sq_nx : (Out.nx ρ S).sq b = b ρ S := rfl
theorem sq_rt : (Out.rt d S).sq b = .rt d S := rfl
theorem sq_ex {x : Ex} : (Out.ex x ρ S).sq b = .ex x ρ S := rfl
theorem sb_ok {x : α} {k : α → Sto → Out} : sBind (.ok x S) ρ k = k x S := rfl
theorem sb_ex {x : Ex} {k : α → Sto → Out} : sBind (.ex x S : Res α) ρ k = .ex x ρ S := rfl
theorem r_sNil : sNil ρ S = .nx ρ S := rfl
theorem r_sRet : sRet f ρ S = sBind (f ρ S) ρ fun d S' => .rt d S' := rfl
theorem r_sExpr : sExpr f ρ S = sBind (f ρ S) ρ fun _ S' => .nx ρ S' := rfl
theorem r_sIf : sIf ft a b ρ S = sBind (ft ρ S) ρ fun c S' => if c = true then a ρ S' else b ρ S' := rfl
theorem r_sSet {j : Nat} : sSet j f ρ S = sBind (f ρ S) ρ fun d S' => .nx (ρ.set j (some d)) S' := rfl
theorem r_sPar {j k : Nat} : sPar j k f g ρ S = sBind (f ρ S) ρ fun d S1 => sBind (g ρ S1) ρ fun d2 S2 => .nx ((ρ.set j (some d)).set k (some d2)) S2 := rfl
def asgK (o : Option Rho) (S : Sto) : Out := match o with
  | some ρ' => .nx ρ' S
  | none => .bad
theorem r_sAsg {t : Tg} : sAsg t f ρ S = sBind (f ρ S) ρ fun d S' => asgK (t.bind d ρ) S' := rfl
theorem r_asg : asgK (some ρ') S = .nx ρ' S := rfl
theorem r_sFor {fi : Rho → Sto → Res (List D × Option Nat)} {t : Tg} : sFor fi t a ρ S = sBind (fi ρ S) ρ fun x S1 => loopD (gdOk x.2 x.1) t a x.1 ρ S1 := rfl
def fnK (o : Out) : Res D := fnRes o
theorem fn_rt : fnRes (.rt d S) = .ok d S := rfl
theorem fn_nx : fnRes (.nx ρ S) = .ok .non S := rfl
theorem fn_ex {x : Ex} : fnRes (.ex x ρ S) = .ex x S := rfl
def itK (d : D) (S : Sto) : Res (List D × Option Nat) := match d with
  | .tup ds => .ok (ds, none) S
  | .lst ds => .ok (ds, none) S
  | .fr ds => .ok (ds, none) S
  | .ref n => match S[n]? with
    | some ds => .ok (ds, some n) S
    | none => .bad
  | _ => .bad
theorem r_dIt : dIt f ρ S = (f ρ S).bind itK := rfl
theorem it_tup : itK (.tup ds) S = .ok (ds, none) S := rfl
theorem it_lst : itK (.lst ds) S = .ok (ds, none) S := rfl
theorem r_dRng1 : dRng1 fs ρ S = (fs ρ S).bind fun ds S => match ds with
  | [.int j] => guard (okI j) (.ok (rngD 0 j, none) S)
  | _ => .bad := rfl
/-! for -/
/-- all turns go on: the invariant P -/
theorem loop_inv {t : Tg} {body : Dn} (P : Rho → Sto → Prop) : ∀ (ds : List D) (ρ : Rho) (S : Sto), P ρ S → (∀ d ∈ ds, ∀ ρ S, P ρ S → ∃ ρ1, t.bind d ρ = some ρ1 ∧ ∃ ρ' S', body ρ1 S = .nx ρ' S' ∧ P ρ' S') →
    ∃ ρ' S', loopD (gdOk none ds) t body ds ρ S = .nx ρ' S' ∧ P ρ' S' := by
  have H : ∀ (l0 ds : List D) (ρ : Rho) (S : Sto), P ρ S → (∀ d ∈ ds, ∀ ρ S, P ρ S → ∃ ρ1, t.bind d ρ = some ρ1 ∧ ∃ ρ' S', body ρ1 S = .nx ρ' S' ∧ P ρ' S') → ∃ ρ' S', loopD (gdOk none l0) t body ds ρ S = .nx ρ' S' ∧ P ρ' S' := by
    intro l0 ds
    induction ds with
    | nil =>
      intro ρ S h _
      exact ⟨ρ, S, by unfold loopD; rw [if_pos gdOk_none], h⟩
    | cons d ds ih =>
      intro ρ S h k
      obtain ⟨ρ1, h1, ρ', S', h2, h3⟩ := k d List.mem_cons_self ρ S h
      obtain ⟨ρ2, S2, h4, h5⟩ := ih ρ' S' h3 fun d m => k d (List.mem_cons_of_mem _ m)
      refine ⟨ρ2, S2, ?_, h5⟩
      unfold loopD
      rw [if_pos gdOk_none, h1]
      dsimp only
      rw [h2]
      exact h4
  intro ds
  exact H ds ds
def lpK (o : Out) (k : Rho → Sto → Out) : Out := match o with
  | .nx ρ S => k ρ S
  | .ct ρ S => k ρ S
  | .bk ρ S => .nx ρ S
  | .rt d S => .rt d S
  | .ex x ρ S => .ex x ρ S
  | .bad => .bad
theorem lp_nx {k : Rho → Sto → Out} : lpK (.nx ρ S) k = k ρ S := rfl
theorem lp_ex {x : Ex} {k : Rho → Sto → Out} : lpK (.ex x ρ S) k = .ex x ρ S := rfl
theorem lp_rt {k : Rho → Sto → Out} : lpK (.rt d S) k = .rt d S := rfl
theorem loop_nil {t : Tg} {body : Dn} {l0 : List D} : loopD (gdOk none l0) t body [] ρ S = .nx ρ S := by
  unfold loopD
  rw [if_pos gdOk_none]
theorem loop_cons {t : Tg} {body : Dn} {l0 : List D} {ρ1 : Rho} (h : t.bind d ρ = some ρ1) : loopD (gdOk none l0) t body (d :: ds) ρ S = lpK (body ρ1 S) fun ρ' S' => loopD (gdOk none l0) t body ds ρ' S' := by
  conv => lhs; unfold loopD
  rw [if_pos gdOk_none, h]
  rfl
/-! comprehensions -/
/-- with what is made at each turn, by an invariant of the store -/
theorem lc_inv {t : Tg} {fe : Rho → Sto → Res D} {ρ : Rho} (P : Sto → Prop) (V : D → Prop) (n : Nat) (hn : ∀ S, P S → S.length = n) : ∀ (l0 ds : List D) (S : Sto) (acc : List D), P S → acc.length + ds.length ≤ 16777216 →
    (∀ d ∈ ds, ∀ S acc, P S → ∃ ρ1, t.bind d ρ = some ρ1 ∧ ∃ v S', fe ρ1 (S ++ [acc]) = .ok v (S' ++ [acc]) ∧ P S' ∧ V v) →
    ∃ vs S', lcD (gdOk none l0) t dYes fe ρ n ds (S ++ [acc]) = .ok () (S' ++ [acc ++ vs]) ∧ P S' ∧ vs.length = ds.length ∧ ∀ v ∈ vs, V v := by
  intro l0 ds
  induction ds with
  | nil =>
    intro S acc h _ _
    exact ⟨[], S, by unfold lcD; rw [if_pos gdOk_none, List.append_nil], h, rfl, fun v hv => nomatch hv⟩
  | cons d ds ih =>
    intro S acc h hl k
    obtain ⟨ρ1, h1, v, S', h2, h3, h4⟩ := k d List.mem_cons_self S acc h
    simp only [List.length_cons] at hl
    obtain ⟨vs, S2, h5, h6, h7, h8⟩ := ih S' (acc ++ [v]) h3 (by simp only [List.length_append, List.length_cons, List.length_nil]; omega) fun d m => k d (List.mem_cons_of_mem _ m)
    refine ⟨v :: vs, S2, ?_, h6, by simp [h7], fun w hw => ?_⟩
    · unfold lcD
      rw [if_pos gdOk_none, h1]
      dsimp only [dYes]
      rw [h2]
      dsimp only
      have e : (S' ++ [acc])[n]? = some acc := by rw [← hn S' h3]; simp
      rw [e]
      dsimp only
      rw [r_guard (by apply decide_eq_true; omega)]
      have e2 : (S' ++ [acc]).set n (acc ++ [v]) = S' ++ [acc ++ [v]] := by rw [← hn S' h3]; simp
      rw [e2, h5]
      simp
    · rcases List.mem_cons.mp hw with rfl | hw
      · exact h4
      · exact h8 w hw
/-- the same, with a filter; what is kept is told of -/
theorem dLc_inv {t : Tg} {fe : Rho → Sto → Res D} {fi : Rho → Sto → Res (List D × Option Nat)} {own : List Nat} {ρ : Rho} {S : Sto} {ds : List D} (P : Sto → Prop) (V : D → Prop) (hfi : fi ρ S = .ok (ds, none) S) (hP : P S) (hn : ∀ S', P S' → S'.length = S.length)
    (hl : ds.length ≤ 16777216) (hlow : ∀ S', P S' → S'.all (D.lows S.length) = true) (hV : ∀ v, V v → v.low S.length = true)
    (k : ∀ d ∈ ds, ∀ S acc, P S → ∃ ρ1, t.bind d (wipeR ρ own) = some ρ1 ∧ ∃ v S', fe ρ1 (S ++ [acc]) = .ok v (S' ++ [acc]) ∧ P S' ∧ V v) :
    ∃ vs S', dLc finI fi t dYes fe own ρ S = .ok (.lst vs) S' ∧ P S' ∧ vs.length = ds.length ∧ ∀ v ∈ vs, V v := by
  obtain ⟨vs, S', h1, h2, h3, h4⟩ := lc_inv P V S.length hn ds ds S [] hP (by simpa using hl) k
  refine ⟨vs, S', ?_, h2, h3, h4⟩
  unfold dLc
  rw [r_dB, hfi, bind_ok]
  dsimp only
  rw [h1, bind_ok]
  unfold finI
  have e : (S' ++ [[] ++ vs])[S.length]? = some vs := by rw [← hn S' h2]; simp
  rw [e]
  dsimp only
  have e2 : (S' ++ [[] ++ vs]).take S.length = S' := by rw [← hn S' h2]; simp
  have lowL : ∀ vs : List D, (∀ v ∈ vs, V v) → D.lows S.length vs = true := by
    intro vs
    induction vs with
    | nil => intro _; rfl
    | cons v vs ih =>
      intro h
      unfold D.lows
      rw [hV v (h v List.mem_cons_self), ih fun w m => h w (List.mem_cons_of_mem _ m)]
      rfl
  rw [e2, r_guard (by rw [lowL vs h4, hlow S' h2]; rfl)]
theorem bls_map (p : D → Bool) : ∀ ds : List D, bls (ds.map fun d => D.bl (p d)) = some (ds.map p)
  | [] => rfl
  | d :: ds => by
    rw [List.map_cons, List.map_cons]
    unfold bls
    rw [bls_map p ds]; rfl
theorem r_bools {h : List Bool → Bool} {ds : List D} {bs : List Bool} (e : bls ds = some bs) : oBools h [.lst ds] S = .ok (.bl (h bs)) S := by
  unfold oBools
  show (match some ds with | some l => (match bls l with | some bs => Res.ok (D.bl (h bs)) S | none => .bad) | none => .bad) = _
  dsimp only
  rw [e]
end
/-! ### plain data -/
mutual
def Pl : D → Bool
  | .non => true
  | .bl _ => true
  | .int _ => true
  | .str _ => true
  | .tup l => decide (l.length ≤ 1000) && Pls l
  | .lst l => decide (l.length ≤ 1000) && Pls l
  | _ => false
def Pls : List D → Bool
  | [] => true
  | d :: ds => Pl d && Pls ds
end
mutual
theorem pl_low (k : Nat) : ∀ {d : D}, Pl d = true → d.low k = true
  | .non, _ => rfl
  | .bl _, _ => rfl
  | .int _, _ => rfl
  | .str _, _ => rfl
  | .tup l, h => by unfold Pl at h; rw [Bool.and_eq_true] at h; unfold D.low; exact pls_low k h.2
  | .lst l, h => by unfold Pl at h; rw [Bool.and_eq_true] at h; unfold D.low; exact pls_low k h.2
  | .fr _, h => by simp [Pl] at h
  | .ref _, h => by simp [Pl] at h
  | .ty _, h => by simp [Pl] at h
  | .exo _ _ _, h => by simp [Pl] at h
theorem pls_low (k : Nat) : ∀ {ds : List D}, Pls ds = true → D.lows k ds = true
  | [], _ => by unfold D.lows; rfl
  | d :: ds, h => by
    unfold Pls at h
    rw [Bool.and_eq_true] at h
    unfold D.lows
    rw [pl_low k h.1, pls_low k h.2]; rfl
end
theorem pls_mem : ∀ {ds : List D}, Pls ds = true → ∀ d ∈ ds, Pl d = true
  | d :: ds, h, e, m => by
    unfold Pls at h
    rw [Bool.and_eq_true] at h
    rcases List.mem_cons.mp m with rfl | m
    · exact h.1
    · exact pls_mem h.2 e m
theorem pls_of : ∀ {ds : List D}, (∀ d ∈ ds, Pl d = true) → Pls ds = true
  | [], _ => rfl
  | d :: ds, h => by
    unfold Pls
    rw [h d List.mem_cons_self, pls_of fun e m => h e (List.mem_cons_of_mem _ m)]; rfl
theorem pls_append : ∀ {a b : List D}, Pls a = true → Pls b = true → Pls (a ++ b) = true
  | [], _, _, h => h
  | d :: a, b, h, k => by
    unfold Pls at h
    rw [Bool.and_eq_true] at h
    show (Pl d && Pls (a ++ b)) = true
    rw [h.1, pls_append h.2 k]; rfl
theorem pls_snoc {a : List D} {d : D} (h : Pls a = true) (k : Pl d = true) : Pls (a ++ [d]) = true := pls_append h (by unfold Pls; rw [k]; rfl)
section
variable {S : Sto}
/-- one value for each, nothing else -/
theorem dLc_map {t : Tg} {fe : Rho → Sto → Res D} {fi : Rho → Sto → Res (List D × Option Nat)} {own : List Nat} {ρ : Rho} {S : Sto} {ds : List D} (g : D → D) (hfi : fi ρ S = .ok (ds, none) S)
    (hl : ds.length ≤ 16777216) (hlow : S.all (D.lows S.length) = true) (hg : ∀ d ∈ ds, Pl (g d) = true)
    (k : ∀ d ∈ ds, ∃ ρ1, t.bind d (wipeR ρ own) = some ρ1 ∧ ∀ acc, Pls acc = true → fe ρ1 (S ++ [acc]) = .ok (g d) (S ++ [acc])) :
    dLc finI fi t dYes fe own ρ S = .ok (.lst (ds.map g)) S := by
  have H : ∀ (l0 ds : List D) (acc : List D), Pls acc = true → (∀ d ∈ ds, Pl (g d) = true) → acc.length + ds.length ≤ 16777216 → (∀ d ∈ ds, ∃ ρ1, t.bind d (wipeR ρ own) = some ρ1 ∧ ∀ acc, Pls acc = true → fe ρ1 (S ++ [acc]) = .ok (g d) (S ++ [acc])) →
      lcD (gdOk none l0) t dYes fe (wipeR ρ own) S.length ds (S ++ [acc]) = .ok () (S ++ [acc ++ ds.map g]) := by
    intro l0 ds
    induction ds with
    | nil => intro acc _ _ _ _; unfold lcD; rw [if_pos gdOk_none]; simp
    | cons d ds ih =>
      intro acc ha hg hl k
      obtain ⟨ρ1, h1, h2⟩ := k d List.mem_cons_self
      simp only [List.length_cons] at hl
      unfold lcD
      rw [if_pos gdOk_none, h1]
      dsimp only [dYes]
      rw [h2 acc ha]
      dsimp only
      have e : (S ++ [acc])[S.length]? = some acc := by simp
      rw [e]
      dsimp only
      rw [r_guard (by apply decide_eq_true; omega)]
      have e2 : (S ++ [acc]).set S.length (acc ++ [g d]) = S ++ [acc ++ [g d]] := by simp
      rw [e2, ih (acc ++ [g d]) (pls_snoc ha (hg d List.mem_cons_self)) (fun e m => hg e (List.mem_cons_of_mem _ m)) (by simp only [List.length_append, List.length_cons, List.length_nil]; omega) fun d m => k d (List.mem_cons_of_mem _ m)]
      simp
  unfold dLc
  rw [r_dB, hfi, bind_ok]
  dsimp only
  rw [H ds ds [] rfl hg (by simpa using hl) k, bind_ok]
  unfold finI
  have e : (S ++ [[] ++ ds.map g])[S.length]? = some (ds.map g) := by simp
  rw [e]
  dsimp only
  have e2 : (S ++ [[] ++ ds.map g]).take S.length = S := by simp
  have lowL : ∀ vs : List D, (∀ v ∈ vs, Pl (g v) = true) → D.lows S.length (vs.map g) = true := by
    intro vs
    induction vs with
    | nil => intro _; rfl
    | cons v vs ih =>
      intro h
      rw [List.map_cons]
      unfold D.lows
      rw [pl_low _ (h v List.mem_cons_self), ih fun w m => h w (List.mem_cons_of_mem _ m)]
      rfl
  rw [e2, r_guard (by rw [lowL ds hg, hlow]; rfl)]
end
/-- the name of its class -/
def clsP : D → String
  | .non => "NoneType"
  | .bl _ => "bool"
  | .int _ => "int"
  | .str _ => "str"
  | .tup _ => "tuple"
  | _ => "list"
theorem cls_pl {d : D} (S : Sto) (h : Pl d = true) : d.cls S = some (clsP d) := by
  cases d <;> first | rfl | simp [Pl] at h
theorem isi_pl {d : D} {S : Sto} {n : String} {b : Bool} (h : Pl d = true) (k : kitB (clsP d) n = some b) : oIsi [d, .ty n] S = .ok (.bl b) S := by
  unfold oIsi
  dsimp only
  rw [cls_pl S h]
  dsimp only
  rw [k]
def isTup : D → Bool
  | .tup _ => true
  | _ => false
def isBl : D → Bool
  | .bl _ => true
  | _ => false
def isIB : D → Bool
  | .int _ => true
  | .bl _ => true
  | _ => false
theorem kb_tuple_non : kitB "NoneType" "tuple" = some false := by decide +kernel
theorem kb_tuple_bl : kitB "bool" "tuple" = some false := by decide +kernel
theorem kb_tuple_int : kitB "int" "tuple" = some false := by decide +kernel
theorem kb_tuple_str : kitB "str" "tuple" = some false := by decide +kernel
theorem kb_tuple_tup : kitB "tuple" "tuple" = some true := by decide +kernel
theorem kb_tuple_lst : kitB "list" "tuple" = some false := by decide +kernel
theorem isi_tuple {S : Sto} : ∀ {d : D}, Pl d = true → oIsi [d, .ty "tuple"] S = .ok (.bl (isTup d)) S
  | .non, h => isi_pl h kb_tuple_non
  | .bl _, h => isi_pl h kb_tuple_bl
  | .int _, h => isi_pl h kb_tuple_int
  | .str _, h => isi_pl h kb_tuple_str
  | .tup _, h => isi_pl h kb_tuple_tup
  | .lst _, h => isi_pl h kb_tuple_lst
  | .fr _, h => by simp [Pl] at h
  | .ref _, h => by simp [Pl] at h
  | .ty _, h => by simp [Pl] at h
  | .exo _ _ _, h => by simp [Pl] at h
theorem kb_bool_non : kitB "NoneType" "bool" = some false := by decide +kernel
theorem kb_bool_bl : kitB "bool" "bool" = some true := by decide +kernel
theorem kb_bool_int : kitB "int" "bool" = some false := by decide +kernel
theorem kb_bool_str : kitB "str" "bool" = some false := by decide +kernel
theorem kb_bool_tup : kitB "tuple" "bool" = some false := by decide +kernel
theorem kb_bool_lst : kitB "list" "bool" = some false := by decide +kernel
theorem isi_bool {S : Sto} : ∀ {d : D}, Pl d = true → oIsi [d, .ty "bool"] S = .ok (.bl (isBl d)) S
  | .non, h => isi_pl h kb_bool_non
  | .bl _, h => isi_pl h kb_bool_bl
  | .int _, h => isi_pl h kb_bool_int
  | .str _, h => isi_pl h kb_bool_str
  | .tup _, h => isi_pl h kb_bool_tup
  | .lst _, h => isi_pl h kb_bool_lst
  | .fr _, h => by simp [Pl] at h
  | .ref _, h => by simp [Pl] at h
  | .ty _, h => by simp [Pl] at h
  | .exo _ _ _, h => by simp [Pl] at h
theorem kb_int_non : kitB "NoneType" "int" = some false := by decide +kernel
theorem kb_int_bl : kitB "bool" "int" = some true := by decide +kernel
theorem kb_int_int : kitB "int" "int" = some true := by decide +kernel
theorem kb_int_str : kitB "str" "int" = some false := by decide +kernel
theorem kb_int_tup : kitB "tuple" "int" = some false := by decide +kernel
theorem kb_int_lst : kitB "list" "int" = some false := by decide +kernel
theorem isi_int {S : Sto} : ∀ {d : D}, Pl d = true → oIsi [d, .ty "int"] S = .ok (.bl (isIB d)) S
  | .non, h => isi_pl h kb_int_non
  | .bl _, h => isi_pl h kb_int_bl
  | .int _, h => isi_pl h kb_int_int
  | .str _, h => isi_pl h kb_int_str
  | .tup _, h => isi_pl h kb_int_tup
  | .lst _, h => isi_pl h kb_int_lst
  | .fr _, h => by simp [Pl] at h
  | .ref _, h => by simp [Pl] at h
  | .ty _, h => by simp [Pl] at h
  | .exo _ _ _, h => by simp [Pl] at h
/-! ### the words for running -/
def vK (o : Option D) (S : Sto) : Res D := match o with
  | some d => .ok d S
  | none => .bad
theorem r_var {i : Nat} {ρ : Rho} {S : Sto} : dV i ρ S = vK (ρ.getD i none) S := rfl
theorem vk_some {d : D} {S : Sto} : vK (some d) S = .ok d S := rfl
theorem gd_t {α : Type} {r : Res α} : guard true r = r := rfl
theorem eq_int {i j : Int} {S : Sto} : oEq (.int i) (.int j) S = .ok (.bl (decide (i = j))) S := rfl
theorem eq_bl {i j : Bool} {S : Sto} : oEq (.bl i) (.bl j) S = .ok (.bl (decide (i = j))) S := rfl
theorem eq_str {i j : Str} {S : Sto} : oEq (.str i) (.str j) S = .ok (.bl (decide (i = j))) S := rfl
theorem ne_str {i j : Str} {S : Sto} : oNe (.str i) (.str j) S = .ok (.bl (!decide (i = j))) S := rfl
theorem cmp_int {g : Int → Int → Bool} {i j : Int} {S : Sto} : oCmp g (.int i) (.int j) S = .ok (.bl (g i j)) S := rfl
theorem add_int {i j : Int} {S : Sto} : oAdd (.int i) (.int j) S = .ok (.int (i + j)) S := rfl
theorem sub_int {i j : Int} {S : Sto} : oSub (.int i) (.int j) S = .ok (.int (i - j)) S := rfl
theorem neg_int {i : Int} {S : Sto} : oNeg (.int i) S = .ok (.int (-i)) S := rfl
theorem len_tup {l : List D} {S : Sto} : oLen [.tup l] S = .ok (.int l.length) S := rfl
theorem len_lst {l : List D} {S : Sto} : oLen [.lst l] S = .ok (.int l.length) S := rfl
theorem tuple_lst {l : List D} {S : Sto} : oTuple [.lst l] S = .ok (.tup l) S := rfl
theorem list_tup {l : List D} {S : Sto} : oList [.tup l] S = .ok (.lst l) S := rfl
theorem i2_int {g : Int → Int → Int} {i j : Int} {S : Sto} : oI2 g [.int i, .int j] S = .ok (.int (g i j)) S := rfl
theorem int_int {i : Int} {S : Sto} : oInt [.int i] S = .ok (.int i) S := rfl
theorem if_t {α : Sort _} {a b : α} : (if true = true then a else b) = a := rfl
theorem if_f {α : Sort _} {a b : α} : (if false = true then a else b) = b := rfl
theorem bd_nm {i : Nat} {d : D} {ρ : Rho} : Tg.bind (.nm i) d ρ = some (ρ.set i (some d)) := rfl
theorem bd_tp {l : List Tg} {ds : List D} {ρ : Rho} : Tg.bind (.tp l) (.tup ds) ρ = Tg.binds l ds ρ := rfl
theorem bd_nil {ρ : Rho} : Tg.binds [] [] ρ = some ρ := rfl
def bdK (o : Option Rho) (l : List Tg) (ds : List D) : Option Rho := match o with
  | some ρ' => Tg.binds l ds ρ'
  | none => none
theorem bd_cons {t : Tg} {l : List Tg} {d : D} {ds : List D} {ρ : Rho} : Tg.binds (t :: l) (d :: ds) ρ = bdK (t.bind d ρ) l ds := rfl
theorem bdk {ρ : Rho} {l : List Tg} {ds : List D} : bdK (some ρ) l ds = Tg.binds l ds ρ := rfl
theorem rng1 {j : Int} {S : Sto} {fs : Rho → Sto → Res (List D)} {ρ : Rho} (h : fs ρ S = .ok [.int j] S) (hj : okI j = true) : dRng1 fs ρ S = .ok (rngD 0 j, none) S := by
  rw [r_dRng1, h, bind_ok]
  dsimp only
  rw [hj]; rfl
theorem r_andb {b c : Bool} {S : Sto} : andK (some b) (.bl b) S (.ok (.bl c) S) = .ok (.bl (b && c)) S := by cases b <;> rfl
theorem r_orb {b c : Bool} {S : Sto} : orK (some b) (.bl b) S (.ok (.bl c) S) = .ok (.bl (b || c)) S := by cases b <;> rfl
theorem r_iteb {b c : Bool} {S : Sto} : (if b = true then Res.ok c S else Res.ok false S) = .ok (b && c) S := by cases b <;> rfl
theorem r_iteb2 {b c : Bool} {S : Sto} : (if b = true then Res.ok true S else Res.ok c S) = .ok (b || c) S := by cases b <;> rfl
theorem at_get {α : Type} {l : List α} {i : Nat} {d : α} (h : l[i]? = some d) : L2.atI l (i : Int) = some d := by
  have hl := (List.getElem?_eq_some_iff.mp h).1
  unfold L2.atI L2.ixN
  rw [if_pos (by omega), if_pos (by omega)]
  simpa using h
theorem at_neg1 {α : Type} {l : List α} {d : α} (h : l.getLast? = some d) : L2.atI l (-1) = some d := by
  have hne : l ≠ [] := fun e => by rw [e] at h; cases h
  have hl : 0 < l.length := List.length_pos_iff.mpr hne
  unfold L2.atI L2.ixN
  rw [if_neg (by omega), if_pos (by omega)]
  rw [List.getLast?_eq_getElem?] at h
  show l[_]? = some d
  rw [← h]
  congr 1
  omega
theorem ix_tup {l : List D} {i : Nat} {d : D} {S : Sto} (h : l[i]? = some d) : oIx (.tup l) (.int (i : Int)) S = .ok d S := by
  unfold oIx
  simp only [D.seq, at_get h]
theorem ix_lst {l : List D} {i : Nat} {d : D} {S : Sto} (h : l[i]? = some d) : oIx (.lst l) (.int (i : Int)) S = .ok d S := by
  unfold oIx
  simp only [D.seq, at_get h]
theorem ix_ref {l : List D} {n i : Nat} {d : D} {S : Sto} (hS : S[n]? = some l) (h : l[i]? = some d) : oIx (.ref n) (.int (i : Int)) S = .ok d S := by
  unfold oIx
  simp only [D.seq, hS, at_get h]
theorem ix0 {a : D} {l : List D} {S : Sto} : oIx (.tup (a :: l)) (.int 0) S = .ok a S := ix_tup (i := 0) rfl
theorem ix1 {a b : D} {l : List D} {S : Sto} : oIx (.tup (a :: b :: l)) (.int 1) S = .ok b S := ix_tup (i := 1) rfl
theorem r_raise {x : Str} {ks : List Str} {fs : Rho → Sto → Res (List D)} {ρ : Rho} {S : Sto} : sRaise x ks fs ρ S = sBind (fs ρ S) ρ fun ds S1 => if ds.length = ks.length then .ex ⟨x, ks, ds⟩ ρ S1 else .bad := rfl
theorem mul_small {i j : Int} {S : Sto} (h : j.natAbs < 2 ^ 64) : oMul (.int i) (.int j) S = .ok (.int (i * j)) S := by
  show guard (okMul i j) _ = _
  rw [r_guard (by unfold okMul; rw [decide_eq_true h]; simp)]
theorem mul_left {i j : Int} {S : Sto} (h : i.natAbs < 2 ^ 64) : oMul (.int i) (.int j) S = .ok (.int (i * j)) S := by
  show guard (okMul i j) _ = _
  rw [r_guard (by unfold okMul; rw [decide_eq_true h]; simp)]
theorem mod_int {i j : Int} {S : Sto} (h : 0 < j) : oMod (.int i) (.int j) S = .ok (.int (i % j)) S := by
  show guard (decide (0 < j)) _ = _
  rw [r_guard (decide_eq_true h)]
theorem div_int {i j : Int} {S : Sto} (h : 0 < j) (h2 : j < 2 ^ 64) : oDiv (.int i) (.int j) S = .ok (.int (i / j)) S := by
  show guard (decide (0 < j) && decide (j.natAbs.log2 < 9000)) _ = _
  have : j.natAbs.log2 < 64 := (Nat.log2_lt (by omega)).mpr (by omega)
  rw [r_guard (by rw [decide_eq_true h, decide_eq_true (show j.natAbs.log2 < 9000 by omega)]; rfl)]
theorem pow_int {i : Int} {k : Nat} {S : Sto} (h : i.natAbs < 2 ^ 64) (hk : k ≤ 1000) : oPow (.int i) (.int (k : Int)) S = .ok (.int (i ^ k)) S := by
  show guard (decide (0 ≤ (k : Int)) && decide ((k : Int) ≤ 1000000) && decide (i.natAbs < 2 ^ 64)) _ = _
  rw [r_guard (by rw [decide_eq_true (show 0 ≤ (k : Int) by omega), decide_eq_true (show (k : Int) ≤ 1000000 by omega), decide_eq_true h]; rfl)]
  rfl
def stK (x i d : D) (ρ : Rho) (S3 : Sto) : Out := match x, i with
  | .ref n, .int k => match S3[n]? with
    | some ds => match L2.ixN ds.length k with
      | some j => .nx ρ (S3.set n (ds.set j d))
      | none => .bad
    | none => .bad
  | _, _ => .bad
theorem r_sSetIx {fo fi fe : Rho → Sto → Res D} {ρ : Rho} {S : Sto} : sSetIx fo fi fe ρ S = sBind (fe ρ S) ρ fun d S1 => sBind (fo ρ S1) ρ fun x S2 => sBind (fi ρ S2) ρ fun i S3 => stK x i d ρ S3 := rfl
theorem st_ref {n i : Nat} {l : List D} {d : D} {ρ : Rho} {S : Sto} (h : S[n]? = some l) (hi : i < l.length) : stK (.ref n) (.int (i : Int)) d ρ S = .nx ρ (S.set n (l.set i d)) := by
  unfold stK
  simp only [h]
  have : L2.ixN l.length (i : Int) = some i := by
    unfold L2.ixN
    rw [if_pos (by omega), if_pos (by omega)]; simp
  simp only [this]
section
variable {x0 x1 x2 x3 d : D} {R : Sto} {ρ : Rho}
theorem fl0 {l : List D} : oIx (.ref 0) (.int 0) ((x0 :: l) :: R) = .ok x0 ((x0 :: l) :: R) := ix_ref (n := 0) (i := 0) rfl rfl
theorem fl1 {l : List D} : oIx (.ref 0) (.int 1) ((x0 :: x1 :: l) :: R) = .ok x1 ((x0 :: x1 :: l) :: R) := ix_ref (n := 0) (i := 1) rfl rfl
theorem fl2 {l : List D} : oIx (.ref 0) (.int 2) ((x0 :: x1 :: x2 :: l) :: R) = .ok x2 ((x0 :: x1 :: x2 :: l) :: R) := ix_ref (n := 0) (i := 2) rfl rfl
theorem fl3 {l : List D} : oIx (.ref 0) (.int 3) ((x0 :: x1 :: x2 :: x3 :: l) :: R) = .ok x3 ((x0 :: x1 :: x2 :: x3 :: l) :: R) := ix_ref (n := 0) (i := 3) rfl rfl
theorem fs0 : stK (.ref 0) (.int 0) d ρ ([x0, x1, x2, x3] :: R) = .nx ρ ([d, x1, x2, x3] :: R) := st_ref (n := 0) (i := 0) (l := [x0, x1, x2, x3]) rfl (show 0 < 4 by decide)
theorem fs1 : stK (.ref 0) (.int 1) d ρ ([x0, x1, x2, x3] :: R) = .nx ρ ([x0, d, x2, x3] :: R) := st_ref (n := 0) (i := 1) (l := [x0, x1, x2, x3]) rfl (show 1 < 4 by decide)
theorem fs2 : stK (.ref 0) (.int 2) d ρ ([x0, x1, x2, x3] :: R) = .nx ρ ([x0, x1, d, x3] :: R) := st_ref (n := 0) (i := 2) (l := [x0, x1, x2, x3]) rfl (show 2 < 4 by decide)
end
theorem cut_from {l : List D} (k : Nat) : cutD l (some (k : Int)) none = l.drop k := by
  unfold cutD
  rw [HT.sIx_nat, HT.sIx_none]
  rw [List.take_of_length_le (by rw [List.length_drop]; omega)]
  by_cases h : k ≤ l.length
  · rw [Nat.min_eq_left h]
  · rw [Nat.min_eq_right (by omega), List.drop_length, List.drop_of_length_le (by omega)]
theorem cut_to {l : List D} (k : Nat) : cutD l none (some (k : Int)) = l.take k := by
  unfold cutD
  rw [HT.sIx_nat, HT.sIx_none, List.drop_zero, Nat.sub_zero]
  by_cases h : k ≤ l.length
  · rw [Nat.min_eq_left h]
  · rw [Nat.min_eq_right (by omega), List.take_length, List.take_of_length_le (by omega)]
theorem sl_from {l : List D} {k : Nat} {S : Sto} : oSl (.tup l) (some (k : Int)) none S = .ok (.tup (l.drop k)) S := by
  show Res.ok (D.tup (cutD l (some (k : Int)) none)) S = _
  rw [cut_from]
theorem sl_to {l : List D} {k : Nat} {S : Sto} : oSl (.tup l) none (some (k : Int)) S = .ok (.tup (l.take k)) S := by
  show Res.ok (D.tup (cutD l none (some (k : Int)))) S = _
  rw [cut_to]
theorem okL0 : okLen 0 = true := by decide
theorem okL1 : okLen 1 = true := by decide
theorem okL2 : okLen 2 = true := by decide
theorem okL3 : okLen 3 = true := by decide
theorem okL4 : okLen 4 = true := by decide
theorem okL5 : okLen 5 = true := by decide
theorem okL6 : okLen 6 = true := by decide
theorem okL7 : okLen 7 = true := by decide
theorem okL8 : okLen 8 = true := by decide
theorem okL9 : okLen 9 = true := by decide
theorem okL10 : okLen 10 = true := by decide
theorem okL11 : okLen 11 = true := by decide
theorem okL12 : okLen 12 = true := by decide
theorem okL13 : okLen 13 = true := by decide
theorem okL14 : okLen 14 = true := by decide
theorem okL15 : okLen 15 = true := by decide
/-- the store holds nothing but plain data -/
def SL (S : Sto) : Prop := ∀ ds ∈ S, Pls ds = true
theorem SL.low {S : Sto} (h : SL S) (k : Nat) : S.all (D.lows k) = true := List.all_eq_true.mpr fun ds m => pls_low k (h ds m)
theorem SL.snoc {S : Sto} {acc : List D} (h : SL S) (ha : Pls acc = true) : SL (S ++ [acc]) := fun ds m => by
  rcases List.mem_append.mp m with m | m
  · exact h ds m
  · rw [List.mem_singleton.mp m]; exact ha
theorem getD_set {ρ : Rho} {j : Nat} {x y : Option D} (h : j < ρ.length) : ((ρ.set j x).set j y).getD j none = y := by
  rw [List.set_set, List.getD_eq_getElem?_getD, List.getElem?_set_self (by simpa using h)]
  rfl
theorem bools_all {p : D → Bool} {l : List D} {S : Sto} : oBools (fun bs => bs.all id) [.lst (l.map fun d => .bl (p d))] S = .ok (.bl (l.all p)) S := by
  rw [r_bools (bls_map p l)]
  congr 2
  simp
/-- all(F(x) for x in ..) -/
theorem all_run {p : D → Bool} {F : List D → Sto → Res D} {fe : Rho → Sto → Res D} {l : List D} {S : Sto} {ρ : Rho} {j : Nat} (hfe : fe ρ S = .ok (.tup l) S) (hS : SL S) (hl : l.length ≤ 1000) (hj : j < ρ.length) (hF : ∀ d ∈ l, ∀ S', SL S' → F [d] S' = .ok (.bl (p d)) S') :
    dLc finI (dIt fe) (.nm j) dYes (dCall 1 F (aCons (dV j) aNil)) [j] ρ S = .ok (.lst (l.map fun d => .bl (p d))) S := by
  exact dLc_map (t := .nm j) (fe := dCall 1 F (aCons (dV j) aNil)) (fi := dIt fe) (own := [j]) (ρ := ρ) (S := S) (ds := l) (fun d => .bl (p d)) (by rw [r_dIt, hfe]; rfl) (by omega) (hS.low _) (fun d _ => rfl) fun d m => by
    refine ⟨(ρ.set j none).set j (some d), rfl, fun acc ha => ?_⟩
    rw [r_dCall, r_aCons, r_var, getD_set hj]
    simp -implicitDefEqProofs only [r_dB, bind_ok, bind_ex, r_var, vk_some, List.getD_cons_zero, List.getD_cons_succ, r_dC, r_dOp, r_dUn, r_dTst, r_tst, r_dTru, r_optB, r_trub, r_truT, r_dNotT, r_dAndT, r_dOrT, r_dNot, r_dAnd, r_dOr, r_and1, r_and0, r_or1, r_or0, r_andb, r_orb, r_iteb, r_iteb2, r_raise, ix0, ix1, r_sSetIx, fl0, fl1, fl2, fl3, fs0, fs1, fs2, fs0, r_dIf, r_aNil, r_aCons, gd_t, r_dTup, r_dLst, r_dLstM, r_dSl, r_dNoP, r_dP, r_pK, r_dCB, r_dCall, r_dCallK, r_sSeq, sq_nx, sq_rt, sq_ex, sb_ok, sb_ex, r_sNil, r_sRet, r_sExpr, r_sIf, r_sSet, r_sPar, r_sAsg, r_asg, r_sFor, fn_rt, fn_nx, fn_ex, r_dIt, it_tup, it_lst, eq_int, eq_bl, eq_str, ne_str, cmp_int, add_int, sub_int, neg_int, len_tup, len_lst, tuple_lst, list_tup, i2_int, int_int, if_t, if_f, bd_nm, bd_tp, bd_nil, bd_cons, bdk, List.set_cons_zero, List.set_cons_succ, okL0, okL1, okL2, okL3, okL4, okL5, okL6, okL7, okL8, okL9, okL10, okL11, okL12, okL13, okL14, okL15, List.length_cons, List.length_nil, Nat.reduceAdd, Nat.zero_add, Nat.reduceLeDiff, Nat.reduceEqDiff, decide_true, decide_false, Bool.not_true, Bool.not_false, Bool.and_true, Bool.true_and, eq_self, List.cons_append, List.nil_append, pickL, List.map_cons, List.map_nil, ↓reduceIte, Bool.false_eq_true]
    exact hF d m _ (hS.snoc ha)
/-- all(F(c, x) for x in ..) -/
theorem all_run2 {p : D → Bool} {F : List D → Sto → Res D} {fe fc : Rho → Sto → Res D} {c : D} {l : List D} {S : Sto} {ρ : Rho} {j : Nat} (hfe : fe ρ S = .ok (.tup l) S) (hfc : ∀ d S', fc ((ρ.set j none).set j (some d)) S' = .ok c S') (hS : SL S) (hl : l.length ≤ 1000) (hj : j < ρ.length) (hF : ∀ d ∈ l, ∀ S', SL S' → F [c, d] S' = .ok (.bl (p d)) S') :
    dLc finI (dIt fe) (.nm j) dYes (dCall 2 F (aCons fc (aCons (dV j) aNil))) [j] ρ S = .ok (.lst (l.map fun d => .bl (p d))) S := by
  exact dLc_map (t := .nm j) (fe := dCall 2 F (aCons fc (aCons (dV j) aNil))) (fi := dIt fe) (own := [j]) (ρ := ρ) (S := S) (ds := l) (fun d => .bl (p d)) (by rw [r_dIt, hfe]; rfl) (by omega) (hS.low _) (fun d _ => rfl) fun d m => by
    refine ⟨(ρ.set j none).set j (some d), rfl, fun acc ha => ?_⟩
    rw [r_dCall, r_aCons, hfc, bind_ok, r_aCons, r_var, getD_set hj]
    simp -implicitDefEqProofs only [r_dB, bind_ok, bind_ex, r_var, vk_some, List.getD_cons_zero, List.getD_cons_succ, r_dC, r_dOp, r_dUn, r_dTst, r_tst, r_dTru, r_optB, r_trub, r_truT, r_dNotT, r_dAndT, r_dOrT, r_dNot, r_dAnd, r_dOr, r_and1, r_and0, r_or1, r_or0, r_andb, r_orb, r_iteb, r_iteb2, r_raise, ix0, ix1, r_sSetIx, fl0, fl1, fl2, fl3, fs0, fs1, fs2, fs0, r_dIf, r_aNil, r_aCons, gd_t, r_dTup, r_dLst, r_dLstM, r_dSl, r_dNoP, r_dP, r_pK, r_dCB, r_dCall, r_dCallK, r_sSeq, sq_nx, sq_rt, sq_ex, sb_ok, sb_ex, r_sNil, r_sRet, r_sExpr, r_sIf, r_sSet, r_sPar, r_sAsg, r_asg, r_sFor, fn_rt, fn_nx, fn_ex, r_dIt, it_tup, it_lst, eq_int, eq_bl, eq_str, ne_str, cmp_int, add_int, sub_int, neg_int, len_tup, len_lst, tuple_lst, list_tup, i2_int, int_int, if_t, if_f, bd_nm, bd_tp, bd_nil, bd_cons, bdk, List.set_cons_zero, List.set_cons_succ, okL0, okL1, okL2, okL3, okL4, okL5, okL6, okL7, okL8, okL9, okL10, okL11, okL12, okL13, okL14, okL15, List.length_cons, List.length_nil, Nat.reduceAdd, Nat.zero_add, Nat.reduceLeDiff, Nat.reduceEqDiff, decide_true, decide_false, Bool.not_true, Bool.not_false, Bool.and_true, Bool.true_and, eq_self, List.cons_append, List.nil_append, pickL, List.map_cons, List.map_nil, ↓reduceIte, Bool.false_eq_true]
    exact hF d m _ (hS.snoc ha)
end DE

set_option Elab.async false
set_option linter.all false
set_option maxRecDepth 100000
set_option maxHeartbeats 1000000
/-! running denotations: loops by number, append, what is cut off -/
namespace DE
open PySem PySem.Spec L2
open PyProof.Rows hiding St
section
variable {ρ ρ' : Rho} {S S' : Sto} {f g : Rho → Sto → Res D} {d e : D} {ds es : List D}
theorem loop_num {t : Tg} {body : Dn} (P : Nat → Rho → Sto → Prop) : ∀ (l0 ds : List D) (j : Nat) (ρ : Rho) (S : Sto), P j ρ S → (∀ i d, ds[i]? = some d → ∀ ρ S, P (j + i) ρ S → ∃ ρ1, t.bind d ρ = some ρ1 ∧ ∃ ρ' S', body ρ1 S = .nx ρ' S' ∧ P (j + i + 1) ρ' S') →
    ∃ ρ' S', loopD (gdOk none l0) t body ds ρ S = .nx ρ' S' ∧ P (j + ds.length) ρ' S' := by
  intro l0 ds
  induction ds with
  | nil => intro j ρ S h _; exact ⟨ρ, S, loop_nil, h⟩
  | cons d ds ih =>
    intro j ρ S h k
    obtain ⟨ρ1, h1, ρ', S', h2, h3⟩ := k 0 d rfl ρ S h
    obtain ⟨ρ2, S2, h4, h5⟩ := ih (j + 1) ρ' S' h3 fun i d m ρ S q => by
      have := k (i + 1) d (by simpa using m) ρ S (by rw [show j + (i + 1) = j + 1 + i by omega]; exact q)
      rw [show j + (i + 1) + 1 = j + 1 + i + 1 by omega] at this
      exact this
    refine ⟨ρ2, S2, ?_, ?_⟩
    · rw [loop_cons h1, h2]; exact h4
    · rw [List.length_cons, show j + (ds.length + 1) = j + 1 + ds.length by omega]; exact h5
theorem rng_len (n : Nat) : (rngD 0 (n : Int)).length = n := by
  unfold rngD
  rw [List.length_map, List.length_range]; omega
theorem rng_get {n i : Nat} {d : D} (h : (rngD 0 (n : Int))[i]? = some d) : d = .int (i : Int) ∧ i < n := by
  unfold rngD at h
  rw [List.getElem?_map] at h
  have hl : (List.range ((n : Int) - 0).toNat).length = n := by rw [List.length_range]; omega
  by_cases hi : i < n
  · rw [List.getElem?_eq_getElem (by rw [hl]; exact hi)] at h
    simp at h
    exact ⟨h.symm, hi⟩
  · rw [List.getElem?_eq_none (by rw [hl]; omega)] at h
    cases h
theorem rng_mem {n : Nat} {d : D} (h : d ∈ rngD 0 (n : Int)) : ∃ i : Nat, d = .int (i : Int) ∧ i < n := by
  obtain ⟨i, hi⟩ := List.getElem?_of_mem h
  obtain ⟨rfl, h2⟩ := rng_get hi
  exact ⟨i, rfl, h2⟩
theorem rng_run {n : Nat} {fs : Rho → Sto → Res (List D)} (h : fs ρ S = .ok [.int (n : Int)] S') (hn : n ≤ 1000000) : dRng1 fs ρ S = .ok (rngD 0 (n : Int), none) S' := by
  rw [r_dRng1, h, bind_ok]
  dsimp only
  rw [r_guard]
  unfold okI
  rw [decide_eq_true (show -(2 ^ 62) ≤ (n : Int) by omega), decide_eq_true (show (n : Int) < 2 ^ 62 by omega)]
  rfl
/-! append -/
def appK (x : D) (S1 : Sto) (r : Res D) : Res D := match x with
  | .ref n => guard (decide (n < S1.length)) (r.bind fun d S => match S[n]? with
    | some ds => guard (decide (ds.length < 16777216)) (.ok .non (S.set n (ds ++ [d])))
    | none => .bad)
  | _ => .bad
theorem r_dApp : dApp f g ρ S = (f ρ S).bind fun x S1 => appK x S1 (g ρ S1) := rfl
theorem app_ok {n : Nat} {S1 S2 : Sto} {r : Res D} (hr : r = .ok d S2) (h1 : n < S1.length) (h2 : S2[n]? = some ds) (h3 : ds.length < 16777216) : appK (.ref n) S1 r = .ok .non (S2.set n (ds ++ [d])) := by
  unfold appK
  dsimp only
  rw [r_guard (decide_eq_true h1), hr, bind_ok]
  simp only [h2]
  rw [r_guard (decide_eq_true h3)]
theorem add_lst {a b : List D} (h : a.length + b.length ≤ 16777216) : oAdd (.lst a) (.lst b) S = .ok (.lst (a ++ b)) S := by
  exact r_guard (b := okLen (a.length + b.length)) (decide_eq_true h)
theorem add_tup {a b : List D} (h : a.length + b.length ≤ 16777216) : oAdd (.tup a) (.tup b) S = .ok (.tup (a ++ b)) S := by
  exact r_guard (b := okLen (a.length + b.length)) (decide_eq_true h)
theorem str_int {i : Int} (h : i.natAbs < 2 ^ 1000) : oStr [.int i] S = .ok (.str (toString i)) S := by
  show guard (decide (i.natAbs.log2 < 1920)) _ = _
  by_cases h0 : i.natAbs = 0
  · rw [h0]; rfl
  · have := (Nat.log2_lt h0).mpr h
    rw [r_guard (decide_eq_true (by omega))]
/-! what is cut off -/
theorem cut_pl {k : Nat} (hd : Pl d = true) (hS : SL (S.take k)) : cutRes k (.ok d S) = .ok d (S.take k) := by
  have e : (d.low k && (S.take k).all (D.lows k)) = true := by rw [pl_low k hd, hS.low k]; rfl
  cases d <;> first | (simp [Pl] at hd; done) | exact r_guard e
theorem cut_ref {k n : Nat} (hn : ¬ n < k) (h : S[n]? = some ds) (hd : Pls ds = true) (hS : SL (S.take k)) : cutRes k (.ok (.ref n) S) = .ok (.lst ds) (S.take k) := by
  unfold cutRes
  simp only [hn, h]
  rw [if_neg (by simp), r_guard (by rw [pls_low k hd, hS.low k]; rfl)]
end
end DE

set_option Elab.async false
set_option linter.all false
set_option maxRecDepth 100000
set_option maxHeartbeats 4000000
/-! the defs of the text as functions of data (written by a program of mine, from the text alone) -/
namespace k00
open PySem DE
def ctC (c cn : Str) : Option Bool := if c = "InvalidPaper" ∧ cn = "InvalidPaper" then some true else none
def itC (cn y : Str) : Option Bool := if cn = "InvalidPaper" ∧ y = "BookError" then some false else if cn = "InvalidPaper" ∧ y = "HadError" then some true else if cn = "InvalidPaper" ∧ y = "PaperError" then some true else if cn = "InvalidPaper" ∧ y = "ValueError" then some true else none
noncomputable def b_is_integer : Dn := (sRet (dAnd (dCB oIsi (aCons (dV 0) (aCons (dC (.ty "int")) aNil))) (dNot (dCB oIsi (aCons (dV 0) (aCons (dC (.ty "bool")) aNil))))))
noncomputable def F_is_integer : List D → Sto → Res D := fun ds S => fnRes (b_is_integer (startR 1 ds) S)
noncomputable def b_is_pair : Dn := (sRet (dAnd (dCB oIsi (aCons (dV 0) (aCons (dC (.ty "tuple")) aNil))) (dOp oEq (dCB oLen (aCons (dV 0) aNil)) (dC (.int 2)))))
noncomputable def F_is_pair : List D → Sto → Res D := fun ds S => fnRes (b_is_pair (startR 1 ds) S)
noncomputable def b__law_draw : Dn := (sSeq (sIf (dAndT (dTst (dOp oEq (dOp oIx (dV 0) (dC (.int 0))) (dC (.int 0)))) (dTst (dOp (oCmp fun i j => decide (i < j)) (dOp oIx (dV 0) (dC (.int 1))) (dCB oLen (aCons (dOp oIx (dV 0) (dC (.int 3))) aNil))))) (sSeq (sSet 2 (dOp oIx (dOp oIx (dV 0) (dC (.int 3))) (dOp oIx (dV 0) (dC (.int 1)))))
  (sSeq (sSetIx (dV 0) (dC (.int 1)) (dOp oAdd (dOp oIx (dV 0) (dC (.int 1))) (dC (.int 1))))
  (sSeq (sSetIx (dV 0) (dC (.int 2)) (dOp oMod (dCB oInt (aCons (dOp oAdd (dOp oMul (dOp oIx (dV 0) (dC (.int 2))) (dC (.int 7919))) (dV 2)) aNil)) (dC (.int 2147483629))))
  (sIf (dTst (dOp (oCmp fun i j => decide (j ≤ i)) (dV 2) (dOp oPow (dC (.int 10)) (dC (.int 18))))) (sSetIx (dV 0) (dC (.int 0)) (dOp oMod (dCB oInt (aCons (dV 2) aNil)) (dOp oPow (dC (.int 10)) (dC (.int 60))))) sNil)))) sNil)
  (sSeq (sIf (dTst (dOp (oCmp fun i j => decide (j < i)) (dOp oIx (dV 0) (dC (.int 0))) (dC (.int 0)))) (sSeq (sSet 3 (dOp oMod (dCB oInt (aCons (dOp oIx (dV 0) (dC (.int 0))) aNil)) (dV 1)))
  (sSeq (sSetIx (dV 0) (dC (.int 0)) (dOp oDiv (dOp oIx (dV 0) (dC (.int 0))) (dV 1)))
  (sRet (dV 3)))) sNil)
  (sSeq (sSetIx (dV 0) (dC (.int 2)) (dOp oMod (dCB oInt (aCons (dOp oAdd (dOp oMul (dOp oIx (dV 0) (dC (.int 2))) (dC (.int 48271))) (dC (.int 12347))) aNil)) (dC (.int 2147483629))))
  (sRet (dOp oMod (dCB oInt (aCons (dOp oAdd (dOp oDiv (dOp oIx (dV 0) (dC (.int 2))) (dC (.int 8))) (dOp oMul (dOp oDiv (dOp oIx (dV 0) (dC (.int 2))) (dC (.int 65536))) (dC (.int 131)))) aNil)) (dV 1))))))
noncomputable def F__law_draw : List D → Sto → Res D := fun ds S => fnRes (b__law_draw (startR 4 ds) S)
noncomputable def b__law_is : Dn := (sRet (dAnd (dCB oIsi (aCons (dV 0) (aCons (dC (.ty "bool")) aNil))) (dOp oEq (dV 0) (dV 1))))
noncomputable def F__law_is : List D → Sto → Res D := fun ds S => fnRes (b__law_is (startR 2 ds) S)
noncomputable def b__law_no_pairs : Dn := (sRet (dLst (aCons (dLst (aCons (dV 0) (aCons (dV 1) aNil))) (aCons (dTup (aCons (dV 0) aNil)) (aCons (dTup (aCons (dV 0) (aCons (dV 1) (aCons (dV 0) aNil)))) (aCons (dC .non) (aCons (dC (.str "ab")) (aCons (dTup aNil) (aCons (dC (.int 2)) (aCons (dLst (aCons (dTup (aCons (dV 0) (aCons (dV 1) aNil))) aNil)) (aCons (dC (.str "0 > 1")) aNil)))))))))))
noncomputable def F__law_no_pairs : List D → Sto → Res D := fun ds S => fnRes (b__law_no_pairs (startR 2 ds) S)
noncomputable def b_is_number : Dn := (sRet (dAnd (dCall 1 F_is_integer (aCons (dV 0) aNil)) (dOp (oCmp fun i j => decide (j ≤ i)) (dV 0) (dC (.int 0)))))
noncomputable def F_is_number : List D → Sto → Res D := fun ds S => fnRes (b_is_number (startR 1 ds) S)
noncomputable def b_is_whole : Dn := (sRet (dAnd (dCall 1 F_is_integer (aCons (dV 0) aNil)) (dOp (oCmp fun i j => decide (j ≤ i)) (dV 0) (dC (.int 1)))))
noncomputable def F_is_whole : List D → Sto → Res D := fun ds S => fnRes (b_is_whole (startR 1 ds) S)
noncomputable def b__law_number : Dn := (sSeq (sIf (dTst (dOp oEq (dCall 2 F__law_draw (aCons (dV 0) (aCons (dC (.int 8)) aNil))) (dC (.int 7)))) (sRet (dCall 2 F__law_draw (aCons (dV 0) (aCons (dC (.int 1000001)) aNil)))) sNil)
  (sRet (dCall 2 F__law_draw (aCons (dV 0) (aCons (dC (.int 7)) aNil)))))
noncomputable def F__law_number : List D → Sto → Res D := fun ds S => fnRes (b__law_number (startR 1 ds) S)
noncomputable def b__law_no_prices : Dn := (sSeq (sSet 2 (dOp oAdd (dC (.int 2)) (dCall 2 F__law_draw (aCons (dV 0) (aCons (dC (.int 4)) aNil)))))
  (sSeq (sSet 3 (dLst (aCons (dTup (aCons (dOp oMul (dOp oIx (dV 1) (dC (.int 0))) (dV 2)) (aCons (dOp oMul (dOp oIx (dV 1) (dC (.int 1))) (dV 2)) aNil))) (aCons (dTup (aCons (dOp oSub (dUn oNeg (dC (.int 1))) (dOp oIx (dV 1) (dC (.int 0)))) (aCons (dOp oIx (dV 1) (dC (.int 1))) aNil))) (aCons (dTup (aCons (dOp oIx (dV 1) (dC (.int 0))) (aCons (dUn oNeg (dOp oIx (dV 1) (dC (.int 1)))) aNil))) (aCons (dTup (aCons (dV 2) (aCons (dC (.int 0)) aNil))) (aCons (dTup (aCons (dC (.int 0)) (aCons (dC (.int 0)) aNil))) (aCons (dTup (aCons (dUn oNeg (dC (.int 1))) (aCons (dC (.int 0)) aNil))) aNil))))))))
  (sSeq (sSet 3 (dOp oAdd (dV 3) (dLst (aCons (dLst (aCons (dOp oIx (dV 1) (dC (.int 0))) (aCons (dOp oIx (dV 1) (dC (.int 1))) aNil))) (aCons (dTup (aCons (dOp oIx (dV 1) (dC (.int 0))) (aCons (dOp oIx (dV 1) (dC (.int 1))) (aCons (dC (.int 1)) aNil)))) (aCons (dTup (aCons (dOp oIx (dV 1) (dC (.int 0))) aNil)) (aCons (dTup aNil) (aCons (dC .non) (aCons (dOp oIx (dV 1) (dC (.int 0))) (aCons (dC (.str "1/2")) (aCons (dTup (aCons (dV 1) aNil)) (aCons (dTup (aCons (dV 1) (aCons (dV 1) aNil))) aNil))))))))))))
  (sSeq (sSet 3 (dOp oAdd (dV 3) (dLst (aCons (dLst (aCons (dC (.int 1)) (aCons (dC (.int 0)) aNil))) (aCons (dTup (aCons (dC (.int 1)) (aCons (dC (.int 0)) (aCons (dC (.int 0)) aNil)))) aNil)))))
  (sSeq (sSet 3 (dOp oAdd (dV 3) (dLst (aCons (dTup (aCons (dC (.bl true)) (aCons (dOp oIx (dV 1) (dC (.int 1))) aNil))) (aCons (dTup (aCons (dOp oIx (dV 1) (dC (.int 0))) (aCons (dC (.bl true)) aNil))) (aCons (dTup (aCons (dC (.bl true)) (aCons (dC (.int 0)) aNil))) (aCons (dTup (aCons (dC (.int 1)) (aCons (dC (.bl false)) aNil))) (aCons (dTup (aCons (dOp oIx (dV 1) (dC (.int 0))) (aCons (dCB oStr (aCons (dOp oIx (dV 1) (dC (.int 1))) aNil)) aNil))) (aCons (dTup (aCons (dC .non) (aCons (dOp oIx (dV 1) (dC (.int 1))) aNil))) aNil)))))))))
  (sRet (dV 3)))))))
noncomputable def F__law_no_prices : List D → Sto → Res D := fun ds S => fnRes (b__law_no_prices (startR 4 ds) S)
noncomputable def b__law_bad_numbers : Dn := (sSeq (sSet 2 (dCall 2 F__law_draw (aCons (dV 0) (aCons (dCB oLen (aCons (dV 1) aNil)) aNil))))
  (sSeq (sSet 3 (dLstM (aCons (dCB oList (aCons (dV 1) aNil)) (aCons (dOp oAdd (dV 1) (dTup (aCons (dC (.int 0)) aNil))) (aCons (dSl (dV 1) dNoP (dP (dOp oSub (dCB oLen (aCons (dV 1) aNil)) (dC (.int 1))))) (aCons (dC .non) (aCons (dOp oRepS (dC (.str "0")) (dCB oLen (aCons (dV 1) aNil))) (aCons (dC (.int 0)) (aCons (dOp oAdd (dTup (aCons (dV 1) aNil)) (dV 1)) aNil)))))))))
  (sSeq (sFor (dIt (dLst (aCons (dUn oNeg (dC (.int 1))) (aCons (dC (.bl true)) (aCons (dC (.bl false)) (aCons (dC .non) (aCons (dC (.str "1")) (aCons (dTup (aCons (dC (.int 0)) aNil)) (aCons (dLst (aCons (dC (.int 1)) aNil)) aNil))))))))) (.nm 4) (sExpr (dApp (dV 3) (dOp oAdd (dOp oAdd (dSl (dV 1) dNoP (dP (dV 2))) (dTup (aCons (dV 4) aNil))) (dSl (dV 1) (dP (dOp oAdd (dV 2) (dC (.int 1)))) dNoP)))))
  (sRet (dV 3)))))
noncomputable def F__law_bad_numbers : List D → Sto → Res D := fun ds S => cutRes S.length (fnRes (b__law_bad_numbers (startR 5 ds) S))
noncomputable def b_is_price : Dn := (sSeq (sIf (dNotT (dAndT (dTru (dCB oIsi (aCons (dV 0) (aCons (dC (.ty "tuple")) aNil)))) (dTst (dOp oEq (dCB oLen (aCons (dV 0) aNil)) (dC (.int 2)))))) (sRet (dC (.bl false))) sNil)
  (sSeq (sAsg (.tp [(.nm 1), (.nm 2)]) (dV 0))
  (sRet (dAnd (dCall 1 F_is_number (aCons (dV 1) aNil)) (dAnd (dCall 1 F_is_number (aCons (dV 2) aNil)) (dOp oEq (dCB (oI2 gcdI) (aCons (dV 1) (aCons (dV 2) aNil))) (dC (.int 1))))))))
noncomputable def F_is_price : List D → Sto → Res D := fun ds S => fnRes (b_is_price (startR 3 ds) S)
noncomputable def b_is_ascending : Dn := (sSeq (sIf (dNotT (dAndT (dTru (dCB oIsi (aCons (dV 0) (aCons (dC (.ty "tuple")) aNil)))) (dTru (dCB (oBools fun bs => bs.all id) (aCons (dLc finI (dIt (dV 0)) (.nm 3) dYes (dCall 1 F_is_number (aCons (dV 3) aNil)) [3]) aNil))))) (sRet (dC (.bl false))) sNil)
  (sRet (dCB (oBools fun bs => bs.all id) (aCons (dLc finI (dZip (aCons (dV 0) (aCons (dSl (dV 0) (dP (dC (.int 1))) dNoP) aNil))) (.tp [(.nm 1), (.nm 2)]) dYes (dOp (oCmp fun i j => decide (i < j)) (dV 1) (dV 2)) [1, 2]) aNil))))
noncomputable def F_is_ascending : List D → Sto → Res D := fun ds S => fnRes (b_is_ascending (startR 4 ds) S)
noncomputable def b_is_numbers : Dn := (sRet (dAnd (dCB oIsi (aCons (dV 1) (aCons (dC (.ty "tuple")) aNil))) (dAnd (dOp oEq (dCB oLen (aCons (dV 1) aNil)) (dV 0)) (dCB (oBools fun bs => bs.all id) (aCons (dLc finI (dIt (dV 1)) (.nm 2) dYes (dCall 1 F_is_number (aCons (dV 2) aNil)) [2]) aNil)))))
noncomputable def F_is_numbers : List D → Sto → Res D := fun ds S => fnRes (b_is_numbers (startR 3 ds) S)
noncomputable def b__law_numbers : Dn := (sSeq (sSet 2 (dLstM aNil))
  (sSeq (sFor (dRng1 (aCons (dV 1) aNil)) (.nm 3) (sIf (dTst (dOp oEq (dCall 2 F__law_draw (aCons (dV 0) (aCons (dC (.int 16)) aNil))) (dC (.int 15)))) (sExpr (dApp (dV 2) (dOp oIx (dLst (aCons (dC (.int 1000001)) (aCons (dOp oPow (dC (.int 10)) (dC (.int 50))) (aCons (dOp oPow (dC (.int 10)) (dC (.int 59))) aNil)))) (dCall 2 F__law_draw (aCons (dV 0) (aCons (dC (.int 3)) aNil)))))) (sExpr (dApp (dV 2) (dCall 1 F__law_number (aCons (dV 0) aNil))))))
  (sRet (dCB oTuple (aCons (dV 2) aNil)))))
noncomputable def F__law_numbers : List D → Sto → Res D := fun ds S => cutRes S.length (fnRes (b__law_numbers (startR 4 ds) S))
noncomputable def b__law_coprime : Dn := (sSeq (sSet 1 (dCall 1 F__law_number (aCons (dV 0) aNil)))
  (sSeq (sSet 2 (dC (.int 1)))
  (sSeq (sFor (dRng1 (aCons (dCall 2 F__law_draw (aCons (dV 0) (aCons (dC (.int 3)) aNil))) aNil)) (.nm 3) (sPar 1 2 (dV 2) (dOp oAdd (dV 1) (dOp oMul (dOp oAdd (dC (.int 1)) (dCall 2 F__law_draw (aCons (dV 0) (aCons (dC (.int 5)) aNil)))) (dV 2)))))
  (sRet (dTup (aCons (dV 1) (aCons (dV 2) aNil)))))))
noncomputable def F__law_coprime : List D → Sto → Res D := fun ds S => fnRes (b__law_coprime (startR 4 ds) S)
noncomputable def b__law_spoilt : Dn := (sSeq (sSet 3 (dLc finM (dIt (dV 2)) (.nm 14) dYes (dLstM (aCons (dOp oIx (dV 14) (dC (.int 0))) (aCons (dOp oIx (dV 14) (dC (.int 1))) aNil))) [14]))
  (sSeq (sSet 4 (dLstM aNil))
  (sSeq (sFor (dRng1 (aCons (dC (.int 2)) aNil)) (.nm 5) (sSeq (sSet 6 (dCall 2 F__law_draw (aCons (dV 0) (aCons (dOp oAdd (dCB oLen (aCons (dV 2) aNil)) (dC (.int 1))) aNil))))
  (sIf (dTst (dOp (oCmp fun i j => decide (i < j)) (dV 6) (dCB oLen (aCons (dV 2) aNil)))) (sSeq (sSet 7 (dCall 2 F__law_draw (aCons (dV 0) (aCons (dC (.int 2)) aNil))))
  (sSeq (sSet 8 (dCall 2 F__law_bad_numbers (aCons (dV 0) (aCons (dOp oIx (dOp oIx (dV 2) (dV 6)) (dV 7)) aNil))))
  (sSeq (sSetIx (dOp oIx (dV 3) (dV 6)) (dV 7) (dOp oIx (dV 8) (dCall 2 F__law_draw (aCons (dV 0) (aCons (dCB oLen (aCons (dV 8) aNil)) aNil)))))
  (sExpr (dApp (dV 4) (dTup (aCons (dV 6) (aCons (dOp oAdd (dC (.int 1)) (dV 7)) aNil)))))))) sNil)))
  (sSeq (sSet 9 (dLc finM (dIt (dV 3)) (.nm 15) dYes (dTup (aCons (dOp oIx (dV 15) (dC (.int 0))) (aCons (dOp oIx (dV 15) (dC (.int 1))) aNil))) [15]))
  (sSeq (sIf (dAndT (dTst (dOp (oCmp fun i j => decide (j < i)) (dCB oLen (aCons (dV 2) aNil)) (dC (.int 0)))) (dTst (dOp oEq (dCall 2 F__law_draw (aCons (dV 0) (aCons (dC (.int 4)) aNil))) (dC (.int 0))))) (sSeq (sSet 6 (dCall 2 F__law_draw (aCons (dV 0) (aCons (dCB oLen (aCons (dV 2) aNil)) aNil))))
  (sSeq (sSet 8 (dCall 2 F__law_no_pairs (aCons (dOp oIx (dOp oIx (dV 3) (dV 6)) (dC (.int 0))) (aCons (dOp oIx (dOp oIx (dV 3) (dV 6)) (dC (.int 1))) aNil))))
  (sSeq (sSetIx (dV 9) (dV 6) (dOp oIx (dV 8) (dCall 2 F__law_draw (aCons (dV 0) (aCons (dCB oLen (aCons (dV 8) aNil)) aNil)))))
  (sExpr (dApp (dV 4) (dTup (aCons (dV 6) (aCons (dC (.int 0)) aNil)))))))) sNil)
  (sSeq (sSet 10 (dTup (aCons (dC (.str "told")) (aCons (dCB oLen (aCons (dV 2) aNil)) aNil))))
  (sSeq (sIf (dTst (dOp (oCmp fun i j => decide (j < i)) (dCB oLen (aCons (dV 4) aNil)) (dC (.int 0)))) (sSeq (sSet 11 (dCB oMinP (aCons (dV 4) aNil)))
  (sSet 10 (dTup (aCons (dC (.str "refused")) (aCons (dOp oIx (dLst (aCons (dC (.str "shape")) (aCons (dC (.str "take")) (aCons (dC (.str "give")) aNil)))) (dOp oIx (dV 11) (dC (.int 1)))) (aCons (dOp oIx (dV 11) (dC (.int 0))) aNil)))))) sNil)
  (sSeq (sSet 12 (dCB oTuple (aCons (dV 9) aNil)))
  (sSeq (sIf (dTst (dOp oEq (dCall 2 F__law_draw (aCons (dV 0) (aCons (dC (.int 5)) aNil))) (dC (.int 0)))) (sSeq (sSet 12 (dOp oIx (dLst (aCons (dCB oList (aCons (dV 9) aNil)) (aCons (dC .non) (aCons (dC (.int 0)) (aCons (dC (.str "")) (aCons (dLst aNil) (aCons (dC (.str "ab")) aNil))))))) (dCall 2 F__law_draw (aCons (dV 0) (aCons (dC (.int 6)) aNil)))))
  (sSet 10 (dTup (aCons (dC (.str "refused")) (aCons (dC (.str "deeds")) (aCons (dUn oNeg (dC (.int 1))) aNil)))))) sNil)
  (sSeq (sIf (dTst (dOp oEq (dCall 2 F__law_draw (aCons (dV 0) (aCons (dC (.int 5)) aNil))) (dC (.int 0)))) (sSeq (sSet 1 (dOp oIx (dLst (aCons (dC (.bl true)) (aCons (dC (.bl false)) (aCons (dC (.int 0)) (aCons (dUn oNeg (dV 1)) (aCons (dC .non) (aCons (dC (.str "3")) (aCons (dTup (aCons (dV 1) aNil)) (aCons (dLst (aCons (dV 1) aNil)) (aCons (dUn oNeg (dOp oPow (dC (.int 10)) (dC (.int 59)))) aNil)))))))))) (dCall 2 F__law_draw (aCons (dV 0) (aCons (dC (.int 9)) aNil)))))
  (sSet 10 (dTup (aCons (dC (.str "refused")) (aCons (dC (.str "size")) (aCons (dUn oNeg (dC (.int 1))) aNil)))))) sNil)
  (sSeq (sSet 13 (dTup (aCons (dV 1) (aCons (dV 12) aNil))))
  (sSeq (sIf (dTst (dOp oEq (dCall 2 F__law_draw (aCons (dV 0) (aCons (dC (.int 5)) aNil))) (dC (.int 0)))) (sSeq (sSet 8 (dCall 2 F__law_no_pairs (aCons (dV 1) (aCons (dV 12) aNil))))
  (sSeq (sSet 13 (dOp oIx (dV 8) (dCall 2 F__law_draw (aCons (dV 0) (aCons (dCB oLen (aCons (dV 8) aNil)) aNil)))))
  (sSet 10 (dTup (aCons (dC (.str "refused")) (aCons (dC (.str "shape")) (aCons (dUn oNeg (dC (.int 1))) aNil))))))) sNil)
  (sRet (dTup (aCons (dV 13) (aCons (dCB oRepr (aCons (dV 10) aNil)) aNil))))))))))))))))
noncomputable def F__law_spoilt : List D → Sto → Res D := fun ds S => cutRes S.length (fnRes (b__law_spoilt (startR 16 ds) S))
noncomputable def b_is_quotient : Dn := (sRet (dAnd (dCall 1 F_is_price (aCons (dV 0) aNil)) (dOp (oCmp fun i j => decide (j < i)) (dOp oIx (dV 0) (dC (.int 1))) (dC (.int 0)))))
noncomputable def F_is_quotient : List D → Sto → Res D := fun ds S => fnRes (b_is_quotient (startR 1 ds) S)
noncomputable def b_is_row : Dn := (sRet (dAnd (dCB oIsi (aCons (dV 1) (aCons (dC (.ty "tuple")) aNil))) (dAnd (dOp oEq (dCB oLen (aCons (dV 1) aNil)) (dV 0)) (dCB (oBools fun bs => bs.all id) (aCons (dLc finI (dIt (dV 1)) (.nm 2) dYes (dCall 1 F_is_price (aCons (dV 2) aNil)) [2]) aNil)))))
noncomputable def F_is_row : List D → Sto → Res D := fun ds S => fnRes (b_is_row (startR 3 ds) S)
noncomputable def b_is_lot : Dn := (sRet (dAnd (dCall 1 F_is_ascending (aCons (dV 1) aNil)) (dOr (dOp oEq (dV 1) (dTup aNil)) (dOp (oCmp fun i j => decide (i < j)) (dOp oIx (dV 1) (dUn oNeg (dC (.int 1)))) (dV 0)))))
noncomputable def F_is_lot : List D → Sto → Res D := fun ds S => fnRes (b_is_lot (startR 2 ds) S)
noncomputable def b_is_deed : Dn := (sRet (dAnd (dCall 1 F_is_pair (aCons (dV 1) aNil)) (dAnd (dCall 2 F_is_numbers (aCons (dV 0) (aCons (dOp oIx (dV 1) (dC (.int 0))) aNil))) (dCall 2 F_is_numbers (aCons (dV 0) (aCons (dOp oIx (dV 1) (dC (.int 1))) aNil))))))
noncomputable def F_is_deed : List D → Sto → Res D := fun ds S => fnRes (b_is_deed (startR 2 ds) S)
noncomputable def b_check_deed : Dn := (sSeq (sIf (dNotT (dTru (dCall 1 F_is_pair (aCons (dV 1) aNil)))) (sRaise "InvalidPaper" ["word", "at"] (aCons (dC (.str "shape")) (aCons (dV 2) aNil))) sNil)
  (sSeq (sIf (dNotT (dTru (dCall 2 F_is_numbers (aCons (dV 0) (aCons (dOp oIx (dV 1) (dC (.int 0))) aNil))))) (sRaise "InvalidPaper" ["word", "at"] (aCons (dC (.str "take")) (aCons (dV 2) aNil))) sNil)
  (sIf (dNotT (dTru (dCall 2 F_is_numbers (aCons (dV 0) (aCons (dOp oIx (dV 1) (dC (.int 1))) aNil))))) (sRaise "InvalidPaper" ["word", "at"] (aCons (dC (.str "give")) (aCons (dV 2) aNil))) sNil)))
noncomputable def F_check_deed : List D → Sto → Res D := fun ds S => fnRes (b_check_deed (startR 3 ds) S)
noncomputable def b_is_fill : Dn := (sRet (dAnd (dCB oIsi (aCons (dV 1) (aCons (dC (.ty "tuple")) aNil))) (dAnd (dOp oEq (dCB oLen (aCons (dV 1) aNil)) (dV 0)) (dCB (oBools fun bs => bs.all id) (aCons (dLc finI (dIt (dV 1)) (.nm 2) dYes (dCall 1 F_is_quotient (aCons (dV 2) aNil)) [2]) aNil)))))
noncomputable def F_is_fill : List D → Sto → Res D := fun ds S => fnRes (b_is_fill (startR 3 ds) S)
noncomputable def b_lets_book : Dn := (sSeq (sIf (dNotT (dTru (dCall 1 F_is_pair (aCons (dV 0) aNil)))) (sRaise "InvalidPaper" ["word", "at"] (aCons (dC (.str "shape")) (aCons (dUn oNeg (dC (.int 1))) aNil))) sNil)
  (sSeq (sAsg (.tp [(.nm 1), (.nm 2)]) (dV 0))
  (sSeq (sIf (dNotT (dTru (dCall 1 F_is_whole (aCons (dV 1) aNil)))) (sRaise "InvalidPaper" ["word", "at"] (aCons (dC (.str "size")) (aCons (dUn oNeg (dC (.int 1))) aNil))) sNil)
  (sSeq (sIf (dNotT (dTru (dCB oIsi (aCons (dV 2) (aCons (dC (.ty "tuple")) aNil))))) (sRaise "InvalidPaper" ["word", "at"] (aCons (dC (.str "deeds")) (aCons (dUn oNeg (dC (.int 1))) aNil))) sNil)
  (sSeq (sFor (dEnumT (aCons (dV 2) aNil)) (.tp [(.nm 3), (.nm 4)]) (sExpr (dCall 3 F_check_deed (aCons (dV 1) (aCons (dV 4) (aCons (dV 3) aNil))))))
  (sRet (dCB oLen (aCons (dV 2) aNil))))))))
noncomputable def F_lets_book : List D → Sto → Res D := fun ds S => fnRes (b_lets_book (startR 5 ds) S)
noncomputable def b_is_book : Dn := (sSeq (sIf (dNotT (dAndT (dTru (dCall 1 F_is_pair (aCons (dV 0) aNil))) (dAndT (dTru (dCall 1 F_is_whole (aCons (dOp oIx (dV 0) (dC (.int 0))) aNil))) (dTru (dCB oIsi (aCons (dOp oIx (dV 0) (dC (.int 1))) (aCons (dC (.ty "tuple")) aNil))))))) (sRet (dC (.bl false))) sNil)
  (sRet (dCB (oBools fun bs => bs.all id) (aCons (dLc finI (dIt (dOp oIx (dV 0) (dC (.int 1)))) (.nm 1) dYes (dCall 2 F_is_deed (aCons (dOp oIx (dV 0) (dC (.int 0))) (aCons (dV 1) aNil))) [1]) aNil))))
noncomputable def F_is_book : List D → Sto → Res D := fun ds S => fnRes (b_is_book (startR 2 ds) S)
noncomputable def b__law_integers_hold : Dn := (sSeq (sSet 1 (dCall 1 F__law_number (aCons (dV 0) aNil)))
  (sSeq (sSet 2 (dOp oAdd (dOp oPow (dC (.int 10)) (dC (.int 59))) (dV 1)))
  (sSeq (sSet 3 (dLst (aCons (dV 1) (aCons (dC (.int 0)) (aCons (dC (.int 1)) (aCons (dV 2) aNil))))))
  (sSeq (sFor (dIt (dV 3)) (.nm 4) (sSeq (sIf (dNotT (dAndT (dTru (dCall 2 F__law_is (aCons (dCall 1 F_is_integer (aCons (dV 4) aNil)) (aCons (dC (.bl true)) aNil)))) (dTru (dCall 2 F__law_is (aCons (dCallK 0 1 [0] F_is_number aNil (aCons (dV 4) aNil)) (aCons (dC (.bl true)) aNil)))))) (sRet (dC (.bl false))) sNil)
  (sIf (dNotT (dAndT (dTru (dCall 2 F__law_is (aCons (dCallK 0 1 [0] F_is_integer aNil (aCons (dOp oSub (dUn oNeg (dC (.int 1))) (dV 4)) aNil)) (aCons (dC (.bl true)) aNil)))) (dTru (dCall 2 F__law_is (aCons (dCall 1 F_is_number (aCons (dOp oSub (dUn oNeg (dC (.int 1))) (dV 4)) aNil)) (aCons (dC (.bl false)) aNil)))))) (sRet (dC (.bl false))) sNil)))
  (sSeq (sFor (dIt (dLst (aCons (dC (.bl true)) (aCons (dC (.bl false)) (aCons (dC .non) (aCons (dC (.str "")) (aCons (dC (.str "1")) (aCons (dCB oStr (aCons (dV 1) aNil)) (aCons (dTup aNil) (aCons (dTup (aCons (dV 1) aNil)) (aCons (dLst (aCons (dV 1) aNil)) (aCons (dLst aNil) (aCons (dTup (aCons (dTup aNil) aNil)) aNil))))))))))))) (.nm 5) (sSeq (sIf (dNotT (dAndT (dTru (dCall 2 F__law_is (aCons (dCall 1 F_is_integer (aCons (dV 5) aNil)) (aCons (dC (.bl false)) aNil)))) (dTru (dCall 2 F__law_is (aCons (dCall 1 F_is_number (aCons (dV 5) aNil)) (aCons (dC (.bl false)) aNil)))))) (sRet (dC (.bl false))) sNil)
  (sIf (dNotT (dAndT (dTru (dCall 2 F__law_is (aCons (dCall 1 F_is_quotient (aCons (dV 5) aNil)) (aCons (dC (.bl false)) aNil)))) (dTru (dCall 2 F__law_is (aCons (dCall 1 F_is_price (aCons (dV 5) aNil)) (aCons (dC (.bl false)) aNil)))))) (sRet (dC (.bl false))) sNil)))
  (sRet (dC (.bl true))))))))
noncomputable def F__law_integers_hold : List D → Sto → Res D := fun ds S => fnRes (b__law_integers_hold (startR 6 ds) S)
noncomputable def b__law_lots_hold : Dn := (sSeq (sSet 1 (dCall 2 F__law_draw (aCons (dV 0) (aCons (dC (.int 20)) aNil))))
  (sSeq (sSet 2 (dCB oTuple (aCons (dLc finI (dRng1 (aCons (dV 1) aNil)) (.nm 7) (dTst (dOp (oCmp fun i j => decide (j < i)) (dCall 2 F__law_draw (aCons (dV 0) (aCons (dC (.int 3)) aNil))) (dC (.int 0)))) (dV 7) [7]) aNil)))
  (sSeq (sIf (dNotT (dAndT (dTru (dCall 2 F__law_is (aCons (dCall 2 F_is_lot (aCons (dV 1) (aCons (dV 2) aNil))) (aCons (dC (.bl true)) aNil)))) (dTru (dCall 2 F__law_is (aCons (dCallK 0 2 [1, 0] F_is_lot aNil (aCons (dV 2) (aCons (dOp oAdd (dV 1) (dC (.int 1))) aNil))) (aCons (dC (.bl true)) aNil)))))) (sRet (dC (.bl false))) sNil)
  (sSeq (sSet 3 (dLst (aCons (dOp oAdd (dV 2) (dTup (aCons (dV 1) aNil))) (aCons (dOp oAdd (dTup (aCons (dUn oNeg (dC (.int 1))) aNil)) (dV 2)) (aCons (dCB oList (aCons (dV 2) aNil)) (aCons (dOp oAdd (dTup (aCons (dC .non) aNil)) (dV 2)) (aCons (dOp oAdd (dV 2) (dTup (aCons (dC (.str "1")) aNil))) (aCons (dTup (aCons (dC (.bl false)) aNil)) (aCons (dTup (aCons (dC (.int 0)) (aCons (dC (.bl true)) aNil))) (aCons (dTup (aCons (dC (.bl false)) (aCons (dC (.int 1)) aNil))) (aCons (dTup (aCons (dTup aNil) aNil)) aNil)))))))))))
  (sSeq (sSet 3 (dOp oAdd (dV 3) (dLst (aCons (dC .non) (aCons (dC (.int 0)) (aCons (dC (.str "")) (aCons (dC (.str "01")) (aCons (dOp oAdd (dV 2) (dTup (aCons (dOp oPow (dC (.int 10)) (dC (.int 59))) aNil))) aNil))))))))
  (sSeq (sIf (dTst (dOp (oCmp fun i j => decide (j < i)) (dCB oLen (aCons (dV 2) aNil)) (dC (.int 0)))) (sSeq (sSet 4 (dOp oIx (dV 2) (dOp oSub (dCB oLen (aCons (dV 2) aNil)) (dC (.int 1)))))
  (sSeq (sSet 5 (dCall 2 F__law_draw (aCons (dV 0) (aCons (dCB oLen (aCons (dV 2) aNil)) aNil))))
  (sSeq (sIf (dNotT (dAndT (dTru (dCall 2 F__law_is (aCons (dCall 2 F_is_lot (aCons (dOp oAdd (dV 4) (dC (.int 1))) (aCons (dV 2) aNil))) (aCons (dC (.bl true)) aNil)))) (dTru (dCall 2 F__law_is (aCons (dCall 2 F_is_lot (aCons (dV 4) (aCons (dV 2) aNil))) (aCons (dC (.bl false)) aNil)))))) (sRet (dC (.bl false))) sNil)
  (sSet 3 (dOp oAdd (dV 3) (dLst (aCons (dOp oAdd (dSl (dV 2) dNoP (dP (dOp oAdd (dV 5) (dC (.int 1))))) (dSl (dV 2) (dP (dV 5)) dNoP)) (aCons (dOp oAdd (dOp oAdd (dSl (dV 2) dNoP (dP (dV 5))) (dTup (aCons (dCB oBool (aCons (dV 5) aNil)) aNil))) (dSl (dV 2) (dP (dOp oAdd (dV 5) (dC (.int 1)))) dNoP)) (aCons (dOp oIx (dV 2) (dV 5)) (aCons (dLst (aCons (dOp oIx (dV 2) (dV 5)) aNil)) (aCons (dTup (aCons (dV 2) aNil)) aNil))))))))))) sNil)
  (sSeq (sIf (dTst (dOp (oCmp fun i j => decide (j < i)) (dCB oLen (aCons (dV 2) aNil)) (dC (.int 1)))) (sSeq (sSet 5 (dCall 2 F__law_draw (aCons (dV 0) (aCons (dOp oSub (dCB oLen (aCons (dV 2) aNil)) (dC (.int 1))) aNil))))
  (sSet 3 (dOp oAdd (dV 3) (dLst (aCons (dOp oAdd (dOp oAdd (dSl (dV 2) dNoP (dP (dV 5))) (dTup (aCons (dOp oIx (dV 2) (dOp oAdd (dV 5) (dC (.int 1)))) (aCons (dOp oIx (dV 2) (dV 5)) aNil)))) (dSl (dV 2) (dP (dOp oAdd (dV 5) (dC (.int 2)))) dNoP)) (aCons (dOp oAdd (dSl (dV 2) (dP (dC (.int 1))) dNoP) (dSl (dV 2) dNoP (dP (dC (.int 1))))) aNil)))))) sNil)
  (sSeq (sFor (dIt (dV 3)) (.nm 6) (sIf (dNotT (dTru (dCall 2 F__law_is (aCons (dCall 2 F_is_lot (aCons (dV 1) (aCons (dV 6) aNil))) (aCons (dC (.bl false)) aNil))))) (sRet (dC (.bl false))) sNil))
  (sRet (dAnd (dCall 2 F__law_is (aCons (dCall 2 F_is_lot (aCons (dC (.int 0)) (aCons (dTup aNil) aNil))) (aCons (dC (.bl true)) aNil))) (dAnd (dCall 2 F__law_is (aCons (dCall 2 F_is_lot (aCons (dC (.int 0)) (aCons (dTup (aCons (dC (.int 0)) aNil)) aNil))) (aCons (dC (.bl false)) aNil))) (dCall 2 F__law_is (aCons (dCall 2 F_is_lot (aCons (dC (.int 20)) (aCons (dTup aNil) aNil))) (aCons (dC (.bl true)) aNil))))))))))))))
noncomputable def F__law_lots_hold : List D → Sto → Res D := fun ds S => fnRes (b__law_lots_hold (startR 8 ds) S)
noncomputable def b__law_deeds_hold : Dn := (sSeq (sSet 1 (dOp oAdd (dC (.int 1)) (dCall 2 F__law_draw (aCons (dV 0) (aCons (dC (.int 6)) aNil)))))
  (sSeq (sSet 2 (dCall 2 F__law_numbers (aCons (dV 0) (aCons (dV 1) aNil))))
  (sSeq (sSet 3 (dCall 2 F__law_numbers (aCons (dV 0) (aCons (dV 1) aNil))))
  (sSeq (sIf (dNotT (dAndT (dTru (dCall 2 F__law_is (aCons (dCall 2 F_is_deed (aCons (dV 1) (aCons (dTup (aCons (dV 2) (aCons (dV 3) aNil))) aNil))) (aCons (dC (.bl true)) aNil)))) (dTru (dCall 2 F__law_is (aCons (dCall 2 F_is_deed (aCons (dOp oAdd (dV 1) (dC (.int 1))) (aCons (dTup (aCons (dV 2) (aCons (dV 3) aNil))) aNil))) (aCons (dC (.bl false)) aNil)))))) (sRet (dC (.bl false))) sNil)
  (sSeq (sSet 4 (dCB oTuple (aCons (dLc finI (dRng1 (aCons (dV 1) aNil)) (.nm 6) dYes (dC (.int 0)) [6]) aNil)))
  (sSeq (sIf (dNotT (dAndT (dTru (dCall 2 F__law_is (aCons (dCallK 0 2 [0, 1] F_is_deed aNil (aCons (dV 1) (aCons (dTup (aCons (dV 4) (aCons (dV 4) aNil))) aNil))) (aCons (dC (.bl true)) aNil)))) (dTru (dCall 2 F__law_is (aCons (dCall 2 F_is_deed (aCons (dV 1) (aCons (dV 4) aNil))) (aCons (dC (.bl false)) aNil)))))) (sRet (dC (.bl false))) sNil)
  (sSeq (sFor (dIt (dCall 2 F__law_bad_numbers (aCons (dV 0) (aCons (dV 2) aNil)))) (.nm 5) (sIf (dNotT (dAndT (dTru (dCall 2 F__law_is (aCons (dCall 2 F_is_deed (aCons (dV 1) (aCons (dTup (aCons (dV 5) (aCons (dV 3) aNil))) aNil))) (aCons (dC (.bl false)) aNil)))) (dTru (dCall 2 F__law_is (aCons (dCall 2 F_is_deed (aCons (dV 1) (aCons (dTup (aCons (dV 2) (aCons (dV 5) aNil))) aNil))) (aCons (dC (.bl false)) aNil)))))) (sRet (dC (.bl false))) sNil))
  (sSeq (sFor (dIt (dCall 2 F__law_no_pairs (aCons (dV 2) (aCons (dV 3) aNil)))) (.nm 5) (sIf (dNotT (dTru (dCall 2 F__law_is (aCons (dCallK 0 2 [1, 0] F_is_deed aNil (aCons (dV 5) (aCons (dV 1) aNil))) (aCons (dC (.bl false)) aNil))))) (sRet (dC (.bl false))) sNil))
  (sRet (dC (.bl true)))))))))))
noncomputable def F__law_deeds_hold : List D → Sto → Res D := fun ds S => fnRes (b__law_deeds_hold (startR 7 ds) S)
noncomputable def b__law_quotients_hold : Dn := (sSeq (sFor (dRng1 (aCons (dC (.int 3)) aNil)) (.nm 1) (sSeq (sSet 2 (dCall 1 F__law_coprime (aCons (dV 0) aNil)))
  (sSeq (sIf (dNotT (dAndT (dTru (dCall 2 F__law_is (aCons (dCall 1 F_is_quotient (aCons (dV 2) aNil)) (aCons (dC (.bl true)) aNil)))) (dTru (dCall 2 F__law_is (aCons (dCallK 0 1 [0] F_is_price aNil (aCons (dV 2) aNil)) (aCons (dC (.bl true)) aNil)))))) (sRet (dC (.bl false))) sNil)
  (sFor (dIt (dCall 2 F__law_no_prices (aCons (dV 0) (aCons (dV 2) aNil)))) (.nm 3) (sIf (dNotT (dAndT (dTru (dCall 2 F__law_is (aCons (dCallK 0 1 [0] F_is_quotient aNil (aCons (dV 3) aNil)) (aCons (dC (.bl false)) aNil)))) (dTru (dCall 2 F__law_is (aCons (dCall 1 F_is_price (aCons (dV 3) aNil)) (aCons (dC (.bl false)) aNil)))))) (sRet (dC (.bl false))) sNil)))))
  (sSeq (sSet 4 (dC (.int 1)))
  (sSeq (sSet 5 (dC (.int 1)))
  (sSeq (sFor (dRng1 (aCons (dOp oAdd (dC (.int 200)) (dCall 2 F__law_draw (aCons (dV 0) (aCons (dC (.int 80)) aNil)))) aNil)) (.nm 1) (sPar 4 5 (dV 5) (dOp oAdd (dV 4) (dV 5))))
  (sSeq (sIf (dNotT (dAndT (dTru (dCall 2 F__law_is (aCons (dCall 1 F_is_quotient (aCons (dTup (aCons (dV 4) (aCons (dV 5) aNil))) aNil)) (aCons (dC (.bl true)) aNil)))) (dTru (dCall 2 F__law_is (aCons (dCall 1 F_is_price (aCons (dTup (aCons (dV 5) (aCons (dV 4) aNil))) aNil)) (aCons (dC (.bl true)) aNil)))))) (sRet (dC (.bl false))) sNil)
  (sSeq (sIf (dNotT (dAndT (dTru (dCall 2 F__law_is (aCons (dCall 1 F_is_quotient (aCons (dTup (aCons (dOp oMul (dC (.int 2)) (dV 4)) (aCons (dOp oMul (dC (.int 2)) (dV 5)) aNil))) aNil)) (aCons (dC (.bl false)) aNil)))) (dTru (dCall 2 F__law_is (aCons (dCall 2 F_is_fill (aCons (dC (.int 1)) (aCons (dTup (aCons (dTup (aCons (dV 4) (aCons (dV 5) aNil))) aNil)) aNil))) (aCons (dC (.bl true)) aNil)))))) (sRet (dC (.bl false))) sNil)
  (sSeq (sIf (dNotT (dAndT (dTru (dCall 2 F__law_is (aCons (dCall 1 F_is_quotient (aCons (dTup (aCons (dC (.int 0)) (aCons (dC (.int 1)) aNil))) aNil)) (aCons (dC (.bl true)) aNil)))) (dTru (dCall 2 F__law_is (aCons (dCall 1 F_is_price (aCons (dTup (aCons (dC (.int 0)) (aCons (dC (.int 1)) aNil))) aNil)) (aCons (dC (.bl true)) aNil)))))) (sRet (dC (.bl false))) sNil)
  (sRet (dAnd (dCall 2 F__law_is (aCons (dCall 1 F_is_quotient (aCons (dTup (aCons (dC (.int 1)) (aCons (dC (.int 0)) aNil))) aNil)) (aCons (dC (.bl false)) aNil))) (dCall 2 F__law_is (aCons (dCall 1 F_is_price (aCons (dTup (aCons (dC (.int 1)) (aCons (dC (.int 0)) aNil))) aNil)) (aCons (dC (.bl true)) aNil))))))))))))
noncomputable def F__law_quotients_hold : List D → Sto → Res D := fun ds S => fnRes (b__law_quotients_hold (startR 6 ds) S)
noncomputable def b__law_rows_hold : Dn := (sSeq (sSet 1 (dCall 2 F__law_draw (aCons (dV 0) (aCons (dC (.int 7)) aNil))))
  (sSeq (sIf (dTst (dOp oEq (dCall 2 F__law_draw (aCons (dV 0) (aCons (dC (.int 8)) aNil))) (dC (.int 5)))) (sSet 1 (dOp oAdd (dC (.int 17)) (dCall 2 F__law_draw (aCons (dV 0) (aCons (dC (.int 3)) aNil))))) sNil)
  (sSeq (sSet 2 (dCB oTuple (aCons (dLc finI (dRng1 (aCons (dV 1) aNil)) (.nm 9) dYes (dCall 1 F__law_coprime (aCons (dV 0) aNil)) [9]) aNil)))
  (sSeq (sIf (dNotT (dAndT (dTru (dCall 2 F__law_is (aCons (dCall 2 F_is_fill (aCons (dV 1) (aCons (dV 2) aNil))) (aCons (dC (.bl true)) aNil)))) (dTru (dCall 2 F__law_is (aCons (dCallK 0 2 [0, 1] F_is_row aNil (aCons (dV 1) (aCons (dV 2) aNil))) (aCons (dC (.bl true)) aNil)))))) (sRet (dC (.bl false))) sNil)
  (sSeq (sFor (dIt (dLst (aCons (dOp oAdd (dV 1) (dC (.int 1))) (aCons (dCB (oI2 fun i j => if j > i then j else i) (aCons (dC (.int 0)) (aCons (dOp oSub (dV 1) (dC (.int 1))) aNil))) (aCons (dC (.int 0)) aNil))))) (.nm 3) (sIf (dNotT (dAndT (dTru (dCall 2 F__law_is (aCons (dCall 2 F_is_fill (aCons (dV 3) (aCons (dV 2) aNil))) (aCons (dOp oEq (dV 3) (dV 1)) aNil)))) (dTru (dCall 2 F__law_is (aCons (dCall 2 F_is_row (aCons (dV 3) (aCons (dV 2) aNil))) (aCons (dOp oEq (dV 3) (dV 1)) aNil)))))) (sRet (dC (.bl false))) sNil))
  (sSeq (sSet 4 (dCB oTuple (aCons (dLc finI (dRng1 (aCons (dV 1) aNil)) (.nm 9) dYes (dTup (aCons (dC (.int 1)) (aCons (dC (.int 0)) aNil))) [9]) aNil)))
  (sSeq (sIf (dNotT (dAndT (dTru (dCall 2 F__law_is (aCons (dCall 2 F_is_row (aCons (dV 1) (aCons (dV 4) aNil))) (aCons (dC (.bl true)) aNil)))) (dTru (dCall 2 F__law_is (aCons (dCall 2 F_is_fill (aCons (dV 1) (aCons (dV 4) aNil))) (aCons (dOp oEq (dV 1) (dC (.int 0))) aNil)))))) (sRet (dC (.bl false))) sNil)
  (sSeq (sFor (dIt (dLst (aCons (dCB oList (aCons (dV 2) aNil)) (aCons (dC .non) (aCons (dC (.str "-")) (aCons (dV 1) (aCons (dTup (aCons (dV 2) aNil)) (aCons (dOp oAdd (dV 2) (dTup (aCons (dC .non) aNil))) aNil)))))))) (.nm 5) (sFor (dIt (dLst (aCons (dV 1) (aCons (dC (.int 1)) aNil)))) (.nm 6) (sIf (dNotT (dAndT (dTru (dCall 2 F__law_is (aCons (dCall 2 F_is_row (aCons (dV 6) (aCons (dV 5) aNil))) (aCons (dC (.bl false)) aNil)))) (dTru (dCall 2 F__law_is (aCons (dCallK 0 2 [1, 0] F_is_fill aNil (aCons (dV 5) (aCons (dV 6) aNil))) (aCons (dC (.bl false)) aNil)))))) (sRet (dC (.bl false))) sNil)))
  (sSeq (sIf (dTst (dOp oEq (dV 1) (dC (.int 0)))) (sRet (dC (.bl true))) sNil)
  (sSeq (sSet 7 (dCall 2 F__law_draw (aCons (dV 0) (aCons (dV 1) aNil))))
  (sSeq (sSet 8 (dOp oAdd (dOp oAdd (dSl (dV 2) dNoP (dP (dV 7))) (dTup (aCons (dTup (aCons (dC (.int 1)) (aCons (dC (.int 0)) aNil))) aNil))) (dSl (dV 2) (dP (dOp oAdd (dV 7) (dC (.int 1)))) dNoP)))
  (sSeq (sIf (dNotT (dAndT (dTru (dCall 2 F__law_is (aCons (dCall 2 F_is_row (aCons (dV 1) (aCons (dV 8) aNil))) (aCons (dC (.bl true)) aNil)))) (dTru (dCall 2 F__law_is (aCons (dCall 2 F_is_fill (aCons (dV 1) (aCons (dV 8) aNil))) (aCons (dC (.bl false)) aNil)))))) (sRet (dC (.bl false))) sNil)
  (sSeq (sFor (dIt (dCall 2 F__law_no_prices (aCons (dV 0) (aCons (dOp oIx (dV 2) (dV 7)) aNil)))) (.nm 5) (sSeq (sSet 8 (dOp oAdd (dOp oAdd (dSl (dV 2) dNoP (dP (dV 7))) (dTup (aCons (dV 5) aNil))) (dSl (dV 2) (dP (dOp oAdd (dV 7) (dC (.int 1)))) dNoP)))
  (sIf (dNotT (dAndT (dTru (dCall 2 F__law_is (aCons (dCall 2 F_is_row (aCons (dV 1) (aCons (dV 8) aNil))) (aCons (dC (.bl false)) aNil)))) (dTru (dCall 2 F__law_is (aCons (dCall 2 F_is_fill (aCons (dV 1) (aCons (dV 8) aNil))) (aCons (dC (.bl false)) aNil)))))) (sRet (dC (.bl false))) sNil)))
  (sRet (dC (.bl true))))))))))))))))
noncomputable def F__law_rows_hold : List D → Sto → Res D := fun ds S => fnRes (b__law_rows_hold (startR 10 ds) S)
noncomputable def b__law_told : Dn := (sSeq (sTry (ctC "InvalidPaper") 2 (sSet 1 (dCall 1 F_lets_book (aCons (dV 0) aNil))) (sSeq (sIf (dNotT (dAndT (dTru (oIsE itC "PaperError" (dV 2))) (dAndT (dTru (oIsE itC "HadError" (dV 2))) (dTru (oIsE itC "ValueError" (dV 2)))))) (sRet (dCB oRepr (aCons (dTup (aCons (dC (.str "refused")) (aCons (dC (.str "no family")) (aCons (dC (.int 0)) aNil)))) aNil))) sNil)
  (sSeq (sIf (dTru (oIsE itC "BookError" (dV 2))) (sRet (dCB oRepr (aCons (dTup (aCons (dC (.str "refused")) (aCons (dC (.str "a wrong family")) (aCons (dC (.int 0)) aNil)))) aNil))) sNil)
  (sRet (dCB oRepr (aCons (dTup (aCons (dC (.str "refused")) (aCons (dXfld "InvalidPaper" "word" (dV 2)) (aCons (dXfld "InvalidPaper" "at" (dV 2)) aNil)))) aNil))))))
  (sRet (dCB oRepr (aCons (dTup (aCons (dC (.str "told")) (aCons (dV 1) aNil))) aNil))))
noncomputable def F__law_told : List D → Sto → Res D := fun ds S => fnRes (b__law_told (startR 3 ds) S)
noncomputable def b__law_books_hold : Dn := (sSeq (sSet 1 (dOp oAdd (dC (.int 1)) (dCall 2 F__law_draw (aCons (dV 0) (aCons (dC (.int 5)) aNil)))))
  (sSeq (sSet 3 (dCB oTuple (aCons (dLc finI (dRng1 (aCons (dCall 2 F__law_draw (aCons (dV 0) (aCons (dC (.int 6)) aNil))) aNil)) (.nm 2) dYes (dTup (aCons (dCall 2 F__law_numbers (aCons (dV 0) (aCons (dV 1) aNil))) (aCons (dCall 2 F__law_numbers (aCons (dV 0) (aCons (dV 1) aNil))) aNil))) [2]) aNil)))
  (sSeq (sSet 4 (dCB oRepr (aCons (dTup (aCons (dC (.str "told")) (aCons (dCB oLen (aCons (dV 3) aNil)) aNil))) aNil)))
  (sSeq (sIf (dOrT (dTst (dOp oNe (dCall 1 F__law_told (aCons (dTup (aCons (dV 1) (aCons (dV 3) aNil))) aNil)) (dV 4))) (dNotT (dTru (dCall 2 F__law_is (aCons (dCallK 0 1 [0] F_is_book aNil (aCons (dTup (aCons (dV 1) (aCons (dV 3) aNil))) aNil)) (aCons (dC (.bl true)) aNil)))))) (sRet (dC (.bl false))) sNil)
  (sSeq (sFor (dRng1 (aCons (dC (.int 10)) aNil)) (.nm 2) (sSeq (sAsg (.tp [(.nm 5), (.nm 6)]) (dCall 3 F__law_spoilt (aCons (dV 0) (aCons (dV 1) (aCons (dV 3) aNil)))))
  (sSeq (sSet 7 (dCB oRepr (aCons (dV 5) aNil)))
  (sSeq (sIf (dOrT (dTst (dOp oNe (dCall 1 F__law_told (aCons (dV 5) aNil)) (dV 6))) (dTst (dOp oNe (dCB oRepr (aCons (dV 5) aNil)) (dV 7)))) (sRet (dC (.bl false))) sNil)
  (sIf (dOrT (dNotT (dTru (dCall 2 F__law_is (aCons (dCall 1 F_is_book (aCons (dV 5) aNil)) (aCons (dOp oEq (dV 6) (dV 4)) aNil))))) (dTst (dOp oNe (dCall 1 F__law_told (aCons (dV 5) aNil)) (dV 6)))) (sRet (dC (.bl false))) sNil)))))
  (sSeq (sSet 6 (dV 4))
  (sSeq (sIf (dTst (dOp (oCmp fun i j => decide (j < i)) (dCB oLen (aCons (dV 3) aNil)) (dC (.int 0)))) (sSet 6 (dCB oRepr (aCons (dTup (aCons (dC (.str "refused")) (aCons (dC (.str "take")) (aCons (dC (.int 0)) aNil)))) aNil))) sNil)
  (sSeq (sFor (dIt (dLst (aCons (dOp oAdd (dV 1) (dC (.int 1))) (aCons (dOp oAdd (dC (.int 21)) (dV 1)) (aCons (dC (.int 1000)) aNil))))) (.nm 8) (sIf (dOrT (dTst (dOp oNe (dCall 1 F__law_told (aCons (dTup (aCons (dV 8) (aCons (dV 3) aNil))) aNil)) (dV 6))) (dNotT (dTru (dCall 2 F__law_is (aCons (dCall 1 F_is_book (aCons (dTup (aCons (dV 8) (aCons (dV 3) aNil))) aNil)) (aCons (dOp oEq (dV 6) (dV 4)) aNil)))))) (sRet (dC (.bl false))) sNil))
  (sSeq (sSet 9 (dCB oTuple (aCons (dLc finI (dRng1 (aCons (dV 1) aNil)) (.nm 2) dYes (dC (.int 0)) [2]) aNil)))
  (sSeq (sSet 10 (dOp oMul (dSl (dOp oAdd (dV 3) (dTup (aCons (dTup (aCons (dV 9) (aCons (dV 9) aNil))) aNil))) dNoP (dP (dC (.int 1)))) (dC (.int 12))))
  (sSeq (sIf (dOrT (dTst (dOp oNe (dCall 1 F__law_told (aCons (dTup (aCons (dV 1) (aCons (dV 10) aNil))) aNil)) (dCB oRepr (aCons (dTup (aCons (dC (.str "told")) (aCons (dC (.int 12)) aNil))) aNil)))) (dNotT (dTru (dCall 2 F__law_is (aCons (dCall 1 F_is_book (aCons (dTup (aCons (dV 1) (aCons (dV 10) aNil))) aNil)) (aCons (dC (.bl true)) aNil)))))) (sRet (dC (.bl false))) sNil)
  (sSeq (sSet 10 (dOp oAdd (dOp oAdd (dSl (dV 10) dNoP (dP (dC (.int 11)))) (dTup (aCons (dTup (aCons (dV 9) (aCons (dC .non) aNil))) aNil))) (dSl (dV 10) dNoP (dP (dC (.int 1))))))
  (sSeq (sIf (dOrT (dTst (dOp oNe (dCall 1 F__law_told (aCons (dTup (aCons (dV 1) (aCons (dV 10) aNil))) aNil)) (dCB oRepr (aCons (dTup (aCons (dC (.str "refused")) (aCons (dC (.str "give")) (aCons (dC (.int 11)) aNil)))) aNil)))) (dNotT (dTru (dCall 2 F__law_is (aCons (dCall 1 F_is_book (aCons (dTup (aCons (dV 1) (aCons (dV 10) aNil))) aNil)) (aCons (dC (.bl false)) aNil)))))) (sRet (dC (.bl false))) sNil)
  (sRet (dAnd (dOp oEq (dCB oRepr (aCons (dTup (aCons (dC (.str "told")) (aCons (dCallK 0 1 [0] F_lets_book aNil (aCons (dTup (aCons (dV 1) (aCons (dV 3) aNil))) aNil)) aNil))) aNil)) (dV 4)) (dCall 2 F__law_is (aCons (dCall 1 F_is_book (aCons (dTup (aCons (dV 1) (aCons (dV 3) aNil))) aNil)) (aCons (dC (.bl true)) aNil))))))))))))))))))
noncomputable def F__law_books_hold : List D → Sto → Res D := fun ds S => fnRes (b__law_books_hold (startR 11 ds) S)
noncomputable def b_law : Dn := (sSeq (sSet 1 (dLstM (aCons (dC (.int 0)) (aCons (dC (.int 0)) (aCons (dOp oAdd (dC (.int 104729)) (dOp oMul (dC (.int 31)) (dCB oLen (aCons (dV 0) aNil)))) (aCons (dCB oList (aCons (dV 0) aNil)) aNil))))))
  (sSeq (sIf (dNotT (dAndT (dTru (dCall 1 F__law_integers_hold (aCons (dV 1) aNil))) (dTru (dCall 1 F__law_quotients_hold (aCons (dV 1) aNil))))) (sRet (dC (.bl false))) sNil)
  (sSeq (sIf (dNotT (dAndT (dTru (dCall 1 F__law_rows_hold (aCons (dV 1) aNil))) (dTru (dCall 1 F__law_lots_hold (aCons (dV 1) aNil))))) (sRet (dC (.bl false))) sNil)
  (sRet (dAnd (dCall 1 F__law_deeds_hold (aCons (dV 1) aNil)) (dCall 1 F__law_books_hold (aCons (dV 1) aNil)))))))
noncomputable def F_law : List D → Sto → Res D := fun ds S => cutRes S.length (fnRes (b_law (startR 2 ds) S))
end k00

set_option Elab.async false
set_option linter.all false
set_option maxRecDepth 100000
set_option maxHeartbeats 4000000
namespace k00
open PySem PySem.Spec L2 DE
open PyProof.Rows hiding St
def topS (i : Nat) : Stmt := PySem.Challenge.pw_stillhad_k00_kinds_and_first_faults.main.body.getD i (.Pass ⟨0, 0, 0, 0⟩)
structure Txt (K : PySem.W.Frag) (mg : Str → Option Value) (f : Nat → Addr) (fd : Nat → FuncData) (C fI : Nat → Addr) (fdI : Nat → FuncData) : Prop where
  u7 : Fun K "is_integer" "is_integer" (topS 7) (f 7) (fd 7)
  g7 : mg "is_integer" = some (.ref (f 7))
  b7 : ∀ (s : Shared) (us : List Value), us.length = (["thing"] : List Str).length → BindsTo s (fd 7) ⟨us, []⟩ ((["thing"] : List Str).zip us)
  u16 : Fun K "is_pair" "is_pair" (topS 16) (f 16) (fd 16)
  g16 : mg "is_pair" = some (.ref (f 16))
  b16 : ∀ (s : Shared) (us : List Value), us.length = (["thing"] : List Str).length → BindsTo s (fd 16) ⟨us, []⟩ ((["thing"] : List Str).zip us)
  u25 : Fun K "_law_draw" "_law_draw" (topS 25) (f 25) (fd 25)
  g25 : mg "_law_draw" = some (.ref (f 25))
  b25 : ∀ (s : Shared) (us : List Value), us.length = (["_law_flow", "_law_many"] : List Str).length → BindsTo s (fd 25) ⟨us, []⟩ ((["_law_flow", "_law_many"] : List Str).zip us)
  u30 : Fun K "_law_is" "_law_is" (topS 30) (f 30) (fd 30)
  g30 : mg "_law_is" = some (.ref (f 30))
  b30 : ∀ (s : Shared) (us : List Value), us.length = (["_law_actual", "_law_due"] : List Str).length → BindsTo s (fd 30) ⟨us, []⟩ ((["_law_actual", "_law_due"] : List Str).zip us)
  u36 : Fun K "_law_no_pairs" "_law_no_pairs" (topS 36) (f 36) (fd 36)
  g36 : mg "_law_no_pairs" = some (.ref (f 36))
  b36 : ∀ (s : Shared) (us : List Value), us.length = (["_law_take", "_law_give"] : List Str).length → BindsTo s (fd 36) ⟨us, []⟩ ((["_law_take", "_law_give"] : List Str).zip us)
  u8 : Fun K "is_number" "is_number" (topS 8) (f 8) (fd 8)
  g8 : mg "is_number" = some (.ref (f 8))
  b8 : ∀ (s : Shared) (us : List Value), us.length = (["thing"] : List Str).length → BindsTo s (fd 8) ⟨us, []⟩ ((["thing"] : List Str).zip us)
  u17 : Fun K "is_whole" "is_whole" (topS 17) (f 17) (fd 17)
  g17 : mg "is_whole" = some (.ref (f 17))
  b17 : ∀ (s : Shared) (us : List Value), us.length = (["thing"] : List Str).length → BindsTo s (fd 17) ⟨us, []⟩ ((["thing"] : List Str).zip us)
  u26 : Fun K "_law_number" "_law_number" (topS 26) (f 26) (fd 26)
  g26 : mg "_law_number" = some (.ref (f 26))
  b26 : ∀ (s : Shared) (us : List Value), us.length = (["_law_flow"] : List Str).length → BindsTo s (fd 26) ⟨us, []⟩ ((["_law_flow"] : List Str).zip us)
  u29 : Fun K "_law_no_prices" "_law_no_prices" (topS 29) (f 29) (fd 29)
  g29 : mg "_law_no_prices" = some (.ref (f 29))
  b29 : ∀ (s : Shared) (us : List Value), us.length = (["_law_flow", "_law_one"] : List Str).length → BindsTo s (fd 29) ⟨us, []⟩ ((["_law_flow", "_law_one"] : List Str).zip us)
  u35 : Fun K "_law_bad_numbers" "_law_bad_numbers" (topS 35) (f 35) (fd 35)
  g35 : mg "_law_bad_numbers" = some (.ref (f 35))
  b35 : ∀ (s : Shared) (us : List Value), us.length = (["_law_flow", "_law_good"] : List Str).length → BindsTo s (fd 35) ⟨us, []⟩ ((["_law_flow", "_law_good"] : List Str).zip us)
  u10 : Fun K "is_price" "is_price" (topS 10) (f 10) (fd 10)
  g10 : mg "is_price" = some (.ref (f 10))
  b10 : ∀ (s : Shared) (us : List Value), us.length = (["thing"] : List Str).length → BindsTo s (fd 10) ⟨us, []⟩ ((["thing"] : List Str).zip us)
  u14 : Fun K "is_ascending" "is_ascending" (topS 14) (f 14) (fd 14)
  g14 : mg "is_ascending" = some (.ref (f 14))
  b14 : ∀ (s : Shared) (us : List Value), us.length = (["thing"] : List Str).length → BindsTo s (fd 14) ⟨us, []⟩ ((["thing"] : List Str).zip us)
  u18 : Fun K "is_numbers" "is_numbers" (topS 18) (f 18) (fd 18)
  g18 : mg "is_numbers" = some (.ref (f 18))
  b18 : ∀ (s : Shared) (us : List Value), us.length = (["many", "thing"] : List Str).length → BindsTo s (fd 18) ⟨us, []⟩ ((["many", "thing"] : List Str).zip us)
  u27 : Fun K "_law_numbers" "_law_numbers" (topS 27) (f 27) (fd 27)
  g27 : mg "_law_numbers" = some (.ref (f 27))
  b27 : ∀ (s : Shared) (us : List Value), us.length = (["_law_flow", "_law_size"] : List Str).length → BindsTo s (fd 27) ⟨us, []⟩ ((["_law_flow", "_law_size"] : List Str).zip us)
  u28 : Fun K "_law_coprime" "_law_coprime" (topS 28) (f 28) (fd 28)
  g28 : mg "_law_coprime" = some (.ref (f 28))
  b28 : ∀ (s : Shared) (us : List Value), us.length = (["_law_flow"] : List Str).length → BindsTo s (fd 28) ⟨us, []⟩ ((["_law_flow"] : List Str).zip us)
  u39 : Fun K "_law_spoilt" "_law_spoilt" (topS 39) (f 39) (fd 39)
  g39 : mg "_law_spoilt" = some (.ref (f 39))
  b39 : ∀ (s : Shared) (us : List Value), us.length = (["_law_flow", "_law_size", "_law_deeds"] : List Str).length → BindsTo s (fd 39) ⟨us, []⟩ ((["_law_flow", "_law_size", "_law_deeds"] : List Str).zip us)
  u9 : Fun K "is_quotient" "is_quotient" (topS 9) (f 9) (fd 9)
  g9 : mg "is_quotient" = some (.ref (f 9))
  b9 : ∀ (s : Shared) (us : List Value), us.length = (["thing"] : List Str).length → BindsTo s (fd 9) ⟨us, []⟩ ((["thing"] : List Str).zip us)
  u12 : Fun K "is_row" "is_row" (topS 12) (f 12) (fd 12)
  g12 : mg "is_row" = some (.ref (f 12))
  b12 : ∀ (s : Shared) (us : List Value), us.length = (["size", "thing"] : List Str).length → BindsTo s (fd 12) ⟨us, []⟩ ((["size", "thing"] : List Str).zip us)
  u13 : Fun K "is_lot" "is_lot" (topS 13) (f 13) (fd 13)
  g13 : mg "is_lot" = some (.ref (f 13))
  b13 : ∀ (s : Shared) (us : List Value), us.length = (["size", "thing"] : List Str).length → BindsTo s (fd 13) ⟨us, []⟩ ((["size", "thing"] : List Str).zip us)
  u20 : Fun K "is_deed" "is_deed" (topS 20) (f 20) (fd 20)
  g20 : mg "is_deed" = some (.ref (f 20))
  b20 : ∀ (s : Shared) (us : List Value), us.length = (["size", "thing"] : List Str).length → BindsTo s (fd 20) ⟨us, []⟩ ((["size", "thing"] : List Str).zip us)
  u21 : Fun K "check_deed" "check_deed" (topS 21) (f 21) (fd 21)
  g21 : mg "check_deed" = some (.ref (f 21))
  b21 : ∀ (s : Shared) (us : List Value), us.length = (["size", "deed", "place"] : List Str).length → BindsTo s (fd 21) ⟨us, []⟩ ((["size", "deed", "place"] : List Str).zip us)
  u11 : Fun K "is_fill" "is_fill" (topS 11) (f 11) (fd 11)
  g11 : mg "is_fill" = some (.ref (f 11))
  b11 : ∀ (s : Shared) (us : List Value), us.length = (["size", "thing"] : List Str).length → BindsTo s (fd 11) ⟨us, []⟩ ((["size", "thing"] : List Str).zip us)
  u22 : Fun K "lets_book" "lets_book" (topS 22) (f 22) (fd 22)
  g22 : mg "lets_book" = some (.ref (f 22))
  b22 : ∀ (s : Shared) (us : List Value), us.length = (["thing"] : List Str).length → BindsTo s (fd 22) ⟨us, []⟩ ((["thing"] : List Str).zip us)
  u23 : Fun K "is_book" "is_book" (topS 23) (f 23) (fd 23)
  g23 : mg "is_book" = some (.ref (f 23))
  b23 : ∀ (s : Shared) (us : List Value), us.length = (["thing"] : List Str).length → BindsTo s (fd 23) ⟨us, []⟩ ((["thing"] : List Str).zip us)
  u31 : Fun K "_law_integers_hold" "_law_integers_hold" (topS 31) (f 31) (fd 31)
  g31 : mg "_law_integers_hold" = some (.ref (f 31))
  b31 : ∀ (s : Shared) (us : List Value), us.length = (["_law_flow"] : List Str).length → BindsTo s (fd 31) ⟨us, []⟩ ((["_law_flow"] : List Str).zip us)
  u34 : Fun K "_law_lots_hold" "_law_lots_hold" (topS 34) (f 34) (fd 34)
  g34 : mg "_law_lots_hold" = some (.ref (f 34))
  b34 : ∀ (s : Shared) (us : List Value), us.length = (["_law_flow"] : List Str).length → BindsTo s (fd 34) ⟨us, []⟩ ((["_law_flow"] : List Str).zip us)
  u37 : Fun K "_law_deeds_hold" "_law_deeds_hold" (topS 37) (f 37) (fd 37)
  g37 : mg "_law_deeds_hold" = some (.ref (f 37))
  b37 : ∀ (s : Shared) (us : List Value), us.length = (["_law_flow"] : List Str).length → BindsTo s (fd 37) ⟨us, []⟩ ((["_law_flow"] : List Str).zip us)
  u32 : Fun K "_law_quotients_hold" "_law_quotients_hold" (topS 32) (f 32) (fd 32)
  g32 : mg "_law_quotients_hold" = some (.ref (f 32))
  b32 : ∀ (s : Shared) (us : List Value), us.length = (["_law_flow"] : List Str).length → BindsTo s (fd 32) ⟨us, []⟩ ((["_law_flow"] : List Str).zip us)
  u33 : Fun K "_law_rows_hold" "_law_rows_hold" (topS 33) (f 33) (fd 33)
  g33 : mg "_law_rows_hold" = some (.ref (f 33))
  b33 : ∀ (s : Shared) (us : List Value), us.length = (["_law_flow"] : List Str).length → BindsTo s (fd 33) ⟨us, []⟩ ((["_law_flow"] : List Str).zip us)
  u38 : Fun K "_law_told" "_law_told" (topS 38) (f 38) (fd 38)
  g38 : mg "_law_told" = some (.ref (f 38))
  b38 : ∀ (s : Shared) (us : List Value), us.length = (["_law_thing"] : List Str).length → BindsTo s (fd 38) ⟨us, []⟩ ((["_law_thing"] : List Str).zip us)
  u40 : Fun K "_law_books_hold" "_law_books_hold" (topS 40) (f 40) (fd 40)
  g40 : mg "_law_books_hold" = some (.ref (f 40))
  b40 : ∀ (s : Shared) (us : List Value), us.length = (["_law_flow"] : List Str).length → BindsTo s (fd 40) ⟨us, []⟩ ((["_law_flow"] : List Str).zip us)
  u41 : Fun K "law" "law" (topS 41) (f 41) (fd 41)
  g41 : mg "law" = some (.ref (f 41))
  b41 : ∀ (s : Shared) (us : List Value), us.length = (["_law_script"] : List Str).length → BindsTo s (fd 41) ⟨us, []⟩ ((["_law_script"] : List Str).zip us)
  k0 : KwB (fd 8) ["thing"] 0 ["thing"] [0]
  k1 : KwB (fd 7) ["thing"] 0 ["thing"] [0]
  k2 : KwB (fd 13) ["size", "thing"] 0 ["thing", "size"] [1, 0]
  k3 : KwB (fd 20) ["size", "thing"] 0 ["size", "thing"] [0, 1]
  k4 : KwB (fd 20) ["size", "thing"] 0 ["thing", "size"] [1, 0]
  k5 : KwB (fd 10) ["thing"] 0 ["thing"] [0]
  k6 : KwB (fd 9) ["thing"] 0 ["thing"] [0]
  k7 : KwB (fd 12) ["size", "thing"] 0 ["size", "thing"] [0, 1]
  k8 : KwB (fd 11) ["size", "thing"] 0 ["thing", "size"] [1, 0]
  k9 : KwB (fd 23) ["thing"] 0 ["thing"] [0]
  k10 : KwB (fd 22) ["thing"] 0 ["thing"] [0]
  n_ValueError : mg "ValueError" = none
  n_all : mg "all" = none
  n_bool : mg "bool" = none
  n_enumerate : mg "enumerate" = none
  n_gcd : mg "gcd" = some (.builtin "math.gcd")
  n_int : mg "int" = none
  n_isinstance : mg "isinstance" = none
  n_len : mg "len" = none
  n_list : mg "list" = none
  n_max : mg "max" = none
  n_min : mg "min" = none
  n_range : mg "range" = none
  n_repr : mg "repr" = none
  n_str : mg "str" = none
  n_tuple : mg "tuple" = none
  n_zip : mg "zip" = none
  x_InvalidPaper : XT K mg "InvalidPaper" ["word", "at"] (C 5) (fI 5)
  xu_InvalidPaper : Fun K "__init__" "InvalidPaper.__init__" (inClass (topS 5) 0) (fI 5) (fdI 5)
  xb_InvalidPaper : Binds K (fdI 5) ["self", "word", "at"] []
  c_BookError : mg "BookError" = some (.ref (C 4))
  c_HadError : mg "HadError" = some (.ref (C 2))
  c_PaperError : mg "PaperError" = some (.ref (C 3))
  xc_InvalidPaper : L2.ExcC K (C 5)
  xf_InvalidPaper : XfC K (C 5)
  e_InvalidPaper_InvalidPaper : PySem.W.exmOne K (.ref (C 5)) (.ref (C 5)) = some true
  i_InvalidPaper_BookError : PySem.W.kitOne K (.ref (C 5)) (.ref (C 4)) = some false
  i_InvalidPaper_HadError : PySem.W.kitOne K (.ref (C 5)) (.ref (C 2)) = some true
  i_InvalidPaper_PaperError : PySem.W.kitOne K (.ref (C 5)) (.ref (C 3)) = some true
  i_InvalidPaper_ValueError : PySem.W.kitOne K (.ref (C 5)) (.type "ValueError") = some true
section
variable {P : Program} {wd : World} {K : PySem.W.Frag} {mg : Str → Option Value} {base : Heap} {f : Nat → Addr} {fd : Nat → FuncData} {C fI : Nat → Addr} {fdI : Nat → FuncData} (T : Txt K mg f fd C fI fdI)
include T
theorem ini_InvalidPaper : FnOk P wd K mg base (L2.CX P wd) 1 (fI 5) (fdI 5) ["self", "word", "at"] (spInit (C 5) ["word", "at"]) :=
  init2 T.xu_InvalidPaper ⟨rfl, rfl, rfl, by decide +kernel, rfl, by decide +kernel, by decide +kernel⟩ rfl rfl rfl rfl (by decide) (by decide) (by decide) (by decide) T.x_InvalidPaper.oex (T.x_InvalidPaper.no "word" (by simp)) (T.x_InvalidPaper.no "at" (by simp))
theorem XCt_InvalidPaper (nm : Str) (C0 : Addr) (b : Bool) (h1 : mg nm = some (.ref C0)) (h2 : ctC "InvalidPaper" nm = some b) : PySem.W.exmOne K (.ref C0) (.ref (C 5)) = some b := by
  by_cases e_InvalidPaper : nm = "InvalidPaper"
  · subst e_InvalidPaper
    rw [T.x_InvalidPaper.g] at h1; cases h1
    rw [show ctC "InvalidPaper" "InvalidPaper" = some true from by decide] at h2; cases h2
    exact T.e_InvalidPaper_InvalidPaper
  simp [ctC, e_InvalidPaper] at h2
theorem XF_InvalidPaper_at {cls : Value} (C0 : Addr) (h0 : cls = .ref C0) (h : mg "InvalidPaper" = some (.ref C0)) : XfC K C0 ∧ PySem.W.findIn K (.ref C0) "at" = some none := by
  rw [T.x_InvalidPaper.g] at h; cases h
  exact ⟨T.xf_InvalidPaper, T.x_InvalidPaper.no "at" (by simp)⟩
theorem XF_InvalidPaper_word {cls : Value} (C0 : Addr) (h0 : cls = .ref C0) (h : mg "InvalidPaper" = some (.ref C0)) : XfC K C0 ∧ PySem.W.findIn K (.ref C0) "word" = some none := by
  rw [T.x_InvalidPaper.g] at h; cases h
  exact ⟨T.xf_InvalidPaper, T.x_InvalidPaper.no "word" (by simp)⟩
theorem XI_InvalidPaper_BookError {cls : Value} (C0 : Addr) (cn : Str) (b : Bool) (h0 : cls = .ref C0) (h1 : mg cn = some (.ref C0)) (h2 : itC cn "BookError" = some b) : L2.ExcC K C0 ∧ PySem.W.kitOne K (.ref C0) (.ref (C 4)) = some b := by
  by_cases e_InvalidPaper : cn = "InvalidPaper"
  · subst e_InvalidPaper
    rw [T.x_InvalidPaper.g] at h1; cases h1
    rw [show itC "InvalidPaper" "BookError" = some false from by decide] at h2; cases h2
    exact ⟨T.xc_InvalidPaper, T.i_InvalidPaper_BookError⟩
  simp [itC, e_InvalidPaper] at h2
theorem XI_InvalidPaper_HadError {cls : Value} (C0 : Addr) (cn : Str) (b : Bool) (h0 : cls = .ref C0) (h1 : mg cn = some (.ref C0)) (h2 : itC cn "HadError" = some b) : L2.ExcC K C0 ∧ PySem.W.kitOne K (.ref C0) (.ref (C 2)) = some b := by
  by_cases e_InvalidPaper : cn = "InvalidPaper"
  · subst e_InvalidPaper
    rw [T.x_InvalidPaper.g] at h1; cases h1
    rw [show itC "InvalidPaper" "HadError" = some true from by decide] at h2; cases h2
    exact ⟨T.xc_InvalidPaper, T.i_InvalidPaper_HadError⟩
  simp [itC, e_InvalidPaper] at h2
theorem XI_InvalidPaper_PaperError {cls : Value} (C0 : Addr) (cn : Str) (b : Bool) (h0 : cls = .ref C0) (h1 : mg cn = some (.ref C0)) (h2 : itC cn "PaperError" = some b) : L2.ExcC K C0 ∧ PySem.W.kitOne K (.ref C0) (.ref (C 3)) = some b := by
  by_cases e_InvalidPaper : cn = "InvalidPaper"
  · subst e_InvalidPaper
    rw [T.x_InvalidPaper.g] at h1; cases h1
    rw [show itC "InvalidPaper" "PaperError" = some true from by decide] at h2; cases h2
    exact ⟨T.xc_InvalidPaper, T.i_InvalidPaper_PaperError⟩
  simp [itC, e_InvalidPaper] at h2
theorem XI_InvalidPaper_ValueError {cls : Value} (C0 : Addr) (cn : Str) (b : Bool) (h0 : cls = .ref C0) (h1 : mg cn = some (.ref C0)) (h2 : itC cn "ValueError" = some b) : L2.ExcC K C0 ∧ PySem.W.kitOne K (.ref C0) (.type "ValueError") = some b := by
  by_cases e_InvalidPaper : cn = "InvalidPaper"
  · subst e_InvalidPaper
    rw [T.x_InvalidPaper.g] at h1; cases h1
    rw [show itC "InvalidPaper" "ValueError" = some true from by decide] at h2; cases h2
    exact ⟨T.xc_InvalidPaper, T.i_InvalidPaper_ValueError⟩
  simp [itC, e_InvalidPaper] at h2
omit T in
theorem sc7 : FnScope ["thing"] ["thing"] (defScope (topS 7)) := ⟨rfl, rfl, rfl, by decide +kernel, rfl, by decide +kernel, by decide +kernel⟩
theorem G_is_integer : Fd P wd K mg base "is_integer" 1 ["thing"] F_is_integer (f 7) (fd 7) := by
  refine mk_fd (b := b_is_integer) T.u7 sc7 T.g7 T.b7 (fun cdv A outer s H E hr hG tk hP => ?_) (fun ds S _ => LeAt.refl)
  have nd := sc7.nd
  exact (ds_one (ds_ret (de_and (de_callB call_isi snd_isi bt_isinstance T.n_isinstance (da_cons (de_var 0) (da_cons (de_ty (n := "int") (by rfl) T.n_int bt_int) da_nil))) (pe_one (de_not (de_callB call_isi snd_isi bt_isinstance T.n_isinstance (da_cons (de_var 0) (da_cons (de_ty (n := "bool") (by rfl) T.n_bool bt_bool) da_nil))))))))
omit T in
theorem sc16 : FnScope ["thing"] ["thing"] (defScope (topS 16)) := ⟨rfl, rfl, rfl, by decide +kernel, rfl, by decide +kernel, by decide +kernel⟩
theorem G_is_pair : Fd P wd K mg base "is_pair" 1 ["thing"] F_is_pair (f 16) (fd 16) := by
  refine mk_fd (b := b_is_pair) T.u16 sc16 T.g16 T.b16 (fun cdv A outer s H E hr hG tk hP => ?_) (fun ds S _ => LeAt.refl)
  have nd := sc16.nd
  exact (ds_one (ds_ret (de_and (de_callB call_isi snd_isi bt_isinstance T.n_isinstance (da_cons (de_var 0) (da_cons (de_ty (n := "tuple") (by rfl) T.n_tuple bt_tuple) da_nil))) (pe_one (de_cmp (op_eq2 hr.units) snd_eq (de_callB call_len snd_len bt_len T.n_len (da_cons (de_var 0) da_nil)) de_int (nomark _))))))
omit T in
theorem sc25 : FnScope ["_law_flow", "_law_many", "_law_cell", "_law_digit"] ["_law_flow", "_law_many"] (defScope (topS 25)) := ⟨rfl, rfl, rfl, by decide +kernel, rfl, by decide +kernel, by decide +kernel⟩
theorem G__law_draw : Fd P wd K mg base "_law_draw" 1 ["_law_flow", "_law_many"] F__law_draw (f 25) (fd 25) := by
  refine mk_fd (b := b__law_draw) T.u25 sc25 T.g25 T.b25 (fun cdv A outer s H E hr hG tk hP => ?_) (fun ds S _ => LeAt.refl)
  have nd := sc25.nd
  exact (ds_cons (ds_if (PW.pt (de_wand (de_tcmp (op_eq2 hr.units) snd_eq (de_ix (de_var 0) de_int) de_int (nomark _)) (de_wand1 (de_tcmp op_lt snd_cmp (de_ix (de_var 0) de_int) (de_callB call_len snd_len bt_len T.n_len (da_cons (de_ix (de_var 0) de_int) da_nil)) (nomark _))))) (ds_cons (ds_set 2 (de_ix (de_ix (de_var 0) de_int) (de_ix (de_var 0) de_int)) nd)
  (ds_cons (ds_setIx (de_var 0) de_int (de_op op_add4 snd_add (de_ix (de_var 0) de_int) de_int))
  (ds_cons (ds_setIx (de_var 0) de_int (de_op op_mod snd_mod (de_callTy call_int1 snd_int bt_int T.n_int (da_cons (de_op op_add4 snd_add (de_op op_mul4 snd_mul (de_ix (de_var 0) de_int) de_int) (de_var 2)) da_nil)) de_int))
  (ds_one (ds_if (de_tcmp op_ge snd_cmp (de_var 2) (de_op op_pow snd_pow de_int de_int) (nomark _)) (ds_one (ds_setIx (de_var 0) de_int (de_op op_mod snd_mod (de_callTy call_int1 snd_int bt_int T.n_int (da_cons (de_var 2) da_nil)) (de_op op_pow snd_pow de_int de_int)))) ds_nil))))) ds_nil)
  (ds_cons (ds_if (de_tcmp op_gt snd_cmp (de_ix (de_var 0) de_int) de_int (nomark _)) (ds_cons (ds_set 3 (de_op op_mod snd_mod (de_callTy call_int1 snd_int bt_int T.n_int (da_cons (de_ix (de_var 0) de_int) da_nil)) (de_var 1)) nd)
  (ds_cons (ds_setIx (de_var 0) de_int (de_op op_fdivW snd_div (de_ix (de_var 0) de_int) (de_var 1)))
  (ds_one (ds_ret (de_var 3))))) ds_nil)
  (ds_cons (ds_setIx (de_var 0) de_int (de_op op_mod snd_mod (de_callTy call_int1 snd_int bt_int T.n_int (da_cons (de_op op_add4 snd_add (de_op op_mul4 snd_mul (de_ix (de_var 0) de_int) de_int) de_int) da_nil)) de_int))
  (ds_one (ds_ret (de_op op_mod snd_mod (de_callTy call_int1 snd_int bt_int T.n_int (da_cons (de_op op_add4 snd_add (de_op op_fdivW snd_div (de_ix (de_var 0) de_int) de_int) (de_op op_mul4 snd_mul (de_op op_fdivW snd_div (de_ix (de_var 0) de_int) de_int) de_int)) da_nil)) (de_var 1)))))))
omit T in
theorem sc30 : FnScope ["_law_actual", "_law_due"] ["_law_actual", "_law_due"] (defScope (topS 30)) := ⟨rfl, rfl, rfl, by decide +kernel, rfl, by decide +kernel, by decide +kernel⟩
theorem G__law_is : Fd P wd K mg base "_law_is" 1 ["_law_actual", "_law_due"] F__law_is (f 30) (fd 30) := by
  refine mk_fd (b := b__law_is) T.u30 sc30 T.g30 T.b30 (fun cdv A outer s H E hr hG tk hP => ?_) (fun ds S _ => LeAt.refl)
  have nd := sc30.nd
  exact (ds_one (ds_ret (de_and (de_callB call_isi snd_isi bt_isinstance T.n_isinstance (da_cons (de_var 0) (da_cons (de_ty (n := "bool") (by rfl) T.n_bool bt_bool) da_nil))) (pe_one (de_cmp (op_eq2 hr.units) snd_eq (de_var 0) (de_var 1) (nomark _))))))
omit T in
theorem sc36 : FnScope ["_law_take", "_law_give"] ["_law_take", "_law_give"] (defScope (topS 36)) := ⟨rfl, rfl, rfl, by decide +kernel, rfl, by decide +kernel, by decide +kernel⟩
theorem G__law_no_pairs : Fd P wd K mg base "_law_no_pairs" 1 ["_law_take", "_law_give"] F__law_no_pairs (f 36) (fd 36) := by
  refine mk_fd (b := b__law_no_pairs) T.u36 sc36 T.g36 T.b36 (fun cdv A outer s H E hr hG tk hP => ?_) (fun ds S _ => LeAt.refl)
  have nd := sc36.nd
  exact (ds_one (ds_ret (de_lst (da_cons (de_lst (da_cons (de_var 0) (da_cons (de_var 1) da_nil))) (da_cons (de_tup (da_cons (de_var 0) da_nil)) (da_cons (de_tup (da_cons (de_var 0) (da_cons (de_var 1) (da_cons (de_var 0) da_nil)))) (da_cons de_non (da_cons de_str (da_cons (de_tup da_nil) (da_cons de_int (da_cons (de_lst (da_cons (de_tup (da_cons (de_var 0) (da_cons (de_var 1) da_nil))) da_nil)) (da_cons de_str da_nil))))))))))))
omit T in
theorem sc8 : FnScope ["thing"] ["thing"] (defScope (topS 8)) := ⟨rfl, rfl, rfl, by decide +kernel, rfl, by decide +kernel, by decide +kernel⟩
theorem G_is_number : Fd P wd K mg base "is_number" 2 ["thing"] F_is_number (f 8) (fd 8) := by
  have G_is_integer : Fd P wd K mg base _ _ _ _ _ _ := G_is_integer T
  refine mk_fd (b := b_is_number) T.u8 sc8 T.g8 T.b8 (fun cdv A outer s H E hr hG tk hP => ?_) (fun ds S _ => LeAt.refl)
  have nd := sc8.nd
  exact (ds_one (ds_ret (de_and (de_call G_is_integer (hr.mono (by decide)) hG (fun σ => passAt tk σ) (da_cons (de_var 0) da_nil)) (pe_one (de_cmp op_ge snd_cmp (de_var 0) de_int (nomark _))))))
omit T in
theorem sc17 : FnScope ["thing"] ["thing"] (defScope (topS 17)) := ⟨rfl, rfl, rfl, by decide +kernel, rfl, by decide +kernel, by decide +kernel⟩
theorem G_is_whole : Fd P wd K mg base "is_whole" 2 ["thing"] F_is_whole (f 17) (fd 17) := by
  have G_is_integer : Fd P wd K mg base _ _ _ _ _ _ := G_is_integer T
  refine mk_fd (b := b_is_whole) T.u17 sc17 T.g17 T.b17 (fun cdv A outer s H E hr hG tk hP => ?_) (fun ds S _ => LeAt.refl)
  have nd := sc17.nd
  exact (ds_one (ds_ret (de_and (de_call G_is_integer (hr.mono (by decide)) hG (fun σ => passAt tk σ) (da_cons (de_var 0) da_nil)) (pe_one (de_cmp op_ge snd_cmp (de_var 0) de_int (nomark _))))))
omit T in
theorem sc26 : FnScope ["_law_flow"] ["_law_flow"] (defScope (topS 26)) := ⟨rfl, rfl, rfl, by decide +kernel, rfl, by decide +kernel, by decide +kernel⟩
theorem G__law_number : Fd P wd K mg base "_law_number" 2 ["_law_flow"] F__law_number (f 26) (fd 26) := by
  have G__law_draw : Fd P wd K mg base _ _ _ _ _ _ := G__law_draw T
  refine mk_fd (b := b__law_number) T.u26 sc26 T.g26 T.b26 (fun cdv A outer s H E hr hG tk hP => ?_) (fun ds S _ => LeAt.refl)
  have nd := sc26.nd
  exact (ds_cons (ds_if (de_tcmp (op_eq2 hr.units) snd_eq (de_call G__law_draw (hr.mono (by decide)) hG (fun σ => passAt tk σ) (da_cons (de_var 0) (da_cons de_int da_nil))) de_int (nomark _)) (ds_one (ds_ret (de_call G__law_draw (hr.mono (by decide)) hG (fun σ => passAt tk σ) (da_cons (de_var 0) (da_cons de_int da_nil))))) ds_nil)
  (ds_one (ds_ret (de_call G__law_draw (hr.mono (by decide)) hG (fun σ => passAt tk σ) (da_cons (de_var 0) (da_cons de_int da_nil))))))
omit T in
theorem sc29 : FnScope ["_law_flow", "_law_one", "_law_many", "_law_odd"] ["_law_flow", "_law_one"] (defScope (topS 29)) := ⟨rfl, rfl, rfl, by decide +kernel, rfl, by decide +kernel, by decide +kernel⟩
theorem G__law_no_prices : Fd P wd K mg base "_law_no_prices" 2 ["_law_flow", "_law_one"] F__law_no_prices (f 29) (fd 29) := by
  have G__law_draw : Fd P wd K mg base _ _ _ _ _ _ := G__law_draw T
  refine mk_fd (b := b__law_no_prices) T.u29 sc29 T.g29 T.b29 (fun cdv A outer s H E hr hG tk hP => ?_) (fun ds S _ => LeAt.refl)
  have nd := sc29.nd
  exact (ds_cons (ds_set 2 (de_op op_add4 snd_add de_int (de_call G__law_draw (hr.mono (by decide)) hG (fun σ => passAt tk σ) (da_cons (de_var 0) (da_cons de_int da_nil)))) nd)
  (ds_cons (ds_set 3 (de_lst (da_cons (de_tup (da_cons (de_op op_mul4 snd_mul (de_ix (de_var 1) de_int) (de_var 2)) (da_cons (de_op op_mul4 snd_mul (de_ix (de_var 1) de_int) (de_var 2)) da_nil))) (da_cons (de_tup (da_cons (de_op op_sub snd_sub (de_un un_neg snd_neg de_int) (de_ix (de_var 1) de_int)) (da_cons (de_ix (de_var 1) de_int) da_nil))) (da_cons (de_tup (da_cons (de_ix (de_var 1) de_int) (da_cons (de_un un_neg snd_neg (de_ix (de_var 1) de_int)) da_nil))) (da_cons (de_tup (da_cons (de_var 2) (da_cons de_int da_nil))) (da_cons (de_tup (da_cons de_int (da_cons de_int da_nil))) (da_cons (de_tup (da_cons (de_un un_neg snd_neg de_int) (da_cons de_int da_nil))) da_nil))))))) nd)
  (ds_cons (ds_set 3 (de_op op_add4 snd_add (de_var 3) (de_lst (da_cons (de_lst (da_cons (de_ix (de_var 1) de_int) (da_cons (de_ix (de_var 1) de_int) da_nil))) (da_cons (de_tup (da_cons (de_ix (de_var 1) de_int) (da_cons (de_ix (de_var 1) de_int) (da_cons de_int da_nil)))) (da_cons (de_tup (da_cons (de_ix (de_var 1) de_int) da_nil)) (da_cons (de_tup da_nil) (da_cons de_non (da_cons (de_ix (de_var 1) de_int) (da_cons de_str (da_cons (de_tup (da_cons (de_var 1) da_nil)) (da_cons (de_tup (da_cons (de_var 1) (da_cons (de_var 1) da_nil))) da_nil))))))))))) nd)
  (ds_cons (ds_set 3 (de_op op_add4 snd_add (de_var 3) (de_lst (da_cons (de_lst (da_cons de_int (da_cons de_int da_nil))) (da_cons (de_tup (da_cons de_int (da_cons de_int (da_cons de_int da_nil)))) da_nil)))) nd)
  (ds_cons (ds_set 3 (de_op op_add4 snd_add (de_var 3) (de_lst (da_cons (de_tup (da_cons de_bl (da_cons (de_ix (de_var 1) de_int) da_nil))) (da_cons (de_tup (da_cons (de_ix (de_var 1) de_int) (da_cons de_bl da_nil))) (da_cons (de_tup (da_cons de_bl (da_cons de_int da_nil))) (da_cons (de_tup (da_cons de_int (da_cons de_bl da_nil))) (da_cons (de_tup (da_cons (de_ix (de_var 1) de_int) (da_cons (de_callTy call_str_int snd_str bt_str T.n_str (da_cons (de_ix (de_var 1) de_int) da_nil)) da_nil))) (da_cons (de_tup (da_cons de_non (da_cons (de_ix (de_var 1) de_int) da_nil))) da_nil)))))))) nd)
  (ds_one (ds_ret (de_var 3))))))))
omit T in
theorem sc35 : FnScope ["_law_flow", "_law_good", "_law_at", "_law_odd", "_law_one"] ["_law_flow", "_law_good"] (defScope (topS 35)) := ⟨rfl, rfl, rfl, by decide +kernel, rfl, by decide +kernel, by decide +kernel⟩
theorem G__law_bad_numbers : Fd P wd K mg base "_law_bad_numbers" 2 ["_law_flow", "_law_good"] F__law_bad_numbers (f 35) (fd 35) := by
  have G__law_draw : Fd P wd K mg base _ _ _ _ _ _ := G__law_draw T
  refine mk_fd (b := b__law_bad_numbers) T.u35 sc35 T.g35 T.b35 (fun cdv A outer s H E hr hG tk hP => ?_) (fun ds S _ => LeAt.cut)
  have nd := sc35.nd
  exact (ds_cons (ds_set 2 (de_call G__law_draw (hr.mono (by decide)) hG (fun σ => passAt tk σ) (da_cons (de_var 0) (da_cons (de_callB call_len snd_len bt_len T.n_len (da_cons (de_var 1) da_nil)) da_nil))) nd)
  (ds_cons (ds_set 3 (de_lstM (da_cons (de_callTy call_list_of snd_list bt_list T.n_list (da_cons (de_var 1) da_nil)) (da_cons (de_op op_add4 snd_add (de_var 1) (de_tup (da_cons de_int da_nil))) (da_cons (de_slice (de_var 1) dp_none (dp_some (de_op op_sub snd_sub (de_callB call_len snd_len bt_len T.n_len (da_cons (de_var 1) da_nil)) de_int))) (da_cons de_non (da_cons (de_op op_repS snd_repS de_str (de_callB call_len snd_len bt_len T.n_len (da_cons (de_var 1) da_nil))) (da_cons de_int (da_cons (de_op op_add4 snd_add (de_tup (da_cons (de_var 1) da_nil)) (de_var 1)) da_nil)))))))) nd)
  (ds_cons (ds_for hP (di_seq (de_lst (da_cons (de_un un_neg snd_neg de_int) (da_cons de_bl (da_cons de_bl (da_cons de_non (da_cons de_str (da_cons (de_tup (da_cons de_int da_nil)) (da_cons (de_lst (da_cons de_int da_nil)) da_nil))))))))) (dt_nm 4 nd) (ds_one (ds_expr (de_append (de_var 3) (de_op op_add4 snd_add (de_op op_add4 snd_add (de_slice (de_var 1) dp_none (dp_some (de_var 2))) (de_tup (da_cons (de_var 4) da_nil))) (de_slice (de_var 1) (dp_some (de_op op_add4 snd_add (de_var 2) de_int)) dp_none))))))
  (ds_one (ds_ret (de_var 3))))))
omit T in
theorem sc10 : FnScope ["thing", "top", "bottom"] ["thing"] (defScope (topS 10)) := ⟨rfl, rfl, rfl, by decide +kernel, rfl, by decide +kernel, by decide +kernel⟩
theorem G_is_price : Fd P wd K mg base "is_price" 3 ["thing"] F_is_price (f 10) (fd 10) := by
  have G_is_number : Fd P wd K mg base _ _ _ _ _ _ := G_is_number T
  refine mk_fd (b := b_is_price) T.u10 sc10 T.g10 T.b10 (fun cdv A outer s H E hr hG tk hP => ?_) (fun ds S _ => LeAt.refl)
  have nd := sc10.nd
  exact (ds_cons (ds_if (de_tnot (PW.pt (de_wand (de_truth (de_callB call_isi snd_isi bt_isinstance T.n_isinstance (da_cons (de_var 0) (da_cons (de_ty (n := "tuple") (by rfl) T.n_tuple bt_tuple) da_nil)))) (de_wand1 (de_tcmp (op_eq2 hr.units) snd_eq (de_callB call_len snd_len bt_len T.n_len (da_cons (de_var 0) da_nil)) de_int (nomark _)))))) (ds_one (ds_ret de_bl)) ds_nil)
  (ds_cons (ds_asg (de_var 0) (dt_tp (dts_cons (dt_nm 1 nd) (dts_cons (dt_nm 2 nd) dts_nil))))
  (ds_one (ds_ret (de_and (de_call G_is_number (hr.mono (by decide)) hG (fun σ => passAt tk σ) (da_cons (de_var 1) da_nil)) (de_and (de_call G_is_number (hr.mono (by decide)) hG (fun σ => passAt tk σ) (da_cons (de_var 2) da_nil)) (pe_one (de_cmp (op_eq2 hr.units) snd_eq (de_callBf cr_gcd (snd_i2 gcdI) T.n_gcd (da_cons (de_var 1) (da_cons (de_var 2) da_nil))) de_int (nomark _)))))))))
omit T in
theorem sc14 : FnScope ["thing", "low", "high", "ware"] ["thing"] (defScope (topS 14)) := ⟨rfl, rfl, rfl, by decide +kernel, rfl, by decide +kernel, by decide +kernel⟩
theorem G_is_ascending : Fd P wd K mg base "is_ascending" 3 ["thing"] F_is_ascending (f 14) (fd 14) := by
  have G_is_number : Fd P wd K mg base _ _ _ _ _ _ := G_is_number T
  refine mk_fd (b := b_is_ascending) T.u14 sc14 T.g14 T.b14 (fun cdv A outer s H E hr hG tk hP => ?_) (fun ds S _ => LeAt.refl)
  have nd := sc14.nd
  exact (ds_cons (ds_if (de_tnot (PW.pt (de_wand (de_truth (de_callB call_isi snd_isi bt_isinstance T.n_isinstance (da_cons (de_var 0) (da_cons (de_ty (n := "tuple") (by rfl) T.n_tuple bt_tuple) da_nil)))) (de_wand1 (de_truth (de_callB (cr_all rfl) (snd_bools _) bt_all T.n_all (da_cons (de_lc (own := [("ware", 3)]) fin_I nd (di_seq (de_var 0)) (show blkC ["thing", "low", "high", "ware"] (defScope (topS 14)) _ _ = true from by decide +kernel) (fun _ _ _ _ _ => by exact (dt_nm 3 nd)) (fun _ _ _ _ _ => by exact dts_yes) (fun _ _ _ _ _ => by exact (de_call (X := Cx.blk _ _ _ _ _ _) (ps := ["thing"]) (F := F_is_number) (w := w0) G_is_number (by exact hr.mono (by decide)) (by exact hG) (fun σ => passAt0 σ) (da_cons (de_var 3) da_nil)))) da_nil))))))) (ds_one (ds_ret de_bl)) ds_nil)
  (ds_one (ds_ret (de_callB (cr_all rfl) (snd_bools _) bt_all T.n_all (da_cons (de_lc (own := [("low", 1), ("high", 2)]) fin_I nd (di_zip (da_cons (de_var 0) (da_cons (de_slice (de_var 0) (dp_some de_int) dp_none) da_nil)) T.n_zip) (show blkC ["thing", "low", "high", "ware"] (defScope (topS 14)) _ _ = true from by decide +kernel) (fun _ _ _ _ _ => by exact (dt_tp (dts_cons (dt_nm 1 nd) (dts_cons (dt_nm 2 nd) dts_nil)))) (fun _ _ _ _ _ => by exact dts_yes) (fun _ _ _ _ _ => by exact (de_cmp op_lt snd_cmp (de_var 1) (de_var 2) (nomark _)))) da_nil)))))
omit T in
theorem sc18 : FnScope ["many", "thing", "one"] ["many", "thing"] (defScope (topS 18)) := ⟨rfl, rfl, rfl, by decide +kernel, rfl, by decide +kernel, by decide +kernel⟩
theorem G_is_numbers : Fd P wd K mg base "is_numbers" 3 ["many", "thing"] F_is_numbers (f 18) (fd 18) := by
  have G_is_number : Fd P wd K mg base _ _ _ _ _ _ := G_is_number T
  refine mk_fd (b := b_is_numbers) T.u18 sc18 T.g18 T.b18 (fun cdv A outer s H E hr hG tk hP => ?_) (fun ds S _ => LeAt.refl)
  have nd := sc18.nd
  exact (ds_one (ds_ret (de_and (de_callB call_isi snd_isi bt_isinstance T.n_isinstance (da_cons (de_var 1) (da_cons (de_ty (n := "tuple") (by rfl) T.n_tuple bt_tuple) da_nil))) (de_and (de_cmp (op_eq2 hr.units) snd_eq (de_callB call_len snd_len bt_len T.n_len (da_cons (de_var 1) da_nil)) (de_var 0) (nomark _)) (pe_one (de_callB (cr_all rfl) (snd_bools _) bt_all T.n_all (da_cons (de_lc (own := [("one", 2)]) fin_I nd (di_seq (de_var 1)) (show blkC ["many", "thing", "one"] (defScope (topS 18)) _ _ = true from by decide +kernel) (fun _ _ _ _ _ => by exact (dt_nm 2 nd)) (fun _ _ _ _ _ => by exact dts_yes) (fun _ _ _ _ _ => by exact (de_call (X := Cx.blk _ _ _ _ _ _) (ps := ["thing"]) (F := F_is_number) (w := w0) G_is_number (by exact hr.mono (by decide)) (by exact hG) (fun σ => passAt0 σ) (da_cons (de_var 2) da_nil)))) da_nil)))))))
omit T in
theorem sc27 : FnScope ["_law_flow", "_law_size", "_law_numbers_here", "_law_k"] ["_law_flow", "_law_size"] (defScope (topS 27)) := ⟨rfl, rfl, rfl, by decide +kernel, rfl, by decide +kernel, by decide +kernel⟩
theorem G__law_numbers : Fd P wd K mg base "_law_numbers" 3 ["_law_flow", "_law_size"] F__law_numbers (f 27) (fd 27) := by
  have G__law_draw : Fd P wd K mg base _ _ _ _ _ _ := G__law_draw T
  have G__law_number : Fd P wd K mg base _ _ _ _ _ _ := G__law_number T
  refine mk_fd (b := b__law_numbers) T.u27 sc27 T.g27 T.b27 (fun cdv A outer s H E hr hG tk hP => ?_) (fun ds S _ => LeAt.cut)
  have nd := sc27.nd
  exact (ds_cons (ds_set 2 (de_lstM da_nil) nd)
  (ds_cons (ds_for hP (di_rng1 (da_cons (de_var 1) da_nil) T.n_range) (dt_nm 3 nd) (ds_one (ds_if (de_tcmp (op_eq2 hr.units) snd_eq (de_call G__law_draw (hr.mono (by decide)) hG (fun σ => passAt tk σ) (da_cons (de_var 0) (da_cons de_int da_nil))) de_int (nomark _)) (ds_one (ds_expr (de_append (de_var 2) (de_ix (de_lst (da_cons de_int (da_cons (de_op op_pow snd_pow de_int de_int) (da_cons (de_op op_pow snd_pow de_int de_int) da_nil)))) (de_call G__law_draw (hr.mono (by decide)) hG (fun σ => passAt tk σ) (da_cons (de_var 0) (da_cons de_int da_nil))))))) (ds_one (ds_expr (de_append (de_var 2) (de_call G__law_number (hr.mono (by decide)) hG (fun σ => passAt tk σ) (da_cons (de_var 0) da_nil))))))))
  (ds_one (ds_ret (de_callTy call_tuple_of snd_tuple bt_tuple T.n_tuple (da_cons (de_var 2) da_nil))))))
omit T in
theorem sc28 : FnScope ["_law_flow", "_law_top", "_law_bottom", "_law_k"] ["_law_flow"] (defScope (topS 28)) := ⟨rfl, rfl, rfl, by decide +kernel, rfl, by decide +kernel, by decide +kernel⟩
theorem G__law_coprime : Fd P wd K mg base "_law_coprime" 3 ["_law_flow"] F__law_coprime (f 28) (fd 28) := by
  have G__law_draw : Fd P wd K mg base _ _ _ _ _ _ := G__law_draw T
  have G__law_number : Fd P wd K mg base _ _ _ _ _ _ := G__law_number T
  refine mk_fd (b := b__law_coprime) T.u28 sc28 T.g28 T.b28 (fun cdv A outer s H E hr hG tk hP => ?_) (fun ds S _ => LeAt.refl)
  have nd := sc28.nd
  exact (ds_cons (ds_set 1 (de_call G__law_number (hr.mono (by decide)) hG (fun σ => passAt tk σ) (da_cons (de_var 0) da_nil)) nd)
  (ds_cons (ds_set 2 de_int nd)
  (ds_cons (ds_for hP (di_rng1 (da_cons (de_call G__law_draw (hr.mono (by decide)) hG (fun σ => passAt tk σ) (da_cons (de_var 0) (da_cons de_int da_nil))) da_nil) T.n_range) (dt_nm 3 nd) (ds_one (ds_par 1 2 (de_var 2) (de_op op_add4 snd_add (de_var 1) (de_op op_mul4 snd_mul (de_op op_add4 snd_add de_int (de_call G__law_draw (hr.mono (by decide)) hG (fun σ => passAt tk σ) (da_cons (de_var 0) (da_cons de_int da_nil)))) (de_var 2))) nd)))
  (ds_one (ds_ret (de_tup (da_cons (de_var 1) (da_cons (de_var 2) da_nil))))))))
omit T in
theorem sc39 : FnScope ["_law_flow", "_law_size", "_law_deeds", "_law_parts", "_law_found", "_law_k", "_law_at", "_law_part", "_law_odd", "_law_built", "_law_due", "_law_first", "_law_told_here", "_law_thing", "_law_deed", "_law_pair"] ["_law_flow", "_law_size", "_law_deeds"] (defScope (topS 39)) := ⟨rfl, rfl, rfl, by decide +kernel, rfl, by decide +kernel, by decide +kernel⟩
theorem G__law_spoilt : Fd P wd K mg base "_law_spoilt" 3 ["_law_flow", "_law_size", "_law_deeds"] F__law_spoilt (f 39) (fd 39) := by
  have G__law_draw : Fd P wd K mg base _ _ _ _ _ _ := G__law_draw T
  have G__law_bad_numbers : Fd P wd K mg base _ _ _ _ _ _ := G__law_bad_numbers T
  have G__law_no_pairs : Fd P wd K mg base _ _ _ _ _ _ := G__law_no_pairs T
  refine mk_fd (b := b__law_spoilt) T.u39 sc39 T.g39 T.b39 (fun cdv A outer s H E hr hG tk hP => ?_) (fun ds S _ => LeAt.cut)
  have nd := sc39.nd
  exact (ds_cons (ds_setLc 3 (own := [("_law_deed", 14)]) fin_M nd (di_seq (de_var 2)) (show blkC ["_law_flow", "_law_size", "_law_deeds", "_law_parts", "_law_found", "_law_k", "_law_at", "_law_part", "_law_odd", "_law_built", "_law_due", "_law_first", "_law_told_here", "_law_thing", "_law_deed", "_law_pair"] (defScope (topS 39)) _ _ = true from by decide +kernel) (fun _ _ _ _ _ => by exact (dt_nm 14 nd)) (fun _ _ _ _ _ => by exact dts_yes) (fun _ _ _ _ _ => by exact (de_lstM (da_cons (de_ix (de_var 14) de_int) (da_cons (de_ix (de_var 14) de_int) da_nil)))))
  (ds_cons (ds_set 4 (de_lstM da_nil) nd)
  (ds_cons (ds_for hP (di_rng1 (da_cons de_int da_nil) T.n_range) (dt_nm 5 nd) (ds_cons (ds_set 6 (de_call G__law_draw (hr.mono (by decide)) hG (fun σ => passAt tk σ) (da_cons (de_var 0) (da_cons (de_op op_add4 snd_add (de_callB call_len snd_len bt_len T.n_len (da_cons (de_var 2) da_nil)) de_int) da_nil))) nd)
  (ds_one (ds_if (de_tcmp op_lt snd_cmp (de_var 6) (de_callB call_len snd_len bt_len T.n_len (da_cons (de_var 2) da_nil)) (nomark _)) (ds_cons (ds_set 7 (de_call G__law_draw (hr.mono (by decide)) hG (fun σ => passAt tk σ) (da_cons (de_var 0) (da_cons de_int da_nil))) nd)
  (ds_cons (ds_set 8 (de_call G__law_bad_numbers (hr.mono (by decide)) hG (fun σ => passAt tk σ) (da_cons (de_var 0) (da_cons (de_ix (de_ix (de_var 2) (de_var 6)) (de_var 7)) da_nil))) nd)
  (ds_cons (ds_setIx (de_ix (de_var 3) (de_var 6)) (de_var 7) (de_ix (de_var 8) (de_call G__law_draw (hr.mono (by decide)) hG (fun σ => passAt tk σ) (da_cons (de_var 0) (da_cons (de_callB call_len snd_len bt_len T.n_len (da_cons (de_var 8) da_nil)) da_nil)))))
  (ds_one (ds_expr (de_append (de_var 4) (de_tup (da_cons (de_var 6) (da_cons (de_op op_add4 snd_add de_int (de_var 7)) da_nil))))))))) ds_nil))))
  (ds_cons (ds_setLc 9 (own := [("_law_pair", 15)]) fin_M nd (di_seq (de_var 3)) (show blkC ["_law_flow", "_law_size", "_law_deeds", "_law_parts", "_law_found", "_law_k", "_law_at", "_law_part", "_law_odd", "_law_built", "_law_due", "_law_first", "_law_told_here", "_law_thing", "_law_deed", "_law_pair"] (defScope (topS 39)) _ _ = true from by decide +kernel) (fun _ _ _ _ _ => by exact (dt_nm 15 nd)) (fun _ _ _ _ _ => by exact dts_yes) (fun _ _ _ _ _ => by exact (de_tup (da_cons (de_ix (de_var 15) de_int) (da_cons (de_ix (de_var 15) de_int) da_nil)))))
  (ds_cons (ds_if (PW.pt (de_wand (de_tcmp op_gt snd_cmp (de_callB call_len snd_len bt_len T.n_len (da_cons (de_var 2) da_nil)) de_int (nomark _)) (de_wand1 (de_tcmp (op_eq2 hr.units) snd_eq (de_call G__law_draw (hr.mono (by decide)) hG (fun σ => passAt tk σ) (da_cons (de_var 0) (da_cons de_int da_nil))) de_int (nomark _))))) (ds_cons (ds_set 6 (de_call G__law_draw (hr.mono (by decide)) hG (fun σ => passAt tk σ) (da_cons (de_var 0) (da_cons (de_callB call_len snd_len bt_len T.n_len (da_cons (de_var 2) da_nil)) da_nil))) nd)
  (ds_cons (ds_set 8 (de_call G__law_no_pairs (hr.mono (by decide)) hG (fun σ => passAt tk σ) (da_cons (de_ix (de_ix (de_var 3) (de_var 6)) de_int) (da_cons (de_ix (de_ix (de_var 3) (de_var 6)) de_int) da_nil))) nd)
  (ds_cons (ds_setIx (de_var 9) (de_var 6) (de_ix (de_var 8) (de_call G__law_draw (hr.mono (by decide)) hG (fun σ => passAt tk σ) (da_cons (de_var 0) (da_cons (de_callB call_len snd_len bt_len T.n_len (da_cons (de_var 8) da_nil)) da_nil)))))
  (ds_one (ds_expr (de_append (de_var 4) (de_tup (da_cons (de_var 6) (da_cons de_int da_nil))))))))) ds_nil)
  (ds_cons (ds_set 10 (de_tup (da_cons de_str (da_cons (de_callB call_len snd_len bt_len T.n_len (da_cons (de_var 2) da_nil)) da_nil))) nd)
  (ds_cons (ds_if (de_tcmp op_gt snd_cmp (de_callB call_len snd_len bt_len T.n_len (da_cons (de_var 4) da_nil)) de_int (nomark _)) (ds_cons (ds_set 11 (de_callB (call_minPairs rfl hr.units) snd_minP bt_min T.n_min (da_cons (de_var 4) da_nil)) nd)
  (ds_one (ds_set 10 (de_tup (da_cons de_str (da_cons (de_ix (de_lst (da_cons de_str (da_cons de_str (da_cons de_str da_nil)))) (de_ix (de_var 11) de_int)) (da_cons (de_ix (de_var 11) de_int) da_nil)))) nd))) ds_nil)
  (ds_cons (ds_set 12 (de_callTy call_tuple_of snd_tuple bt_tuple T.n_tuple (da_cons (de_var 9) da_nil)) nd)
  (ds_cons (ds_if (de_tcmp (op_eq2 hr.units) snd_eq (de_call G__law_draw (hr.mono (by decide)) hG (fun σ => passAt tk σ) (da_cons (de_var 0) (da_cons de_int da_nil))) de_int (nomark _)) (ds_cons (ds_set 12 (de_ix (de_lst (da_cons (de_callTy call_list_of snd_list bt_list T.n_list (da_cons (de_var 9) da_nil)) (da_cons de_non (da_cons de_int (da_cons de_str (da_cons (de_lst da_nil) (da_cons de_str da_nil))))))) (de_call G__law_draw (hr.mono (by decide)) hG (fun σ => passAt tk σ) (da_cons (de_var 0) (da_cons de_int da_nil)))) nd)
  (ds_one (ds_set 10 (de_tup (da_cons de_str (da_cons de_str (da_cons (de_un un_neg snd_neg de_int) da_nil)))) nd))) ds_nil)
  (ds_cons (ds_if (de_tcmp (op_eq2 hr.units) snd_eq (de_call G__law_draw (hr.mono (by decide)) hG (fun σ => passAt tk σ) (da_cons (de_var 0) (da_cons de_int da_nil))) de_int (nomark _)) (ds_cons (ds_set 1 (de_ix (de_lst (da_cons de_bl (da_cons de_bl (da_cons de_int (da_cons (de_un un_neg snd_neg (de_var 1)) (da_cons de_non (da_cons de_str (da_cons (de_tup (da_cons (de_var 1) da_nil)) (da_cons (de_lst (da_cons (de_var 1) da_nil)) (da_cons (de_un un_neg snd_neg (de_op op_pow snd_pow de_int de_int)) da_nil)))))))))) (de_call G__law_draw (hr.mono (by decide)) hG (fun σ => passAt tk σ) (da_cons (de_var 0) (da_cons de_int da_nil)))) nd)
  (ds_one (ds_set 10 (de_tup (da_cons de_str (da_cons de_str (da_cons (de_un un_neg snd_neg de_int) da_nil)))) nd))) ds_nil)
  (ds_cons (ds_set 13 (de_tup (da_cons (de_var 1) (da_cons (de_var 12) da_nil))) nd)
  (ds_cons (ds_if (de_tcmp (op_eq2 hr.units) snd_eq (de_call G__law_draw (hr.mono (by decide)) hG (fun σ => passAt tk σ) (da_cons (de_var 0) (da_cons de_int da_nil))) de_int (nomark _)) (ds_cons (ds_set 8 (de_call G__law_no_pairs (hr.mono (by decide)) hG (fun σ => passAt tk σ) (da_cons (de_var 1) (da_cons (de_var 12) da_nil))) nd)
  (ds_cons (ds_set 13 (de_ix (de_var 8) (de_call G__law_draw (hr.mono (by decide)) hG (fun σ => passAt tk σ) (da_cons (de_var 0) (da_cons (de_callB call_len snd_len bt_len T.n_len (da_cons (de_var 8) da_nil)) da_nil)))) nd)
  (ds_one (ds_set 10 (de_tup (da_cons de_str (da_cons de_str (da_cons (de_un un_neg snd_neg de_int) da_nil)))) nd)))) ds_nil)
  (ds_one (ds_ret (de_tup (da_cons (de_var 13) (da_cons (de_callB (call_reprD hG hr.units) snd_repr bt_repr T.n_repr (da_cons (de_var 10) da_nil)) da_nil)))))))))))))))))
omit T in
theorem sc9 : FnScope ["thing"] ["thing"] (defScope (topS 9)) := ⟨rfl, rfl, rfl, by decide +kernel, rfl, by decide +kernel, by decide +kernel⟩
theorem G_is_quotient : Fd P wd K mg base "is_quotient" 4 ["thing"] F_is_quotient (f 9) (fd 9) := by
  have G_is_price : Fd P wd K mg base _ _ _ _ _ _ := G_is_price T
  refine mk_fd (b := b_is_quotient) T.u9 sc9 T.g9 T.b9 (fun cdv A outer s H E hr hG tk hP => ?_) (fun ds S _ => LeAt.refl)
  have nd := sc9.nd
  exact (ds_one (ds_ret (de_and (de_call G_is_price (hr.mono (by decide)) hG (fun σ => passAt tk σ) (da_cons (de_var 0) da_nil)) (pe_one (de_cmp op_gt snd_cmp (de_ix (de_var 0) de_int) de_int (nomark _))))))
omit T in
theorem sc12 : FnScope ["size", "thing", "price"] ["size", "thing"] (defScope (topS 12)) := ⟨rfl, rfl, rfl, by decide +kernel, rfl, by decide +kernel, by decide +kernel⟩
theorem G_is_row : Fd P wd K mg base "is_row" 4 ["size", "thing"] F_is_row (f 12) (fd 12) := by
  have G_is_price : Fd P wd K mg base _ _ _ _ _ _ := G_is_price T
  refine mk_fd (b := b_is_row) T.u12 sc12 T.g12 T.b12 (fun cdv A outer s H E hr hG tk hP => ?_) (fun ds S _ => LeAt.refl)
  have nd := sc12.nd
  exact (ds_one (ds_ret (de_and (de_callB call_isi snd_isi bt_isinstance T.n_isinstance (da_cons (de_var 1) (da_cons (de_ty (n := "tuple") (by rfl) T.n_tuple bt_tuple) da_nil))) (de_and (de_cmp (op_eq2 hr.units) snd_eq (de_callB call_len snd_len bt_len T.n_len (da_cons (de_var 1) da_nil)) (de_var 0) (nomark _)) (pe_one (de_callB (cr_all rfl) (snd_bools _) bt_all T.n_all (da_cons (de_lc (own := [("price", 2)]) fin_I nd (di_seq (de_var 1)) (show blkC ["size", "thing", "price"] (defScope (topS 12)) _ _ = true from by decide +kernel) (fun _ _ _ _ _ => by exact (dt_nm 2 nd)) (fun _ _ _ _ _ => by exact dts_yes) (fun _ _ _ _ _ => by exact (de_call (X := Cx.blk _ _ _ _ _ _) (ps := ["thing"]) (F := F_is_price) (w := w0) G_is_price (by exact hr.mono (by decide)) (by exact hG) (fun σ => passAt0 σ) (da_cons (de_var 2) da_nil)))) da_nil)))))))
omit T in
theorem sc13 : FnScope ["size", "thing"] ["size", "thing"] (defScope (topS 13)) := ⟨rfl, rfl, rfl, by decide +kernel, rfl, by decide +kernel, by decide +kernel⟩
theorem G_is_lot : Fd P wd K mg base "is_lot" 4 ["size", "thing"] F_is_lot (f 13) (fd 13) := by
  have G_is_ascending : Fd P wd K mg base _ _ _ _ _ _ := G_is_ascending T
  refine mk_fd (b := b_is_lot) T.u13 sc13 T.g13 T.b13 (fun cdv A outer s H E hr hG tk hP => ?_) (fun ds S _ => LeAt.refl)
  have nd := sc13.nd
  exact (ds_one (ds_ret (de_and (de_call G_is_ascending (hr.mono (by decide)) hG (fun σ => passAt tk σ) (da_cons (de_var 1) da_nil)) (pe_one (de_or (de_cmp (op_eq2 hr.units) snd_eq (de_var 1) (de_tup da_nil) (nomark _)) (pe_one (de_cmp op_lt snd_cmp (de_ix (de_var 1) (de_un un_neg snd_neg de_int)) (de_var 0) (nomark _))))))))
omit T in
theorem sc20 : FnScope ["size", "thing"] ["size", "thing"] (defScope (topS 20)) := ⟨rfl, rfl, rfl, by decide +kernel, rfl, by decide +kernel, by decide +kernel⟩
theorem G_is_deed : Fd P wd K mg base "is_deed" 4 ["size", "thing"] F_is_deed (f 20) (fd 20) := by
  have G_is_pair : Fd P wd K mg base _ _ _ _ _ _ := G_is_pair T
  have G_is_numbers : Fd P wd K mg base _ _ _ _ _ _ := G_is_numbers T
  refine mk_fd (b := b_is_deed) T.u20 sc20 T.g20 T.b20 (fun cdv A outer s H E hr hG tk hP => ?_) (fun ds S _ => LeAt.refl)
  have nd := sc20.nd
  exact (ds_one (ds_ret (de_and (de_call G_is_pair (hr.mono (by decide)) hG (fun σ => passAt tk σ) (da_cons (de_var 1) da_nil)) (de_and (de_call G_is_numbers (hr.mono (by decide)) hG (fun σ => passAt tk σ) (da_cons (de_var 0) (da_cons (de_ix (de_var 1) de_int) da_nil))) (pe_one (de_call G_is_numbers (hr.mono (by decide)) hG (fun σ => passAt tk σ) (da_cons (de_var 0) (da_cons (de_ix (de_var 1) de_int) da_nil))))))))
omit T in
theorem sc21 : FnScope ["size", "deed", "place"] ["size", "deed", "place"] (defScope (topS 21)) := ⟨rfl, rfl, rfl, by decide +kernel, rfl, by decide +kernel, by decide +kernel⟩
theorem G_check_deed : Fd P wd K mg base "check_deed" 4 ["size", "deed", "place"] F_check_deed (f 21) (fd 21) := by
  have G_is_pair : Fd P wd K mg base _ _ _ _ _ _ := G_is_pair T
  have G_is_numbers : Fd P wd K mg base _ _ _ _ _ _ := G_is_numbers T
  refine mk_fd (b := b_check_deed) T.u21 sc21 T.g21 T.b21 (fun cdv A outer s H E hr hG tk hP => ?_) (fun ds S _ => LeAt.refl)
  have nd := sc21.nd
  exact (ds_cons (ds_if (de_tnot (de_truth (de_call G_is_pair (hr.mono (by decide)) hG (fun σ => passAt tk σ) (da_cons (de_var 1) da_nil)))) (ds_one (ds_raise T.x_InvalidPaper (ini_InvalidPaper T) T.xb_InvalidPaper (hr.mono (by decide)) tk (da_cons de_str (da_cons (de_var 2) da_nil)))) ds_nil)
  (ds_cons (ds_if (de_tnot (de_truth (de_call G_is_numbers (hr.mono (by decide)) hG (fun σ => passAt tk σ) (da_cons (de_var 0) (da_cons (de_ix (de_var 1) de_int) da_nil))))) (ds_one (ds_raise T.x_InvalidPaper (ini_InvalidPaper T) T.xb_InvalidPaper (hr.mono (by decide)) tk (da_cons de_str (da_cons (de_var 2) da_nil)))) ds_nil)
  (ds_one (ds_if (de_tnot (de_truth (de_call G_is_numbers (hr.mono (by decide)) hG (fun σ => passAt tk σ) (da_cons (de_var 0) (da_cons (de_ix (de_var 1) de_int) da_nil))))) (ds_one (ds_raise T.x_InvalidPaper (ini_InvalidPaper T) T.xb_InvalidPaper (hr.mono (by decide)) tk (da_cons de_str (da_cons (de_var 2) da_nil)))) ds_nil))))
omit T in
theorem sc11 : FnScope ["size", "thing", "amount"] ["size", "thing"] (defScope (topS 11)) := ⟨rfl, rfl, rfl, by decide +kernel, rfl, by decide +kernel, by decide +kernel⟩
theorem G_is_fill : Fd P wd K mg base "is_fill" 5 ["size", "thing"] F_is_fill (f 11) (fd 11) := by
  have G_is_quotient : Fd P wd K mg base _ _ _ _ _ _ := G_is_quotient T
  refine mk_fd (b := b_is_fill) T.u11 sc11 T.g11 T.b11 (fun cdv A outer s H E hr hG tk hP => ?_) (fun ds S _ => LeAt.refl)
  have nd := sc11.nd
  exact (ds_one (ds_ret (de_and (de_callB call_isi snd_isi bt_isinstance T.n_isinstance (da_cons (de_var 1) (da_cons (de_ty (n := "tuple") (by rfl) T.n_tuple bt_tuple) da_nil))) (de_and (de_cmp (op_eq2 hr.units) snd_eq (de_callB call_len snd_len bt_len T.n_len (da_cons (de_var 1) da_nil)) (de_var 0) (nomark _)) (pe_one (de_callB (cr_all rfl) (snd_bools _) bt_all T.n_all (da_cons (de_lc (own := [("amount", 2)]) fin_I nd (di_seq (de_var 1)) (show blkC ["size", "thing", "amount"] (defScope (topS 11)) _ _ = true from by decide +kernel) (fun _ _ _ _ _ => by exact (dt_nm 2 nd)) (fun _ _ _ _ _ => by exact dts_yes) (fun _ _ _ _ _ => by exact (de_call (X := Cx.blk _ _ _ _ _ _) (ps := ["thing"]) (F := F_is_quotient) (w := w0) G_is_quotient (by exact hr.mono (by decide)) (by exact hG) (fun σ => passAt0 σ) (da_cons (de_var 2) da_nil)))) da_nil)))))))
omit T in
theorem sc22 : FnScope ["thing", "size", "deeds", "place", "deed"] ["thing"] (defScope (topS 22)) := ⟨rfl, rfl, rfl, by decide +kernel, rfl, by decide +kernel, by decide +kernel⟩
theorem G_lets_book : Fd P wd K mg base "lets_book" 5 ["thing"] F_lets_book (f 22) (fd 22) := by
  have G_is_pair : Fd P wd K mg base _ _ _ _ _ _ := G_is_pair T
  have G_is_whole : Fd P wd K mg base _ _ _ _ _ _ := G_is_whole T
  have G_check_deed : Fd P wd K mg base _ _ _ _ _ _ := G_check_deed T
  refine mk_fd (b := b_lets_book) T.u22 sc22 T.g22 T.b22 (fun cdv A outer s H E hr hG tk hP => ?_) (fun ds S _ => LeAt.refl)
  have nd := sc22.nd
  exact (ds_cons (ds_if (de_tnot (de_truth (de_call G_is_pair (hr.mono (by decide)) hG (fun σ => passAt tk σ) (da_cons (de_var 0) da_nil)))) (ds_one (ds_raise T.x_InvalidPaper (ini_InvalidPaper T) T.xb_InvalidPaper (hr.mono (by decide)) tk (da_cons de_str (da_cons (de_un un_neg snd_neg de_int) da_nil)))) ds_nil)
  (ds_cons (ds_asg (de_var 0) (dt_tp (dts_cons (dt_nm 1 nd) (dts_cons (dt_nm 2 nd) dts_nil))))
  (ds_cons (ds_if (de_tnot (de_truth (de_call G_is_whole (hr.mono (by decide)) hG (fun σ => passAt tk σ) (da_cons (de_var 1) da_nil)))) (ds_one (ds_raise T.x_InvalidPaper (ini_InvalidPaper T) T.xb_InvalidPaper (hr.mono (by decide)) tk (da_cons de_str (da_cons (de_un un_neg snd_neg de_int) da_nil)))) ds_nil)
  (ds_cons (ds_if (de_tnot (de_truth (de_callB call_isi snd_isi bt_isinstance T.n_isinstance (da_cons (de_var 2) (da_cons (de_ty (n := "tuple") (by rfl) T.n_tuple bt_tuple) da_nil))))) (ds_one (ds_raise T.x_InvalidPaper (ini_InvalidPaper T) T.xb_InvalidPaper (hr.mono (by decide)) tk (da_cons de_str (da_cons (de_un un_neg snd_neg de_int) da_nil)))) ds_nil)
  (ds_cons (ds_for hP (di_enumT (da_cons (de_var 2) da_nil) T.n_enumerate) (dt_tp (dts_cons (dt_nm 3 nd) (dts_cons (dt_nm 4 nd) dts_nil))) (ds_one (ds_expr (de_call G_check_deed (hr.mono (by decide)) hG (fun σ => passAt tk σ) (da_cons (de_var 1) (da_cons (de_var 4) (da_cons (de_var 3) da_nil)))))))
  (ds_one (ds_ret (de_callB call_len snd_len bt_len T.n_len (da_cons (de_var 2) da_nil)))))))))
omit T in
theorem sc23 : FnScope ["thing", "deed"] ["thing"] (defScope (topS 23)) := ⟨rfl, rfl, rfl, by decide +kernel, rfl, by decide +kernel, by decide +kernel⟩
theorem G_is_book : Fd P wd K mg base "is_book" 5 ["thing"] F_is_book (f 23) (fd 23) := by
  have G_is_pair : Fd P wd K mg base _ _ _ _ _ _ := G_is_pair T
  have G_is_whole : Fd P wd K mg base _ _ _ _ _ _ := G_is_whole T
  have G_is_deed : Fd P wd K mg base _ _ _ _ _ _ := G_is_deed T
  refine mk_fd (b := b_is_book) T.u23 sc23 T.g23 T.b23 (fun cdv A outer s H E hr hG tk hP => ?_) (fun ds S _ => LeAt.refl)
  have nd := sc23.nd
  exact (ds_cons (ds_if (de_tnot (PW.pt (de_wand (de_truth (de_call G_is_pair (hr.mono (by decide)) hG (fun σ => passAt tk σ) (da_cons (de_var 0) da_nil))) (de_wand (de_truth (de_call G_is_whole (hr.mono (by decide)) hG (fun σ => passAt tk σ) (da_cons (de_ix (de_var 0) de_int) da_nil))) (de_wand1 (de_truth (de_callB call_isi snd_isi bt_isinstance T.n_isinstance (da_cons (de_ix (de_var 0) de_int) (da_cons (de_ty (n := "tuple") (by rfl) T.n_tuple bt_tuple) da_nil))))))))) (ds_one (ds_ret de_bl)) ds_nil)
  (ds_one (ds_ret (de_callB (cr_all rfl) (snd_bools _) bt_all T.n_all (da_cons (de_lc (own := [("deed", 1)]) fin_I nd (di_seq (de_ix (de_var 0) de_int)) (show blkC ["thing", "deed"] (defScope (topS 23)) _ _ = true from by decide +kernel) (fun _ _ _ _ _ => by exact (dt_nm 1 nd)) (fun _ _ _ _ _ => by exact dts_yes) (fun _ _ _ _ _ => by exact (de_call (X := Cx.blk _ _ _ _ _ _) (ps := ["size", "thing"]) (F := F_is_deed) (w := w0) G_is_deed (by exact hr.mono (by decide)) (by exact hG) (fun σ => passAt0 σ) (da_cons (de_ix (de_var 0) de_int) (da_cons (de_var 1) da_nil))))) da_nil)))))
omit T in
theorem sc31 : FnScope ["_law_flow", "_law_number_here", "_law_great", "_law_good", "_law_one", "_law_odd"] ["_law_flow"] (defScope (topS 31)) := ⟨rfl, rfl, rfl, by decide +kernel, rfl, by decide +kernel, by decide +kernel⟩
theorem G__law_integers_hold : Fd P wd K mg base "_law_integers_hold" 5 ["_law_flow"] F__law_integers_hold (f 31) (fd 31) := by
  have G_is_integer : Fd P wd K mg base _ _ _ _ _ _ := G_is_integer T
  have G_is_number : Fd P wd K mg base _ _ _ _ _ _ := G_is_number T
  have G_is_quotient : Fd P wd K mg base _ _ _ _ _ _ := G_is_quotient T
  have G_is_price : Fd P wd K mg base _ _ _ _ _ _ := G_is_price T
  have G__law_number : Fd P wd K mg base _ _ _ _ _ _ := G__law_number T
  have G__law_is : Fd P wd K mg base _ _ _ _ _ _ := G__law_is T
  refine mk_fd (b := b__law_integers_hold) T.u31 sc31 T.g31 T.b31 (fun cdv A outer s H E hr hG tk hP => ?_) (fun ds S _ => LeAt.refl)
  have nd := sc31.nd
  exact (ds_cons (ds_set 1 (de_call G__law_number (hr.mono (by decide)) hG (fun σ => passAt tk σ) (da_cons (de_var 0) da_nil)) nd)
  (ds_cons (ds_set 2 (de_op op_add4 snd_add (de_op op_pow snd_pow de_int de_int) (de_var 1)) nd)
  (ds_cons (ds_set 3 (de_lst (da_cons (de_var 1) (da_cons de_int (da_cons de_int (da_cons (de_var 2) da_nil))))) nd)
  (ds_cons (ds_for hP (di_seq (de_var 3)) (dt_nm 4 nd) (ds_cons (ds_if (de_tnot (PW.pt (de_wand (de_truth (de_call G__law_is (hr.mono (by decide)) hG (fun σ => passAt tk σ) (da_cons (de_call G_is_integer (hr.mono (by decide)) hG (fun σ => passAt tk σ) (da_cons (de_var 4) da_nil)) (da_cons de_bl da_nil)))) (de_wand1 (de_truth (de_call G__law_is (hr.mono (by decide)) hG (fun σ => passAt tk σ) (da_cons (de_callK0 G_is_number T.k0 (hr.mono (by decide)) hG (fun σ => passAt tk σ) (dk_cons (de_var 4) dk_nil)) (da_cons de_bl da_nil)))))))) (ds_one (ds_ret de_bl)) ds_nil)
  (ds_one (ds_if (de_tnot (PW.pt (de_wand (de_truth (de_call G__law_is (hr.mono (by decide)) hG (fun σ => passAt tk σ) (da_cons (de_callK0 G_is_integer T.k1 (hr.mono (by decide)) hG (fun σ => passAt tk σ) (dk_cons (de_op op_sub snd_sub (de_un un_neg snd_neg de_int) (de_var 4)) dk_nil)) (da_cons de_bl da_nil)))) (de_wand1 (de_truth (de_call G__law_is (hr.mono (by decide)) hG (fun σ => passAt tk σ) (da_cons (de_call G_is_number (hr.mono (by decide)) hG (fun σ => passAt tk σ) (da_cons (de_op op_sub snd_sub (de_un un_neg snd_neg de_int) (de_var 4)) da_nil)) (da_cons de_bl da_nil)))))))) (ds_one (ds_ret de_bl)) ds_nil))))
  (ds_cons (ds_for hP (di_seq (de_lst (da_cons de_bl (da_cons de_bl (da_cons de_non (da_cons de_str (da_cons de_str (da_cons (de_callTy call_str_int snd_str bt_str T.n_str (da_cons (de_var 1) da_nil)) (da_cons (de_tup da_nil) (da_cons (de_tup (da_cons (de_var 1) da_nil)) (da_cons (de_lst (da_cons (de_var 1) da_nil)) (da_cons (de_lst da_nil) (da_cons (de_tup (da_cons (de_tup da_nil) da_nil)) da_nil))))))))))))) (dt_nm 5 nd) (ds_cons (ds_if (de_tnot (PW.pt (de_wand (de_truth (de_call G__law_is (hr.mono (by decide)) hG (fun σ => passAt tk σ) (da_cons (de_call G_is_integer (hr.mono (by decide)) hG (fun σ => passAt tk σ) (da_cons (de_var 5) da_nil)) (da_cons de_bl da_nil)))) (de_wand1 (de_truth (de_call G__law_is (hr.mono (by decide)) hG (fun σ => passAt tk σ) (da_cons (de_call G_is_number (hr.mono (by decide)) hG (fun σ => passAt tk σ) (da_cons (de_var 5) da_nil)) (da_cons de_bl da_nil)))))))) (ds_one (ds_ret de_bl)) ds_nil)
  (ds_one (ds_if (de_tnot (PW.pt (de_wand (de_truth (de_call G__law_is (hr.mono (by decide)) hG (fun σ => passAt tk σ) (da_cons (de_call G_is_quotient (hr.mono (by decide)) hG (fun σ => passAt tk σ) (da_cons (de_var 5) da_nil)) (da_cons de_bl da_nil)))) (de_wand1 (de_truth (de_call G__law_is (hr.mono (by decide)) hG (fun σ => passAt tk σ) (da_cons (de_call G_is_price (hr.mono (by decide)) hG (fun σ => passAt tk σ) (da_cons (de_var 5) da_nil)) (da_cons de_bl da_nil)))))))) (ds_one (ds_ret de_bl)) ds_nil))))
  (ds_one (ds_ret de_bl)))))))
omit T in
theorem sc34 : FnScope ["_law_flow", "_law_size", "_law_lot", "_law_odd", "_law_last", "_law_at", "_law_thing", "_law_k"] ["_law_flow"] (defScope (topS 34)) := ⟨rfl, rfl, rfl, by decide +kernel, rfl, by decide +kernel, by decide +kernel⟩
theorem G__law_lots_hold : Fd P wd K mg base "_law_lots_hold" 5 ["_law_flow"] F__law_lots_hold (f 34) (fd 34) := by
  have G_is_lot : Fd P wd K mg base _ _ _ _ _ _ := G_is_lot T
  have G__law_draw : Fd P wd K mg base _ _ _ _ _ _ := G__law_draw T
  have G__law_is : Fd P wd K mg base _ _ _ _ _ _ := G__law_is T
  refine mk_fd (b := b__law_lots_hold) T.u34 sc34 T.g34 T.b34 (fun cdv A outer s H E hr hG tk hP => ?_) (fun ds S _ => LeAt.refl)
  have nd := sc34.nd
  exact (ds_cons (ds_set 1 (de_call G__law_draw (hr.mono (by decide)) hG (fun σ => passAt tk σ) (da_cons (de_var 0) (da_cons de_int da_nil))) nd)
  (ds_cons (ds_set 2 (de_callTy call_tuple_of snd_tuple bt_tuple T.n_tuple (da_cons (de_lc (own := [("_law_k", 7)]) fin_I nd (di_rng1 (da_cons (de_var 1) da_nil) T.n_range) (show blkC ["_law_flow", "_law_size", "_law_lot", "_law_odd", "_law_last", "_law_at", "_law_thing", "_law_k"] (defScope (topS 34)) _ _ = true from by decide +kernel) (fun _ _ _ _ _ => by exact (dt_nm 7 nd)) (fun _ _ _ _ _ => by exact (dts_if (de_tcmp op_gt snd_cmp (de_call (X := Cx.blk _ _ _ _ _ _) (ps := ["_law_flow", "_law_many"]) (F := F__law_draw) (w := w0) G__law_draw (by exact hr.mono (by decide)) (by exact hG) (fun σ => passAt0 σ) (da_cons (de_var 0) (da_cons de_int da_nil))) de_int (nomark _)))) (fun _ _ _ _ _ => by exact (de_var 7))) da_nil)) nd)
  (ds_cons (ds_if (de_tnot (PW.pt (de_wand (de_truth (de_call G__law_is (hr.mono (by decide)) hG (fun σ => passAt tk σ) (da_cons (de_call G_is_lot (hr.mono (by decide)) hG (fun σ => passAt tk σ) (da_cons (de_var 1) (da_cons (de_var 2) da_nil))) (da_cons de_bl da_nil)))) (de_wand1 (de_truth (de_call G__law_is (hr.mono (by decide)) hG (fun σ => passAt tk σ) (da_cons (de_callK0 G_is_lot T.k2 (hr.mono (by decide)) hG (fun σ => passAt tk σ) (dk_cons (de_var 2) (dk_cons (de_op op_add4 snd_add (de_var 1) de_int) dk_nil))) (da_cons de_bl da_nil)))))))) (ds_one (ds_ret de_bl)) ds_nil)
  (ds_cons (ds_set 3 (de_lst (da_cons (de_op op_add4 snd_add (de_var 2) (de_tup (da_cons (de_var 1) da_nil))) (da_cons (de_op op_add4 snd_add (de_tup (da_cons (de_un un_neg snd_neg de_int) da_nil)) (de_var 2)) (da_cons (de_callTy call_list_of snd_list bt_list T.n_list (da_cons (de_var 2) da_nil)) (da_cons (de_op op_add4 snd_add (de_tup (da_cons de_non da_nil)) (de_var 2)) (da_cons (de_op op_add4 snd_add (de_var 2) (de_tup (da_cons de_str da_nil))) (da_cons (de_tup (da_cons de_bl da_nil)) (da_cons (de_tup (da_cons de_int (da_cons de_bl da_nil))) (da_cons (de_tup (da_cons de_bl (da_cons de_int da_nil))) (da_cons (de_tup (da_cons (de_tup da_nil) da_nil)) da_nil)))))))))) nd)
  (ds_cons (ds_set 3 (de_op op_add4 snd_add (de_var 3) (de_lst (da_cons de_non (da_cons de_int (da_cons de_str (da_cons de_str (da_cons (de_op op_add4 snd_add (de_var 2) (de_tup (da_cons (de_op op_pow snd_pow de_int de_int) da_nil))) da_nil))))))) nd)
  (ds_cons (ds_if (de_tcmp op_gt snd_cmp (de_callB call_len snd_len bt_len T.n_len (da_cons (de_var 2) da_nil)) de_int (nomark _)) (ds_cons (ds_set 4 (de_ix (de_var 2) (de_op op_sub snd_sub (de_callB call_len snd_len bt_len T.n_len (da_cons (de_var 2) da_nil)) de_int)) nd)
  (ds_cons (ds_set 5 (de_call G__law_draw (hr.mono (by decide)) hG (fun σ => passAt tk σ) (da_cons (de_var 0) (da_cons (de_callB call_len snd_len bt_len T.n_len (da_cons (de_var 2) da_nil)) da_nil))) nd)
  (ds_cons (ds_if (de_tnot (PW.pt (de_wand (de_truth (de_call G__law_is (hr.mono (by decide)) hG (fun σ => passAt tk σ) (da_cons (de_call G_is_lot (hr.mono (by decide)) hG (fun σ => passAt tk σ) (da_cons (de_op op_add4 snd_add (de_var 4) de_int) (da_cons (de_var 2) da_nil))) (da_cons de_bl da_nil)))) (de_wand1 (de_truth (de_call G__law_is (hr.mono (by decide)) hG (fun σ => passAt tk σ) (da_cons (de_call G_is_lot (hr.mono (by decide)) hG (fun σ => passAt tk σ) (da_cons (de_var 4) (da_cons (de_var 2) da_nil))) (da_cons de_bl da_nil)))))))) (ds_one (ds_ret de_bl)) ds_nil)
  (ds_one (ds_set 3 (de_op op_add4 snd_add (de_var 3) (de_lst (da_cons (de_op op_add4 snd_add (de_slice (de_var 2) dp_none (dp_some (de_op op_add4 snd_add (de_var 5) de_int))) (de_slice (de_var 2) (dp_some (de_var 5)) dp_none)) (da_cons (de_op op_add4 snd_add (de_op op_add4 snd_add (de_slice (de_var 2) dp_none (dp_some (de_var 5))) (de_tup (da_cons (de_callTy call_bool1 snd_bool bt_bool T.n_bool (da_cons (de_var 5) da_nil)) da_nil))) (de_slice (de_var 2) (dp_some (de_op op_add4 snd_add (de_var 5) de_int)) dp_none)) (da_cons (de_ix (de_var 2) (de_var 5)) (da_cons (de_lst (da_cons (de_ix (de_var 2) (de_var 5)) da_nil)) (da_cons (de_tup (da_cons (de_var 2) da_nil)) da_nil))))))) nd))))) ds_nil)
  (ds_cons (ds_if (de_tcmp op_gt snd_cmp (de_callB call_len snd_len bt_len T.n_len (da_cons (de_var 2) da_nil)) de_int (nomark _)) (ds_cons (ds_set 5 (de_call G__law_draw (hr.mono (by decide)) hG (fun σ => passAt tk σ) (da_cons (de_var 0) (da_cons (de_op op_sub snd_sub (de_callB call_len snd_len bt_len T.n_len (da_cons (de_var 2) da_nil)) de_int) da_nil))) nd)
  (ds_one (ds_set 3 (de_op op_add4 snd_add (de_var 3) (de_lst (da_cons (de_op op_add4 snd_add (de_op op_add4 snd_add (de_slice (de_var 2) dp_none (dp_some (de_var 5))) (de_tup (da_cons (de_ix (de_var 2) (de_op op_add4 snd_add (de_var 5) de_int)) (da_cons (de_ix (de_var 2) (de_var 5)) da_nil)))) (de_slice (de_var 2) (dp_some (de_op op_add4 snd_add (de_var 5) de_int)) dp_none)) (da_cons (de_op op_add4 snd_add (de_slice (de_var 2) (dp_some de_int) dp_none) (de_slice (de_var 2) dp_none (dp_some de_int))) da_nil)))) nd))) ds_nil)
  (ds_cons (ds_for hP (di_seq (de_var 3)) (dt_nm 6 nd) (ds_one (ds_if (de_tnot (de_truth (de_call G__law_is (hr.mono (by decide)) hG (fun σ => passAt tk σ) (da_cons (de_call G_is_lot (hr.mono (by decide)) hG (fun σ => passAt tk σ) (da_cons (de_var 1) (da_cons (de_var 6) da_nil))) (da_cons de_bl da_nil))))) (ds_one (ds_ret de_bl)) ds_nil)))
  (ds_one (ds_ret (de_and (de_call G__law_is (hr.mono (by decide)) hG (fun σ => passAt tk σ) (da_cons (de_call G_is_lot (hr.mono (by decide)) hG (fun σ => passAt tk σ) (da_cons de_int (da_cons (de_tup da_nil) da_nil))) (da_cons de_bl da_nil))) (de_and (de_call G__law_is (hr.mono (by decide)) hG (fun σ => passAt tk σ) (da_cons (de_call G_is_lot (hr.mono (by decide)) hG (fun σ => passAt tk σ) (da_cons de_int (da_cons (de_tup (da_cons de_int da_nil)) da_nil))) (da_cons de_bl da_nil))) (pe_one (de_call G__law_is (hr.mono (by decide)) hG (fun σ => passAt tk σ) (da_cons (de_call G_is_lot (hr.mono (by decide)) hG (fun σ => passAt tk σ) (da_cons de_int (da_cons (de_tup da_nil) da_nil))) (da_cons de_bl da_nil))))))))))))))))
omit T in
theorem sc37 : FnScope ["_law_flow", "_law_size", "_law_take", "_law_give", "_law_nothing", "_law_odd", "_law_k"] ["_law_flow"] (defScope (topS 37)) := ⟨rfl, rfl, rfl, by decide +kernel, rfl, by decide +kernel, by decide +kernel⟩
theorem G__law_deeds_hold : Fd P wd K mg base "_law_deeds_hold" 5 ["_law_flow"] F__law_deeds_hold (f 37) (fd 37) := by
  have G_is_deed : Fd P wd K mg base _ _ _ _ _ _ := G_is_deed T
  have G__law_draw : Fd P wd K mg base _ _ _ _ _ _ := G__law_draw T
  have G__law_numbers : Fd P wd K mg base _ _ _ _ _ _ := G__law_numbers T
  have G__law_is : Fd P wd K mg base _ _ _ _ _ _ := G__law_is T
  have G__law_bad_numbers : Fd P wd K mg base _ _ _ _ _ _ := G__law_bad_numbers T
  have G__law_no_pairs : Fd P wd K mg base _ _ _ _ _ _ := G__law_no_pairs T
  refine mk_fd (b := b__law_deeds_hold) T.u37 sc37 T.g37 T.b37 (fun cdv A outer s H E hr hG tk hP => ?_) (fun ds S _ => LeAt.refl)
  have nd := sc37.nd
  exact (ds_cons (ds_set 1 (de_op op_add4 snd_add de_int (de_call G__law_draw (hr.mono (by decide)) hG (fun σ => passAt tk σ) (da_cons (de_var 0) (da_cons de_int da_nil)))) nd)
  (ds_cons (ds_set 2 (de_call G__law_numbers (hr.mono (by decide)) hG (fun σ => passAt tk σ) (da_cons (de_var 0) (da_cons (de_var 1) da_nil))) nd)
  (ds_cons (ds_set 3 (de_call G__law_numbers (hr.mono (by decide)) hG (fun σ => passAt tk σ) (da_cons (de_var 0) (da_cons (de_var 1) da_nil))) nd)
  (ds_cons (ds_if (de_tnot (PW.pt (de_wand (de_truth (de_call G__law_is (hr.mono (by decide)) hG (fun σ => passAt tk σ) (da_cons (de_call G_is_deed (hr.mono (by decide)) hG (fun σ => passAt tk σ) (da_cons (de_var 1) (da_cons (de_tup (da_cons (de_var 2) (da_cons (de_var 3) da_nil))) da_nil))) (da_cons de_bl da_nil)))) (de_wand1 (de_truth (de_call G__law_is (hr.mono (by decide)) hG (fun σ => passAt tk σ) (da_cons (de_call G_is_deed (hr.mono (by decide)) hG (fun σ => passAt tk σ) (da_cons (de_op op_add4 snd_add (de_var 1) de_int) (da_cons (de_tup (da_cons (de_var 2) (da_cons (de_var 3) da_nil))) da_nil))) (da_cons de_bl da_nil)))))))) (ds_one (ds_ret de_bl)) ds_nil)
  (ds_cons (ds_set 4 (de_callTy call_tuple_of snd_tuple bt_tuple T.n_tuple (da_cons (de_lc (own := [("_law_k", 6)]) fin_I nd (di_rng1 (da_cons (de_var 1) da_nil) T.n_range) (show blkC ["_law_flow", "_law_size", "_law_take", "_law_give", "_law_nothing", "_law_odd", "_law_k"] (defScope (topS 37)) _ _ = true from by decide +kernel) (fun _ _ _ _ _ => by exact (dt_nm 6 nd)) (fun _ _ _ _ _ => by exact dts_yes) (fun _ _ _ _ _ => by exact de_int)) da_nil)) nd)
  (ds_cons (ds_if (de_tnot (PW.pt (de_wand (de_truth (de_call G__law_is (hr.mono (by decide)) hG (fun σ => passAt tk σ) (da_cons (de_callK0 G_is_deed T.k3 (hr.mono (by decide)) hG (fun σ => passAt tk σ) (dk_cons (de_var 1) (dk_cons (de_tup (da_cons (de_var 4) (da_cons (de_var 4) da_nil))) dk_nil))) (da_cons de_bl da_nil)))) (de_wand1 (de_truth (de_call G__law_is (hr.mono (by decide)) hG (fun σ => passAt tk σ) (da_cons (de_call G_is_deed (hr.mono (by decide)) hG (fun σ => passAt tk σ) (da_cons (de_var 1) (da_cons (de_var 4) da_nil))) (da_cons de_bl da_nil)))))))) (ds_one (ds_ret de_bl)) ds_nil)
  (ds_cons (ds_for hP (di_seq (de_call G__law_bad_numbers (hr.mono (by decide)) hG (fun σ => passAt tk σ) (da_cons (de_var 0) (da_cons (de_var 2) da_nil)))) (dt_nm 5 nd) (ds_one (ds_if (de_tnot (PW.pt (de_wand (de_truth (de_call G__law_is (hr.mono (by decide)) hG (fun σ => passAt tk σ) (da_cons (de_call G_is_deed (hr.mono (by decide)) hG (fun σ => passAt tk σ) (da_cons (de_var 1) (da_cons (de_tup (da_cons (de_var 5) (da_cons (de_var 3) da_nil))) da_nil))) (da_cons de_bl da_nil)))) (de_wand1 (de_truth (de_call G__law_is (hr.mono (by decide)) hG (fun σ => passAt tk σ) (da_cons (de_call G_is_deed (hr.mono (by decide)) hG (fun σ => passAt tk σ) (da_cons (de_var 1) (da_cons (de_tup (da_cons (de_var 2) (da_cons (de_var 5) da_nil))) da_nil))) (da_cons de_bl da_nil)))))))) (ds_one (ds_ret de_bl)) ds_nil)))
  (ds_cons (ds_for hP (di_seq (de_call G__law_no_pairs (hr.mono (by decide)) hG (fun σ => passAt tk σ) (da_cons (de_var 2) (da_cons (de_var 3) da_nil)))) (dt_nm 5 nd) (ds_one (ds_if (de_tnot (de_truth (de_call G__law_is (hr.mono (by decide)) hG (fun σ => passAt tk σ) (da_cons (de_callK0 G_is_deed T.k4 (hr.mono (by decide)) hG (fun σ => passAt tk σ) (dk_cons (de_var 5) (dk_cons (de_var 1) dk_nil))) (da_cons de_bl da_nil))))) (ds_one (ds_ret de_bl)) ds_nil)))
  (ds_one (ds_ret de_bl))))))))))
omit T in
theorem sc32 : FnScope ["_law_flow", "_law_k", "_law_one", "_law_odd", "_law_top", "_law_bottom"] ["_law_flow"] (defScope (topS 32)) := ⟨rfl, rfl, rfl, by decide +kernel, rfl, by decide +kernel, by decide +kernel⟩
theorem G__law_quotients_hold : Fd P wd K mg base "_law_quotients_hold" 6 ["_law_flow"] F__law_quotients_hold (f 32) (fd 32) := by
  have G_is_quotient : Fd P wd K mg base _ _ _ _ _ _ := G_is_quotient T
  have G_is_price : Fd P wd K mg base _ _ _ _ _ _ := G_is_price T
  have G_is_fill : Fd P wd K mg base _ _ _ _ _ _ := G_is_fill T
  have G__law_draw : Fd P wd K mg base _ _ _ _ _ _ := G__law_draw T
  have G__law_coprime : Fd P wd K mg base _ _ _ _ _ _ := G__law_coprime T
  have G__law_no_prices : Fd P wd K mg base _ _ _ _ _ _ := G__law_no_prices T
  have G__law_is : Fd P wd K mg base _ _ _ _ _ _ := G__law_is T
  refine mk_fd (b := b__law_quotients_hold) T.u32 sc32 T.g32 T.b32 (fun cdv A outer s H E hr hG tk hP => ?_) (fun ds S _ => LeAt.refl)
  have nd := sc32.nd
  exact (ds_cons (ds_for hP (di_rng1 (da_cons de_int da_nil) T.n_range) (dt_nm 1 nd) (ds_cons (ds_set 2 (de_call G__law_coprime (hr.mono (by decide)) hG (fun σ => passAt tk σ) (da_cons (de_var 0) da_nil)) nd)
  (ds_cons (ds_if (de_tnot (PW.pt (de_wand (de_truth (de_call G__law_is (hr.mono (by decide)) hG (fun σ => passAt tk σ) (da_cons (de_call G_is_quotient (hr.mono (by decide)) hG (fun σ => passAt tk σ) (da_cons (de_var 2) da_nil)) (da_cons de_bl da_nil)))) (de_wand1 (de_truth (de_call G__law_is (hr.mono (by decide)) hG (fun σ => passAt tk σ) (da_cons (de_callK0 G_is_price T.k5 (hr.mono (by decide)) hG (fun σ => passAt tk σ) (dk_cons (de_var 2) dk_nil)) (da_cons de_bl da_nil)))))))) (ds_one (ds_ret de_bl)) ds_nil)
  (ds_one (ds_for hP (di_seq (de_call G__law_no_prices (hr.mono (by decide)) hG (fun σ => passAt tk σ) (da_cons (de_var 0) (da_cons (de_var 2) da_nil)))) (dt_nm 3 nd) (ds_one (ds_if (de_tnot (PW.pt (de_wand (de_truth (de_call G__law_is (hr.mono (by decide)) hG (fun σ => passAt tk σ) (da_cons (de_callK0 G_is_quotient T.k6 (hr.mono (by decide)) hG (fun σ => passAt tk σ) (dk_cons (de_var 3) dk_nil)) (da_cons de_bl da_nil)))) (de_wand1 (de_truth (de_call G__law_is (hr.mono (by decide)) hG (fun σ => passAt tk σ) (da_cons (de_call G_is_price (hr.mono (by decide)) hG (fun σ => passAt tk σ) (da_cons (de_var 3) da_nil)) (da_cons de_bl da_nil)))))))) (ds_one (ds_ret de_bl)) ds_nil)))))))
  (ds_cons (ds_set 4 de_int nd)
  (ds_cons (ds_set 5 de_int nd)
  (ds_cons (ds_for hP (di_rng1 (da_cons (de_op op_add4 snd_add de_int (de_call G__law_draw (hr.mono (by decide)) hG (fun σ => passAt tk σ) (da_cons (de_var 0) (da_cons de_int da_nil)))) da_nil) T.n_range) (dt_nm 1 nd) (ds_one (ds_par 4 5 (de_var 5) (de_op op_add4 snd_add (de_var 4) (de_var 5)) nd)))
  (ds_cons (ds_if (de_tnot (PW.pt (de_wand (de_truth (de_call G__law_is (hr.mono (by decide)) hG (fun σ => passAt tk σ) (da_cons (de_call G_is_quotient (hr.mono (by decide)) hG (fun σ => passAt tk σ) (da_cons (de_tup (da_cons (de_var 4) (da_cons (de_var 5) da_nil))) da_nil)) (da_cons de_bl da_nil)))) (de_wand1 (de_truth (de_call G__law_is (hr.mono (by decide)) hG (fun σ => passAt tk σ) (da_cons (de_call G_is_price (hr.mono (by decide)) hG (fun σ => passAt tk σ) (da_cons (de_tup (da_cons (de_var 5) (da_cons (de_var 4) da_nil))) da_nil)) (da_cons de_bl da_nil)))))))) (ds_one (ds_ret de_bl)) ds_nil)
  (ds_cons (ds_if (de_tnot (PW.pt (de_wand (de_truth (de_call G__law_is (hr.mono (by decide)) hG (fun σ => passAt tk σ) (da_cons (de_call G_is_quotient (hr.mono (by decide)) hG (fun σ => passAt tk σ) (da_cons (de_tup (da_cons (de_op op_mul4 snd_mul de_int (de_var 4)) (da_cons (de_op op_mul4 snd_mul de_int (de_var 5)) da_nil))) da_nil)) (da_cons de_bl da_nil)))) (de_wand1 (de_truth (de_call G__law_is (hr.mono (by decide)) hG (fun σ => passAt tk σ) (da_cons (de_call G_is_fill (hr.mono (by decide)) hG (fun σ => passAt tk σ) (da_cons de_int (da_cons (de_tup (da_cons (de_tup (da_cons (de_var 4) (da_cons (de_var 5) da_nil))) da_nil)) da_nil))) (da_cons de_bl da_nil)))))))) (ds_one (ds_ret de_bl)) ds_nil)
  (ds_cons (ds_if (de_tnot (PW.pt (de_wand (de_truth (de_call G__law_is (hr.mono (by decide)) hG (fun σ => passAt tk σ) (da_cons (de_call G_is_quotient (hr.mono (by decide)) hG (fun σ => passAt tk σ) (da_cons (de_tup (da_cons de_int (da_cons de_int da_nil))) da_nil)) (da_cons de_bl da_nil)))) (de_wand1 (de_truth (de_call G__law_is (hr.mono (by decide)) hG (fun σ => passAt tk σ) (da_cons (de_call G_is_price (hr.mono (by decide)) hG (fun σ => passAt tk σ) (da_cons (de_tup (da_cons de_int (da_cons de_int da_nil))) da_nil)) (da_cons de_bl da_nil)))))))) (ds_one (ds_ret de_bl)) ds_nil)
  (ds_one (ds_ret (de_and (de_call G__law_is (hr.mono (by decide)) hG (fun σ => passAt tk σ) (da_cons (de_call G_is_quotient (hr.mono (by decide)) hG (fun σ => passAt tk σ) (da_cons (de_tup (da_cons de_int (da_cons de_int da_nil))) da_nil)) (da_cons de_bl da_nil))) (pe_one (de_call G__law_is (hr.mono (by decide)) hG (fun σ => passAt tk σ) (da_cons (de_call G_is_price (hr.mono (by decide)) hG (fun σ => passAt tk σ) (da_cons (de_tup (da_cons de_int (da_cons de_int da_nil))) da_nil)) (da_cons de_bl da_nil))))))))))))))
omit T in
theorem sc33 : FnScope ["_law_flow", "_law_size", "_law_fill", "_law_other", "_law_endless", "_law_odd", "_law_many", "_law_at", "_law_row", "_law_k"] ["_law_flow"] (defScope (topS 33)) := ⟨rfl, rfl, rfl, by decide +kernel, rfl, by decide +kernel, by decide +kernel⟩
theorem G__law_rows_hold : Fd P wd K mg base "_law_rows_hold" 6 ["_law_flow"] F__law_rows_hold (f 33) (fd 33) := by
  have G_is_fill : Fd P wd K mg base _ _ _ _ _ _ := G_is_fill T
  have G_is_row : Fd P wd K mg base _ _ _ _ _ _ := G_is_row T
  have G__law_draw : Fd P wd K mg base _ _ _ _ _ _ := G__law_draw T
  have G__law_coprime : Fd P wd K mg base _ _ _ _ _ _ := G__law_coprime T
  have G__law_no_prices : Fd P wd K mg base _ _ _ _ _ _ := G__law_no_prices T
  have G__law_is : Fd P wd K mg base _ _ _ _ _ _ := G__law_is T
  refine mk_fd (b := b__law_rows_hold) T.u33 sc33 T.g33 T.b33 (fun cdv A outer s H E hr hG tk hP => ?_) (fun ds S _ => LeAt.refl)
  have nd := sc33.nd
  exact (ds_cons (ds_set 1 (de_call G__law_draw (hr.mono (by decide)) hG (fun σ => passAt tk σ) (da_cons (de_var 0) (da_cons de_int da_nil))) nd)
  (ds_cons (ds_if (de_tcmp (op_eq2 hr.units) snd_eq (de_call G__law_draw (hr.mono (by decide)) hG (fun σ => passAt tk σ) (da_cons (de_var 0) (da_cons de_int da_nil))) de_int (nomark _)) (ds_one (ds_set 1 (de_op op_add4 snd_add de_int (de_call G__law_draw (hr.mono (by decide)) hG (fun σ => passAt tk σ) (da_cons (de_var 0) (da_cons de_int da_nil)))) nd)) ds_nil)
  (ds_cons (ds_set 2 (de_callTy call_tuple_of snd_tuple bt_tuple T.n_tuple (da_cons (de_lc (own := [("_law_k", 9)]) fin_I nd (di_rng1 (da_cons (de_var 1) da_nil) T.n_range) (show blkC ["_law_flow", "_law_size", "_law_fill", "_law_other", "_law_endless", "_law_odd", "_law_many", "_law_at", "_law_row", "_law_k"] (defScope (topS 33)) _ _ = true from by decide +kernel) (fun _ _ _ _ _ => by exact (dt_nm 9 nd)) (fun _ _ _ _ _ => by exact dts_yes) (fun _ _ _ _ _ => by exact (de_call (X := Cx.blk _ _ _ _ _ _) (ps := ["_law_flow"]) (F := F__law_coprime) (w := w0) G__law_coprime (by exact hr.mono (by decide)) (by exact hG) (fun σ => passAt0 σ) (da_cons (de_var 0) da_nil)))) da_nil)) nd)
  (ds_cons (ds_if (de_tnot (PW.pt (de_wand (de_truth (de_call G__law_is (hr.mono (by decide)) hG (fun σ => passAt tk σ) (da_cons (de_call G_is_fill (hr.mono (by decide)) hG (fun σ => passAt tk σ) (da_cons (de_var 1) (da_cons (de_var 2) da_nil))) (da_cons de_bl da_nil)))) (de_wand1 (de_truth (de_call G__law_is (hr.mono (by decide)) hG (fun σ => passAt tk σ) (da_cons (de_callK0 G_is_row T.k7 (hr.mono (by decide)) hG (fun σ => passAt tk σ) (dk_cons (de_var 1) (dk_cons (de_var 2) dk_nil))) (da_cons de_bl da_nil)))))))) (ds_one (ds_ret de_bl)) ds_nil)
  (ds_cons (ds_for hP (di_seq (de_lst (da_cons (de_op op_add4 snd_add (de_var 1) de_int) (da_cons (de_callB (call_max2 rfl) (snd_i2 _) bt_max T.n_max (da_cons de_int (da_cons (de_op op_sub snd_sub (de_var 1) de_int) da_nil))) (da_cons de_int da_nil))))) (dt_nm 3 nd) (ds_one (ds_if (de_tnot (PW.pt (de_wand (de_truth (de_call G__law_is (hr.mono (by decide)) hG (fun σ => passAt tk σ) (da_cons (de_call G_is_fill (hr.mono (by decide)) hG (fun σ => passAt tk σ) (da_cons (de_var 3) (da_cons (de_var 2) da_nil))) (da_cons (de_cmp (op_eq2 hr.units) snd_eq (de_var 3) (de_var 1) (nomark _)) da_nil)))) (de_wand1 (de_truth (de_call G__law_is (hr.mono (by decide)) hG (fun σ => passAt tk σ) (da_cons (de_call G_is_row (hr.mono (by decide)) hG (fun σ => passAt tk σ) (da_cons (de_var 3) (da_cons (de_var 2) da_nil))) (da_cons (de_cmp (op_eq2 hr.units) snd_eq (de_var 3) (de_var 1) (nomark _)) da_nil)))))))) (ds_one (ds_ret de_bl)) ds_nil)))
  (ds_cons (ds_set 4 (de_callTy call_tuple_of snd_tuple bt_tuple T.n_tuple (da_cons (de_lc (own := [("_law_k", 9)]) fin_I nd (di_rng1 (da_cons (de_var 1) da_nil) T.n_range) (show blkC ["_law_flow", "_law_size", "_law_fill", "_law_other", "_law_endless", "_law_odd", "_law_many", "_law_at", "_law_row", "_law_k"] (defScope (topS 33)) _ _ = true from by decide +kernel) (fun _ _ _ _ _ => by exact (dt_nm 9 nd)) (fun _ _ _ _ _ => by exact dts_yes) (fun _ _ _ _ _ => by exact (de_tup (da_cons de_int (da_cons de_int da_nil))))) da_nil)) nd)
  (ds_cons (ds_if (de_tnot (PW.pt (de_wand (de_truth (de_call G__law_is (hr.mono (by decide)) hG (fun σ => passAt tk σ) (da_cons (de_call G_is_row (hr.mono (by decide)) hG (fun σ => passAt tk σ) (da_cons (de_var 1) (da_cons (de_var 4) da_nil))) (da_cons de_bl da_nil)))) (de_wand1 (de_truth (de_call G__law_is (hr.mono (by decide)) hG (fun σ => passAt tk σ) (da_cons (de_call G_is_fill (hr.mono (by decide)) hG (fun σ => passAt tk σ) (da_cons (de_var 1) (da_cons (de_var 4) da_nil))) (da_cons (de_cmp (op_eq2 hr.units) snd_eq (de_var 1) de_int (nomark _)) da_nil)))))))) (ds_one (ds_ret de_bl)) ds_nil)
  (ds_cons (ds_for hP (di_seq (de_lst (da_cons (de_callTy call_list_of snd_list bt_list T.n_list (da_cons (de_var 2) da_nil)) (da_cons de_non (da_cons de_str (da_cons (de_var 1) (da_cons (de_tup (da_cons (de_var 2) da_nil)) (da_cons (de_op op_add4 snd_add (de_var 2) (de_tup (da_cons de_non da_nil))) da_nil)))))))) (dt_nm 5 nd) (ds_one (ds_for hP (di_seq (de_lst (da_cons (de_var 1) (da_cons de_int da_nil)))) (dt_nm 6 nd) (ds_one (ds_if (de_tnot (PW.pt (de_wand (de_truth (de_call G__law_is (hr.mono (by decide)) hG (fun σ => passAt tk σ) (da_cons (de_call G_is_row (hr.mono (by decide)) hG (fun σ => passAt tk σ) (da_cons (de_var 6) (da_cons (de_var 5) da_nil))) (da_cons de_bl da_nil)))) (de_wand1 (de_truth (de_call G__law_is (hr.mono (by decide)) hG (fun σ => passAt tk σ) (da_cons (de_callK0 G_is_fill T.k8 (hr.mono (by decide)) hG (fun σ => passAt tk σ) (dk_cons (de_var 5) (dk_cons (de_var 6) dk_nil))) (da_cons de_bl da_nil)))))))) (ds_one (ds_ret de_bl)) ds_nil)))))
  (ds_cons (ds_if (de_tcmp (op_eq2 hr.units) snd_eq (de_var 1) de_int (nomark _)) (ds_one (ds_ret de_bl)) ds_nil)
  (ds_cons (ds_set 7 (de_call G__law_draw (hr.mono (by decide)) hG (fun σ => passAt tk σ) (da_cons (de_var 0) (da_cons (de_var 1) da_nil))) nd)
  (ds_cons (ds_set 8 (de_op op_add4 snd_add (de_op op_add4 snd_add (de_slice (de_var 2) dp_none (dp_some (de_var 7))) (de_tup (da_cons (de_tup (da_cons de_int (da_cons de_int da_nil))) da_nil))) (de_slice (de_var 2) (dp_some (de_op op_add4 snd_add (de_var 7) de_int)) dp_none)) nd)
  (ds_cons (ds_if (de_tnot (PW.pt (de_wand (de_truth (de_call G__law_is (hr.mono (by decide)) hG (fun σ => passAt tk σ) (da_cons (de_call G_is_row (hr.mono (by decide)) hG (fun σ => passAt tk σ) (da_cons (de_var 1) (da_cons (de_var 8) da_nil))) (da_cons de_bl da_nil)))) (de_wand1 (de_truth (de_call G__law_is (hr.mono (by decide)) hG (fun σ => passAt tk σ) (da_cons (de_call G_is_fill (hr.mono (by decide)) hG (fun σ => passAt tk σ) (da_cons (de_var 1) (da_cons (de_var 8) da_nil))) (da_cons de_bl da_nil)))))))) (ds_one (ds_ret de_bl)) ds_nil)
  (ds_cons (ds_for hP (di_seq (de_call G__law_no_prices (hr.mono (by decide)) hG (fun σ => passAt tk σ) (da_cons (de_var 0) (da_cons (de_ix (de_var 2) (de_var 7)) da_nil)))) (dt_nm 5 nd) (ds_cons (ds_set 8 (de_op op_add4 snd_add (de_op op_add4 snd_add (de_slice (de_var 2) dp_none (dp_some (de_var 7))) (de_tup (da_cons (de_var 5) da_nil))) (de_slice (de_var 2) (dp_some (de_op op_add4 snd_add (de_var 7) de_int)) dp_none)) nd)
  (ds_one (ds_if (de_tnot (PW.pt (de_wand (de_truth (de_call G__law_is (hr.mono (by decide)) hG (fun σ => passAt tk σ) (da_cons (de_call G_is_row (hr.mono (by decide)) hG (fun σ => passAt tk σ) (da_cons (de_var 1) (da_cons (de_var 8) da_nil))) (da_cons de_bl da_nil)))) (de_wand1 (de_truth (de_call G__law_is (hr.mono (by decide)) hG (fun σ => passAt tk σ) (da_cons (de_call G_is_fill (hr.mono (by decide)) hG (fun σ => passAt tk σ) (da_cons (de_var 1) (da_cons (de_var 8) da_nil))) (da_cons de_bl da_nil)))))))) (ds_one (ds_ret de_bl)) ds_nil))))
  (ds_one (ds_ret de_bl)))))))))))))))
omit T in
theorem sc38 : FnScope ["_law_thing", "_law_actual", "e"] ["_law_thing"] (defScope (topS 38)) := ⟨rfl, rfl, rfl, by decide +kernel, rfl, by decide +kernel, by decide +kernel⟩
theorem G__law_told : Fd P wd K mg base "_law_told" 6 ["_law_thing"] F__law_told (f 38) (fd 38) := by
  have G_lets_book : Fd P wd K mg base _ _ _ _ _ _ := G_lets_book T
  refine mk_fd (b := b__law_told) T.u38 sc38 T.g38 T.b38 (fun cdv A outer s H E hr hG tk hP => ?_) (fun ds S _ => LeAt.refl)
  have nd := sc38.nd
  exact (ds_cons (ds_try (ct := ctC "InvalidPaper") (XCt_InvalidPaper T) rfl rfl nd (by rfl) (by rfl) ⟨by rfl, by decide, Or.inl T.x_InvalidPaper.g⟩ tk (fun W pn xe tk hP => (ds_one (ds_set 1 (de_call G_lets_book (hr.mono (by decide)) hG (fun σ => passAt tk σ) (da_cons (de_var 0) da_nil)) nd)))
  (fun a oe cls d pn hz hf => (ds_cons (ds_if (de_tnot (PW.pt (de_wand (de_truth (de_isE (cy := .ref (C 3)) (cv := .ref (C 3)) (XI_InvalidPaper_PaperError T) (pe_glob (v := .ref (C 3)) (by rfl) T.c_PaperError rfl) (fun _ h => h) hz hf T.n_isinstance (de_var 2))) (de_wand (de_truth (de_isE (cy := .ref (C 2)) (cv := .ref (C 2)) (XI_InvalidPaper_HadError T) (pe_glob (v := .ref (C 2)) (by rfl) T.c_HadError rfl) (fun _ h => h) hz hf T.n_isinstance (de_var 2))) (de_wand1 (de_truth (de_isE (cy := .ty "ValueError") (cv := .type "ValueError") (XI_InvalidPaper_ValueError T) (pe_bltn (v := .ty "ValueError") (by rfl) T.n_ValueError (by decide +kernel) rfl) (fun _ h => h) hz hf T.n_isinstance (de_var 2)))))))) (ds_one (ds_ret (de_callB (call_reprD hG hr.units) snd_repr bt_repr T.n_repr (da_cons (de_tup (da_cons de_str (da_cons de_str (da_cons de_int da_nil)))) da_nil)))) ds_nil)
  (ds_cons (ds_if (de_truth (de_isE (cy := .ref (C 4)) (cv := .ref (C 4)) (XI_InvalidPaper_BookError T) (pe_glob (v := .ref (C 4)) (by rfl) T.c_BookError rfl) (fun _ h => h) hz hf T.n_isinstance (de_var 2))) (ds_one (ds_ret (de_callB (call_reprD hG hr.units) snd_repr bt_repr T.n_repr (da_cons (de_tup (da_cons de_str (da_cons de_str (da_cons de_int da_nil)))) da_nil)))) ds_nil)
  (ds_one (ds_ret (de_callB (call_reprD hG hr.units) snd_repr bt_repr T.n_repr (da_cons (de_tup (da_cons de_str (da_cons (de_xfld (c := "InvalidPaper") (XF_InvalidPaper_word T) hz hf (de_var 2)) (da_cons (de_xfld (c := "InvalidPaper") (XF_InvalidPaper_at T) hz hf (de_var 2)) da_nil)))) da_nil))))))))
  (ds_one (ds_ret (de_callB (call_reprD hG hr.units) snd_repr bt_repr T.n_repr (da_cons (de_tup (da_cons de_str (da_cons (de_var 1) da_nil))) da_nil)))))
omit T in
theorem sc40 : FnScope ["_law_flow", "_law_size", "_law_k", "_law_deeds", "_law_good", "_law_thing", "_law_due", "_law_asis", "_law_other", "_law_nothing", "_law_many"] ["_law_flow"] (defScope (topS 40)) := ⟨rfl, rfl, rfl, by decide +kernel, rfl, by decide +kernel, by decide +kernel⟩
theorem G__law_books_hold : Fd P wd K mg base "_law_books_hold" 7 ["_law_flow"] F__law_books_hold (f 40) (fd 40) := by
  have G_lets_book : Fd P wd K mg base _ _ _ _ _ _ := G_lets_book T
  have G_is_book : Fd P wd K mg base _ _ _ _ _ _ := G_is_book T
  have G__law_draw : Fd P wd K mg base _ _ _ _ _ _ := G__law_draw T
  have G__law_numbers : Fd P wd K mg base _ _ _ _ _ _ := G__law_numbers T
  have G__law_is : Fd P wd K mg base _ _ _ _ _ _ := G__law_is T
  have G__law_told : Fd P wd K mg base _ _ _ _ _ _ := G__law_told T
  have G__law_spoilt : Fd P wd K mg base _ _ _ _ _ _ := G__law_spoilt T
  refine mk_fd (b := b__law_books_hold) T.u40 sc40 T.g40 T.b40 (fun cdv A outer s H E hr hG tk hP => ?_) (fun ds S _ => LeAt.refl)
  have nd := sc40.nd
  exact (ds_cons (ds_set 1 (de_op op_add4 snd_add de_int (de_call G__law_draw (hr.mono (by decide)) hG (fun σ => passAt tk σ) (da_cons (de_var 0) (da_cons de_int da_nil)))) nd)
  (ds_cons (ds_set 3 (de_callTy call_tuple_of snd_tuple bt_tuple T.n_tuple (da_cons (de_lc (own := [("_law_k", 2)]) fin_I nd (di_rng1 (da_cons (de_call G__law_draw (hr.mono (by decide)) hG (fun σ => passAt tk σ) (da_cons (de_var 0) (da_cons de_int da_nil))) da_nil) T.n_range) (show blkC ["_law_flow", "_law_size", "_law_k", "_law_deeds", "_law_good", "_law_thing", "_law_due", "_law_asis", "_law_other", "_law_nothing", "_law_many"] (defScope (topS 40)) _ _ = true from by decide +kernel) (fun _ _ _ _ _ => by exact (dt_nm 2 nd)) (fun _ _ _ _ _ => by exact dts_yes) (fun _ _ _ _ _ => by exact (de_tup (da_cons (de_call (X := Cx.blk _ _ _ _ _ _) (ps := ["_law_flow", "_law_size"]) (F := F__law_numbers) (w := w0) G__law_numbers (by exact hr.mono (by decide)) (by exact hG) (fun σ => passAt0 σ) (da_cons (de_var 0) (da_cons (de_var 1) da_nil))) (da_cons (de_call (X := Cx.blk _ _ _ _ _ _) (ps := ["_law_flow", "_law_size"]) (F := F__law_numbers) (w := w0) G__law_numbers (by exact hr.mono (by decide)) (by exact hG) (fun σ => passAt0 σ) (da_cons (de_var 0) (da_cons (de_var 1) da_nil))) da_nil))))) da_nil)) nd)
  (ds_cons (ds_set 4 (de_callB (call_reprD hG hr.units) snd_repr bt_repr T.n_repr (da_cons (de_tup (da_cons de_str (da_cons (de_callB call_len snd_len bt_len T.n_len (da_cons (de_var 3) da_nil)) da_nil))) da_nil)) nd)
  (ds_cons (ds_if (PW.pt (de_wor (de_tcmp (op_ne2 hr.units) snd_ne (de_call G__law_told (hr.mono (by decide)) hG (fun σ => passAt tk σ) (da_cons (de_tup (da_cons (de_var 1) (da_cons (de_var 3) da_nil))) da_nil)) (de_var 4) (nomark _)) (de_wor1 (de_tnot (de_truth (de_call G__law_is (hr.mono (by decide)) hG (fun σ => passAt tk σ) (da_cons (de_callK0 G_is_book T.k9 (hr.mono (by decide)) hG (fun σ => passAt tk σ) (dk_cons (de_tup (da_cons (de_var 1) (da_cons (de_var 3) da_nil))) dk_nil)) (da_cons de_bl da_nil)))))))) (ds_one (ds_ret de_bl)) ds_nil)
  (ds_cons (ds_for hP (di_rng1 (da_cons de_int da_nil) T.n_range) (dt_nm 2 nd) (ds_cons (ds_asg (de_call G__law_spoilt (hr.mono (by decide)) hG (fun σ => passAt tk σ) (da_cons (de_var 0) (da_cons (de_var 1) (da_cons (de_var 3) da_nil)))) (dt_tp (dts_cons (dt_nm 5 nd) (dts_cons (dt_nm 6 nd) dts_nil))))
  (ds_cons (ds_set 7 (de_callB (call_reprD hG hr.units) snd_repr bt_repr T.n_repr (da_cons (de_var 5) da_nil)) nd)
  (ds_cons (ds_if (PW.pt (de_wor (de_tcmp (op_ne2 hr.units) snd_ne (de_call G__law_told (hr.mono (by decide)) hG (fun σ => passAt tk σ) (da_cons (de_var 5) da_nil)) (de_var 6) (nomark _)) (de_wor1 (de_tcmp (op_ne2 hr.units) snd_ne (de_callB (call_reprD hG hr.units) snd_repr bt_repr T.n_repr (da_cons (de_var 5) da_nil)) (de_var 7) (nomark _))))) (ds_one (ds_ret de_bl)) ds_nil)
  (ds_one (ds_if (PW.pt (de_wor (de_tnot (de_truth (de_call G__law_is (hr.mono (by decide)) hG (fun σ => passAt tk σ) (da_cons (de_call G_is_book (hr.mono (by decide)) hG (fun σ => passAt tk σ) (da_cons (de_var 5) da_nil)) (da_cons (de_cmp (op_eq2 hr.units) snd_eq (de_var 6) (de_var 4) (nomark _)) da_nil))))) (de_wor1 (de_tcmp (op_ne2 hr.units) snd_ne (de_call G__law_told (hr.mono (by decide)) hG (fun σ => passAt tk σ) (da_cons (de_var 5) da_nil)) (de_var 6) (nomark _))))) (ds_one (ds_ret de_bl)) ds_nil))))))
  (ds_cons (ds_set 6 (de_var 4) nd)
  (ds_cons (ds_if (de_tcmp op_gt snd_cmp (de_callB call_len snd_len bt_len T.n_len (da_cons (de_var 3) da_nil)) de_int (nomark _)) (ds_one (ds_set 6 (de_callB (call_reprD hG hr.units) snd_repr bt_repr T.n_repr (da_cons (de_tup (da_cons de_str (da_cons de_str (da_cons de_int da_nil)))) da_nil)) nd)) ds_nil)
  (ds_cons (ds_for hP (di_seq (de_lst (da_cons (de_op op_add4 snd_add (de_var 1) de_int) (da_cons (de_op op_add4 snd_add de_int (de_var 1)) (da_cons de_int da_nil))))) (dt_nm 8 nd) (ds_one (ds_if (PW.pt (de_wor (de_tcmp (op_ne2 hr.units) snd_ne (de_call G__law_told (hr.mono (by decide)) hG (fun σ => passAt tk σ) (da_cons (de_tup (da_cons (de_var 8) (da_cons (de_var 3) da_nil))) da_nil)) (de_var 6) (nomark _)) (de_wor1 (de_tnot (de_truth (de_call G__law_is (hr.mono (by decide)) hG (fun σ => passAt tk σ) (da_cons (de_call G_is_book (hr.mono (by decide)) hG (fun σ => passAt tk σ) (da_cons (de_tup (da_cons (de_var 8) (da_cons (de_var 3) da_nil))) da_nil)) (da_cons (de_cmp (op_eq2 hr.units) snd_eq (de_var 6) (de_var 4) (nomark _)) da_nil)))))))) (ds_one (ds_ret de_bl)) ds_nil)))
  (ds_cons (ds_set 9 (de_callTy call_tuple_of snd_tuple bt_tuple T.n_tuple (da_cons (de_lc (own := [("_law_k", 2)]) fin_I nd (di_rng1 (da_cons (de_var 1) da_nil) T.n_range) (show blkC ["_law_flow", "_law_size", "_law_k", "_law_deeds", "_law_good", "_law_thing", "_law_due", "_law_asis", "_law_other", "_law_nothing", "_law_many"] (defScope (topS 40)) _ _ = true from by decide +kernel) (fun _ _ _ _ _ => by exact (dt_nm 2 nd)) (fun _ _ _ _ _ => by exact dts_yes) (fun _ _ _ _ _ => by exact de_int)) da_nil)) nd)
  (ds_cons (ds_set 10 (de_op op_mul4 snd_mul (de_slice (de_op op_add4 snd_add (de_var 3) (de_tup (da_cons (de_tup (da_cons (de_var 9) (da_cons (de_var 9) da_nil))) da_nil))) dp_none (dp_some de_int)) de_int) nd)
  (ds_cons (ds_if (PW.pt (de_wor (de_tcmp (op_ne2 hr.units) snd_ne (de_call G__law_told (hr.mono (by decide)) hG (fun σ => passAt tk σ) (da_cons (de_tup (da_cons (de_var 1) (da_cons (de_var 10) da_nil))) da_nil)) (de_callB (call_reprD hG hr.units) snd_repr bt_repr T.n_repr (da_cons (de_tup (da_cons de_str (da_cons de_int da_nil))) da_nil)) (nomark _)) (de_wor1 (de_tnot (de_truth (de_call G__law_is (hr.mono (by decide)) hG (fun σ => passAt tk σ) (da_cons (de_call G_is_book (hr.mono (by decide)) hG (fun σ => passAt tk σ) (da_cons (de_tup (da_cons (de_var 1) (da_cons (de_var 10) da_nil))) da_nil)) (da_cons de_bl da_nil)))))))) (ds_one (ds_ret de_bl)) ds_nil)
  (ds_cons (ds_set 10 (de_op op_add4 snd_add (de_op op_add4 snd_add (de_slice (de_var 10) dp_none (dp_some de_int)) (de_tup (da_cons (de_tup (da_cons (de_var 9) (da_cons de_non da_nil))) da_nil))) (de_slice (de_var 10) dp_none (dp_some de_int))) nd)
  (ds_cons (ds_if (PW.pt (de_wor (de_tcmp (op_ne2 hr.units) snd_ne (de_call G__law_told (hr.mono (by decide)) hG (fun σ => passAt tk σ) (da_cons (de_tup (da_cons (de_var 1) (da_cons (de_var 10) da_nil))) da_nil)) (de_callB (call_reprD hG hr.units) snd_repr bt_repr T.n_repr (da_cons (de_tup (da_cons de_str (da_cons de_str (da_cons de_int da_nil)))) da_nil)) (nomark _)) (de_wor1 (de_tnot (de_truth (de_call G__law_is (hr.mono (by decide)) hG (fun σ => passAt tk σ) (da_cons (de_call G_is_book (hr.mono (by decide)) hG (fun σ => passAt tk σ) (da_cons (de_tup (da_cons (de_var 1) (da_cons (de_var 10) da_nil))) da_nil)) (da_cons de_bl da_nil)))))))) (ds_one (ds_ret de_bl)) ds_nil)
  (ds_one (ds_ret (de_and (de_cmp (op_eq2 hr.units) snd_eq (de_callB (call_reprD hG hr.units) snd_repr bt_repr T.n_repr (da_cons (de_tup (da_cons de_str (da_cons (de_callK0 G_lets_book T.k10 (hr.mono (by decide)) hG (fun σ => passAt tk σ) (dk_cons (de_tup (da_cons (de_var 1) (da_cons (de_var 3) da_nil))) dk_nil)) da_nil))) da_nil)) (de_var 4) (nomark _)) (pe_one (de_call G__law_is (hr.mono (by decide)) hG (fun σ => passAt tk σ) (da_cons (de_call G_is_book (hr.mono (by decide)) hG (fun σ => passAt tk σ) (da_cons (de_tup (da_cons (de_var 1) (da_cons (de_var 3) da_nil))) da_nil)) (da_cons de_bl da_nil))))))))))))))))))))
omit T in
theorem sc41 : FnScope ["_law_script", "_law_flow"] ["_law_script"] (defScope (topS 41)) := ⟨rfl, rfl, rfl, by decide +kernel, rfl, by decide +kernel, by decide +kernel⟩
theorem G_law : Fd P wd K mg base "law" 8 ["_law_script"] F_law (f 41) (fd 41) := by
  have G__law_integers_hold : Fd P wd K mg base _ _ _ _ _ _ := G__law_integers_hold T
  have G__law_quotients_hold : Fd P wd K mg base _ _ _ _ _ _ := G__law_quotients_hold T
  have G__law_rows_hold : Fd P wd K mg base _ _ _ _ _ _ := G__law_rows_hold T
  have G__law_lots_hold : Fd P wd K mg base _ _ _ _ _ _ := G__law_lots_hold T
  have G__law_deeds_hold : Fd P wd K mg base _ _ _ _ _ _ := G__law_deeds_hold T
  have G__law_books_hold : Fd P wd K mg base _ _ _ _ _ _ := G__law_books_hold T
  refine mk_fd (b := b_law) T.u41 sc41 T.g41 T.b41 (fun cdv A outer s H E hr hG tk hP => ?_) (fun ds S _ => LeAt.cut)
  have nd := sc41.nd
  exact (ds_cons (ds_set 1 (de_lstM (da_cons de_int (da_cons de_int (da_cons (de_op op_add4 snd_add de_int (de_op op_mul4 snd_mul de_int (de_callB call_len snd_len bt_len T.n_len (da_cons (de_var 0) da_nil)))) (da_cons (de_callTy call_list_of snd_list bt_list T.n_list (da_cons (de_var 0) da_nil)) da_nil))))) nd)
  (ds_cons (ds_if (de_tnot (PW.pt (de_wand (de_truth (de_call G__law_integers_hold (hr.mono (by decide)) hG (fun σ => passAt tk σ) (da_cons (de_var 1) da_nil))) (de_wand1 (de_truth (de_call G__law_quotients_hold (hr.mono (by decide)) hG (fun σ => passAt tk σ) (da_cons (de_var 1) da_nil))))))) (ds_one (ds_ret de_bl)) ds_nil)
  (ds_cons (ds_if (de_tnot (PW.pt (de_wand (de_truth (de_call G__law_rows_hold (hr.mono (by decide)) hG (fun σ => passAt tk σ) (da_cons (de_var 1) da_nil))) (de_wand1 (de_truth (de_call G__law_lots_hold (hr.mono (by decide)) hG (fun σ => passAt tk σ) (da_cons (de_var 1) da_nil))))))) (ds_one (ds_ret de_bl)) ds_nil)
  (ds_one (ds_ret (de_and (de_call G__law_deeds_hold (hr.mono (by decide)) hG (fun σ => passAt tk σ) (da_cons (de_var 1) da_nil)) (pe_one (de_call G__law_books_hold (hr.mono (by decide)) hG (fun σ => passAt tk σ) (da_cons (de_var 1) da_nil)))))))))
end
end k00

set_option Elab.async false
set_option linter.all false
set_option maxRecDepth 100000
set_option maxHeartbeats 1000000
namespace k00
open PySem DE
def isI : D → Bool
  | .int _ => true
  | _ => false
def isN : D → Bool
  | .int i => decide (0 ≤ i)
  | _ => false
def isW : D → Bool
  | .int i => decide (1 ≤ i)
  | _ => false
theorem ok_integer {d : D} {S : Sto} (h : Pl d = true) : F_is_integer [d] S = .ok (.bl (isI d)) S := by
  show fnRes (b_is_integer [some d] S) = _
  unfold b_is_integer
  simp -implicitDefEqProofs only [isi_int h, isi_bool h, r_dB, bind_ok, bind_ex, r_var, vk_some, List.getD_cons_zero, List.getD_cons_succ, r_dC, r_dOp, r_dUn, r_dTst, r_tst, r_dTru, r_optB, r_trub, r_truT, r_dNotT, r_dAndT, r_dOrT, r_dNot, r_dAnd, r_dOr, r_and1, r_and0, r_or1, r_or0, r_andb, r_orb, r_iteb, r_iteb2, r_raise, ix0, ix1, r_sSetIx, fl0, fl1, fl2, fl3, fs0, fs1, fs2, fs0, r_dIf, r_aNil, r_aCons, gd_t, r_dTup, r_dLst, r_dLstM, r_dSl, r_dNoP, r_dP, r_pK, r_dCB, r_dCall, r_dCallK, r_sSeq, sq_nx, sq_rt, sq_ex, sb_ok, sb_ex, r_sNil, r_sRet, r_sExpr, r_sIf, r_sSet, r_sPar, r_sAsg, r_asg, r_sFor, fn_rt, fn_nx, fn_ex, r_dIt, it_tup, it_lst, eq_int, eq_bl, eq_str, ne_str, cmp_int, add_int, sub_int, neg_int, len_tup, len_lst, tuple_lst, list_tup, i2_int, int_int, if_t, if_f, bd_nm, bd_tp, bd_nil, bd_cons, bdk, List.set_cons_zero, List.set_cons_succ, okL0, okL1, okL2, okL3, okL4, okL5, okL6, okL7, okL8, okL9, okL10, okL11, okL12, okL13, okL14, okL15, List.length_cons, List.length_nil, Nat.reduceAdd, Nat.zero_add, Nat.reduceLeDiff, Nat.reduceEqDiff, decide_true, decide_false, Bool.not_true, Bool.not_false, Bool.and_true, Bool.true_and, eq_self, List.cons_append, List.nil_append, pickL, List.map_cons, List.map_nil, ↓reduceIte, Bool.false_eq_true]
  cases d <;> first | rfl | simp [Pl] at h
theorem ok_number {d : D} {S : Sto} (h : Pl d = true) : F_is_number [d] S = .ok (.bl (isN d)) S := by
  show fnRes (b_is_number [some d] S) = _
  unfold b_is_number
  simp -implicitDefEqProofs only [r_dB, bind_ok, bind_ex, r_var, vk_some, List.getD_cons_zero, List.getD_cons_succ, r_dC, r_dOp, r_dUn, r_dTst, r_tst, r_dTru, r_optB, r_trub, r_truT, r_dNotT, r_dAndT, r_dOrT, r_dNot, r_dAnd, r_dOr, r_and1, r_and0, r_or1, r_or0, r_andb, r_orb, r_iteb, r_iteb2, r_raise, ix0, ix1, r_sSetIx, fl0, fl1, fl2, fl3, fs0, fs1, fs2, fs0, r_dIf, r_aNil, r_aCons, gd_t, r_dTup, r_dLst, r_dLstM, r_dSl, r_dNoP, r_dP, r_pK, r_dCB, r_dCall, r_dCallK, r_sSeq, sq_nx, sq_rt, sq_ex, sb_ok, sb_ex, r_sNil, r_sRet, r_sExpr, r_sIf, r_sSet, r_sPar, r_sAsg, r_asg, r_sFor, fn_rt, fn_nx, fn_ex, r_dIt, it_tup, it_lst, eq_int, eq_bl, eq_str, ne_str, cmp_int, add_int, sub_int, neg_int, len_tup, len_lst, tuple_lst, list_tup, i2_int, int_int, if_t, if_f, bd_nm, bd_tp, bd_nil, bd_cons, bdk, List.set_cons_zero, List.set_cons_succ, okL0, okL1, okL2, okL3, okL4, okL5, okL6, okL7, okL8, okL9, okL10, okL11, okL12, okL13, okL14, okL15, List.length_cons, List.length_nil, Nat.reduceAdd, Nat.zero_add, Nat.reduceLeDiff, Nat.reduceEqDiff, decide_true, decide_false, Bool.not_true, Bool.not_false, Bool.and_true, Bool.true_and, eq_self, List.cons_append, List.nil_append, pickL, List.map_cons, List.map_nil, ↓reduceIte, Bool.false_eq_true]
  rw [ok_integer h]
  simp -implicitDefEqProofs only [r_dB, bind_ok, bind_ex, r_var, vk_some, List.getD_cons_zero, List.getD_cons_succ, r_dC, r_dOp, r_dUn, r_dTst, r_tst, r_dTru, r_optB, r_trub, r_truT, r_dNotT, r_dAndT, r_dOrT, r_dNot, r_dAnd, r_dOr, r_and1, r_and0, r_or1, r_or0, r_andb, r_orb, r_iteb, r_iteb2, r_raise, ix0, ix1, r_sSetIx, fl0, fl1, fl2, fl3, fs0, fs1, fs2, fs0, r_dIf, r_aNil, r_aCons, gd_t, r_dTup, r_dLst, r_dLstM, r_dSl, r_dNoP, r_dP, r_pK, r_dCB, r_dCall, r_dCallK, r_sSeq, sq_nx, sq_rt, sq_ex, sb_ok, sb_ex, r_sNil, r_sRet, r_sExpr, r_sIf, r_sSet, r_sPar, r_sAsg, r_asg, r_sFor, fn_rt, fn_nx, fn_ex, r_dIt, it_tup, it_lst, eq_int, eq_bl, eq_str, ne_str, cmp_int, add_int, sub_int, neg_int, len_tup, len_lst, tuple_lst, list_tup, i2_int, int_int, if_t, if_f, bd_nm, bd_tp, bd_nil, bd_cons, bdk, List.set_cons_zero, List.set_cons_succ, okL0, okL1, okL2, okL3, okL4, okL5, okL6, okL7, okL8, okL9, okL10, okL11, okL12, okL13, okL14, okL15, List.length_cons, List.length_nil, Nat.reduceAdd, Nat.zero_add, Nat.reduceLeDiff, Nat.reduceEqDiff, decide_true, decide_false, Bool.not_true, Bool.not_false, Bool.and_true, Bool.true_and, eq_self, List.cons_append, List.nil_append, pickL, List.map_cons, List.map_nil, ↓reduceIte, Bool.false_eq_true]
  cases d <;> first | rfl | simp [Pl] at h
theorem ok_whole {d : D} {S : Sto} (h : Pl d = true) : F_is_whole [d] S = .ok (.bl (isW d)) S := by
  show fnRes (b_is_whole [some d] S) = _
  unfold b_is_whole
  simp -implicitDefEqProofs only [r_dB, bind_ok, bind_ex, r_var, vk_some, List.getD_cons_zero, List.getD_cons_succ, r_dC, r_dOp, r_dUn, r_dTst, r_tst, r_dTru, r_optB, r_trub, r_truT, r_dNotT, r_dAndT, r_dOrT, r_dNot, r_dAnd, r_dOr, r_and1, r_and0, r_or1, r_or0, r_andb, r_orb, r_iteb, r_iteb2, r_raise, ix0, ix1, r_sSetIx, fl0, fl1, fl2, fl3, fs0, fs1, fs2, fs0, r_dIf, r_aNil, r_aCons, gd_t, r_dTup, r_dLst, r_dLstM, r_dSl, r_dNoP, r_dP, r_pK, r_dCB, r_dCall, r_dCallK, r_sSeq, sq_nx, sq_rt, sq_ex, sb_ok, sb_ex, r_sNil, r_sRet, r_sExpr, r_sIf, r_sSet, r_sPar, r_sAsg, r_asg, r_sFor, fn_rt, fn_nx, fn_ex, r_dIt, it_tup, it_lst, eq_int, eq_bl, eq_str, ne_str, cmp_int, add_int, sub_int, neg_int, len_tup, len_lst, tuple_lst, list_tup, i2_int, int_int, if_t, if_f, bd_nm, bd_tp, bd_nil, bd_cons, bdk, List.set_cons_zero, List.set_cons_succ, okL0, okL1, okL2, okL3, okL4, okL5, okL6, okL7, okL8, okL9, okL10, okL11, okL12, okL13, okL14, okL15, List.length_cons, List.length_nil, Nat.reduceAdd, Nat.zero_add, Nat.reduceLeDiff, Nat.reduceEqDiff, decide_true, decide_false, Bool.not_true, Bool.not_false, Bool.and_true, Bool.true_and, eq_self, List.cons_append, List.nil_append, pickL, List.map_cons, List.map_nil, ↓reduceIte, Bool.false_eq_true]
  rw [ok_integer h]
  simp -implicitDefEqProofs only [r_dB, bind_ok, bind_ex, r_var, vk_some, List.getD_cons_zero, List.getD_cons_succ, r_dC, r_dOp, r_dUn, r_dTst, r_tst, r_dTru, r_optB, r_trub, r_truT, r_dNotT, r_dAndT, r_dOrT, r_dNot, r_dAnd, r_dOr, r_and1, r_and0, r_or1, r_or0, r_andb, r_orb, r_iteb, r_iteb2, r_raise, ix0, ix1, r_sSetIx, fl0, fl1, fl2, fl3, fs0, fs1, fs2, fs0, r_dIf, r_aNil, r_aCons, gd_t, r_dTup, r_dLst, r_dLstM, r_dSl, r_dNoP, r_dP, r_pK, r_dCB, r_dCall, r_dCallK, r_sSeq, sq_nx, sq_rt, sq_ex, sb_ok, sb_ex, r_sNil, r_sRet, r_sExpr, r_sIf, r_sSet, r_sPar, r_sAsg, r_asg, r_sFor, fn_rt, fn_nx, fn_ex, r_dIt, it_tup, it_lst, eq_int, eq_bl, eq_str, ne_str, cmp_int, add_int, sub_int, neg_int, len_tup, len_lst, tuple_lst, list_tup, i2_int, int_int, if_t, if_f, bd_nm, bd_tp, bd_nil, bd_cons, bdk, List.set_cons_zero, List.set_cons_succ, okL0, okL1, okL2, okL3, okL4, okL5, okL6, okL7, okL8, okL9, okL10, okL11, okL12, okL13, okL14, okL15, List.length_cons, List.length_nil, Nat.reduceAdd, Nat.zero_add, Nat.reduceLeDiff, Nat.reduceEqDiff, decide_true, decide_false, Bool.not_true, Bool.not_false, Bool.and_true, Bool.true_and, eq_self, List.cons_append, List.nil_append, pickL, List.map_cons, List.map_nil, ↓reduceIte, Bool.false_eq_true]
  cases d <;> first | rfl | simp [Pl] at h
def gcdB : D → D → Bool
  | .int a, .int b => decide (gcdI a b = 1)
  | _, _ => false
def isPrice : D → Bool
  | .tup [a, b] => isN a && (isN b && gcdB a b)
  | _ => false
def posB : D → Bool
  | .tup [_, .int b] => decide (0 < b)
  | _ => false
def isQuot (d : D) : Bool := isPrice d && posB d
theorem ok_price {d : D} {S : Sto} (h : Pl d = true) : F_is_price [d] S = .ok (.bl (isPrice d)) S := by
  show fnRes (b_is_price [some d, none, none] S) = _
  unfold b_is_price
  simp -implicitDefEqProofs only [r_dB, bind_ok, bind_ex, r_var, vk_some, List.getD_cons_zero, List.getD_cons_succ, r_dC, r_dOp, r_dUn, r_dTst, r_tst, r_dTru, r_optB, r_trub, r_truT, r_dNotT, r_dAndT, r_dOrT, r_dNot, r_dAnd, r_dOr, r_and1, r_and0, r_or1, r_or0, r_andb, r_orb, r_iteb, r_iteb2, r_raise, ix0, ix1, r_sSetIx, fl0, fl1, fl2, fl3, fs0, fs1, fs2, fs0, r_dIf, r_aNil, r_aCons, gd_t, r_dTup, r_dLst, r_dLstM, r_dSl, r_dNoP, r_dP, r_pK, r_dCB, r_dCall, r_dCallK, r_sSeq, sq_nx, sq_rt, sq_ex, sb_ok, sb_ex, r_sNil, r_sRet, r_sExpr, r_sIf, r_sSet, r_sPar, r_sAsg, r_asg, r_sFor, fn_rt, fn_nx, fn_ex, r_dIt, it_tup, it_lst, eq_int, eq_bl, eq_str, ne_str, cmp_int, add_int, sub_int, neg_int, len_tup, len_lst, tuple_lst, list_tup, i2_int, int_int, if_t, if_f, bd_nm, bd_tp, bd_nil, bd_cons, bdk, List.set_cons_zero, List.set_cons_succ, okL0, okL1, okL2, okL3, okL4, okL5, okL6, okL7, okL8, okL9, okL10, okL11, okL12, okL13, okL14, okL15, List.length_cons, List.length_nil, Nat.reduceAdd, Nat.zero_add, Nat.reduceLeDiff, Nat.reduceEqDiff, decide_true, decide_false, Bool.not_true, Bool.not_false, Bool.and_true, Bool.true_and, eq_self, List.cons_append, List.nil_append, pickL, List.map_cons, List.map_nil, ↓reduceIte, Bool.false_eq_true]
  rw [isi_tuple h]
  cases d with
  | tup l =>
    match l, h with
    | [], _ => rfl
    | [a], _ => rfl
    | [a, b], h =>
      have ha : Pl a = true ∧ Pl b = true := by simpa [Pl, Pls] using h
      simp only [isTup]
      simp -implicitDefEqProofs only [r_dB, bind_ok, bind_ex, r_var, vk_some, List.getD_cons_zero, List.getD_cons_succ, r_dC, r_dOp, r_dUn, r_dTst, r_tst, r_dTru, r_optB, r_trub, r_truT, r_dNotT, r_dAndT, r_dOrT, r_dNot, r_dAnd, r_dOr, r_and1, r_and0, r_or1, r_or0, r_andb, r_orb, r_iteb, r_iteb2, r_raise, ix0, ix1, r_sSetIx, fl0, fl1, fl2, fl3, fs0, fs1, fs2, fs0, r_dIf, r_aNil, r_aCons, gd_t, r_dTup, r_dLst, r_dLstM, r_dSl, r_dNoP, r_dP, r_pK, r_dCB, r_dCall, r_dCallK, r_sSeq, sq_nx, sq_rt, sq_ex, sb_ok, sb_ex, r_sNil, r_sRet, r_sExpr, r_sIf, r_sSet, r_sPar, r_sAsg, r_asg, r_sFor, fn_rt, fn_nx, fn_ex, r_dIt, it_tup, it_lst, eq_int, eq_bl, eq_str, ne_str, cmp_int, add_int, sub_int, neg_int, len_tup, len_lst, tuple_lst, list_tup, i2_int, int_int, if_t, if_f, bd_nm, bd_tp, bd_nil, bd_cons, bdk, List.set_cons_zero, List.set_cons_succ, okL0, okL1, okL2, okL3, okL4, okL5, okL6, okL7, okL8, okL9, okL10, okL11, okL12, okL13, okL14, okL15, List.length_cons, List.length_nil, Nat.reduceAdd, Nat.zero_add, Nat.reduceLeDiff, Nat.reduceEqDiff, decide_true, decide_false, Bool.not_true, Bool.not_false, Bool.and_true, Bool.true_and, eq_self, List.cons_append, List.nil_append, pickL, List.map_cons, List.map_nil, ↓reduceIte, Bool.false_eq_true]
      rw [show decide (((1 + 1 : Nat) : Int) = 2) = true from rfl]
      simp -implicitDefEqProofs only [r_dB, bind_ok, bind_ex, r_var, vk_some, List.getD_cons_zero, List.getD_cons_succ, r_dC, r_dOp, r_dUn, r_dTst, r_tst, r_dTru, r_optB, r_trub, r_truT, r_dNotT, r_dAndT, r_dOrT, r_dNot, r_dAnd, r_dOr, r_and1, r_and0, r_or1, r_or0, r_andb, r_orb, r_iteb, r_iteb2, r_raise, ix0, ix1, r_sSetIx, fl0, fl1, fl2, fl3, fs0, fs1, fs2, fs0, r_dIf, r_aNil, r_aCons, gd_t, r_dTup, r_dLst, r_dLstM, r_dSl, r_dNoP, r_dP, r_pK, r_dCB, r_dCall, r_dCallK, r_sSeq, sq_nx, sq_rt, sq_ex, sb_ok, sb_ex, r_sNil, r_sRet, r_sExpr, r_sIf, r_sSet, r_sPar, r_sAsg, r_asg, r_sFor, fn_rt, fn_nx, fn_ex, r_dIt, it_tup, it_lst, eq_int, eq_bl, eq_str, ne_str, cmp_int, add_int, sub_int, neg_int, len_tup, len_lst, tuple_lst, list_tup, i2_int, int_int, if_t, if_f, bd_nm, bd_tp, bd_nil, bd_cons, bdk, List.set_cons_zero, List.set_cons_succ, okL0, okL1, okL2, okL3, okL4, okL5, okL6, okL7, okL8, okL9, okL10, okL11, okL12, okL13, okL14, okL15, List.length_cons, List.length_nil, Nat.reduceAdd, Nat.zero_add, Nat.reduceLeDiff, Nat.reduceEqDiff, decide_true, decide_false, Bool.not_true, Bool.not_false, Bool.and_true, Bool.true_and, eq_self, List.cons_append, List.nil_append, pickL, List.map_cons, List.map_nil, ↓reduceIte, Bool.false_eq_true]
      rw [ok_number ha.1, bind_ok, ok_number ha.2]
      simp -implicitDefEqProofs only [r_dB, bind_ok, bind_ex, r_var, vk_some, List.getD_cons_zero, List.getD_cons_succ, r_dC, r_dOp, r_dUn, r_dTst, r_tst, r_dTru, r_optB, r_trub, r_truT, r_dNotT, r_dAndT, r_dOrT, r_dNot, r_dAnd, r_dOr, r_and1, r_and0, r_or1, r_or0, r_andb, r_orb, r_iteb, r_iteb2, r_raise, ix0, ix1, r_sSetIx, fl0, fl1, fl2, fl3, fs0, fs1, fs2, fs0, r_dIf, r_aNil, r_aCons, gd_t, r_dTup, r_dLst, r_dLstM, r_dSl, r_dNoP, r_dP, r_pK, r_dCB, r_dCall, r_dCallK, r_sSeq, sq_nx, sq_rt, sq_ex, sb_ok, sb_ex, r_sNil, r_sRet, r_sExpr, r_sIf, r_sSet, r_sPar, r_sAsg, r_asg, r_sFor, fn_rt, fn_nx, fn_ex, r_dIt, it_tup, it_lst, eq_int, eq_bl, eq_str, ne_str, cmp_int, add_int, sub_int, neg_int, len_tup, len_lst, tuple_lst, list_tup, i2_int, int_int, if_t, if_f, bd_nm, bd_tp, bd_nil, bd_cons, bdk, List.set_cons_zero, List.set_cons_succ, okL0, okL1, okL2, okL3, okL4, okL5, okL6, okL7, okL8, okL9, okL10, okL11, okL12, okL13, okL14, okL15, List.length_cons, List.length_nil, Nat.reduceAdd, Nat.zero_add, Nat.reduceLeDiff, Nat.reduceEqDiff, decide_true, decide_false, Bool.not_true, Bool.not_false, Bool.and_true, Bool.true_and, eq_self, List.cons_append, List.nil_append, pickL, List.map_cons, List.map_nil, ↓reduceIte, Bool.false_eq_true]
      cases a <;> first | rfl | skip
      rename_i i
      cases b with
      | int j => cases e1 : decide (0 ≤ i) <;> cases e2 : decide (0 ≤ j) <;> simp only [isN, isPrice, gcdB, e1, e2] <;> rfl
      | _ => cases e1 : decide (0 ≤ i) <;> simp only [isN, isPrice, gcdB, e1] <;> rfl
    | a :: b :: c :: r, _ =>
      simp only [isTup]
      simp -implicitDefEqProofs only [r_dB, bind_ok, bind_ex, r_var, vk_some, List.getD_cons_zero, List.getD_cons_succ, r_dC, r_dOp, r_dUn, r_dTst, r_tst, r_dTru, r_optB, r_trub, r_truT, r_dNotT, r_dAndT, r_dOrT, r_dNot, r_dAnd, r_dOr, r_and1, r_and0, r_or1, r_or0, r_andb, r_orb, r_iteb, r_iteb2, r_raise, ix0, ix1, r_sSetIx, fl0, fl1, fl2, fl3, fs0, fs1, fs2, fs0, r_dIf, r_aNil, r_aCons, gd_t, r_dTup, r_dLst, r_dLstM, r_dSl, r_dNoP, r_dP, r_pK, r_dCB, r_dCall, r_dCallK, r_sSeq, sq_nx, sq_rt, sq_ex, sb_ok, sb_ex, r_sNil, r_sRet, r_sExpr, r_sIf, r_sSet, r_sPar, r_sAsg, r_asg, r_sFor, fn_rt, fn_nx, fn_ex, r_dIt, it_tup, it_lst, eq_int, eq_bl, eq_str, ne_str, cmp_int, add_int, sub_int, neg_int, len_tup, len_lst, tuple_lst, list_tup, i2_int, int_int, if_t, if_f, bd_nm, bd_tp, bd_nil, bd_cons, bdk, List.set_cons_zero, List.set_cons_succ, okL0, okL1, okL2, okL3, okL4, okL5, okL6, okL7, okL8, okL9, okL10, okL11, okL12, okL13, okL14, okL15, List.length_cons, List.length_nil, Nat.reduceAdd, Nat.zero_add, Nat.reduceLeDiff, Nat.reduceEqDiff, decide_true, decide_false, Bool.not_true, Bool.not_false, Bool.and_true, Bool.true_and, eq_self, List.cons_append, List.nil_append, pickL, List.map_cons, List.map_nil, ↓reduceIte, Bool.false_eq_true]
      rw [show decide (((r.length + 1 + 1 + 1 : Nat) : Int) = 2) = false from by apply decide_eq_false; omega]
      rfl
  | _ => first | rfl | (simp [Pl] at h; done)
theorem ok_quot {d : D} {S : Sto} (h : Pl d = true) : F_is_quotient [d] S = .ok (.bl (isQuot d)) S := by
  show fnRes (b_is_quotient [some d] S) = _
  unfold b_is_quotient
  simp -implicitDefEqProofs only [r_dB, bind_ok, bind_ex, r_var, vk_some, List.getD_cons_zero, List.getD_cons_succ, r_dC, r_dOp, r_dUn, r_dTst, r_tst, r_dTru, r_optB, r_trub, r_truT, r_dNotT, r_dAndT, r_dOrT, r_dNot, r_dAnd, r_dOr, r_and1, r_and0, r_or1, r_or0, r_andb, r_orb, r_iteb, r_iteb2, r_raise, ix0, ix1, r_sSetIx, fl0, fl1, fl2, fl3, fs0, fs1, fs2, fs0, r_dIf, r_aNil, r_aCons, gd_t, r_dTup, r_dLst, r_dLstM, r_dSl, r_dNoP, r_dP, r_pK, r_dCB, r_dCall, r_dCallK, r_sSeq, sq_nx, sq_rt, sq_ex, sb_ok, sb_ex, r_sNil, r_sRet, r_sExpr, r_sIf, r_sSet, r_sPar, r_sAsg, r_asg, r_sFor, fn_rt, fn_nx, fn_ex, r_dIt, it_tup, it_lst, eq_int, eq_bl, eq_str, ne_str, cmp_int, add_int, sub_int, neg_int, len_tup, len_lst, tuple_lst, list_tup, i2_int, int_int, if_t, if_f, bd_nm, bd_tp, bd_nil, bd_cons, bdk, List.set_cons_zero, List.set_cons_succ, okL0, okL1, okL2, okL3, okL4, okL5, okL6, okL7, okL8, okL9, okL10, okL11, okL12, okL13, okL14, okL15, List.length_cons, List.length_nil, Nat.reduceAdd, Nat.zero_add, Nat.reduceLeDiff, Nat.reduceEqDiff, decide_true, decide_false, Bool.not_true, Bool.not_false, Bool.and_true, Bool.true_and, eq_self, List.cons_append, List.nil_append, pickL, List.map_cons, List.map_nil, ↓reduceIte, Bool.false_eq_true]
  rw [ok_price h]
  simp -implicitDefEqProofs only [r_dB, bind_ok, bind_ex, r_var, vk_some, List.getD_cons_zero, List.getD_cons_succ, r_dC, r_dOp, r_dUn, r_dTst, r_tst, r_dTru, r_optB, r_trub, r_truT, r_dNotT, r_dAndT, r_dOrT, r_dNot, r_dAnd, r_dOr, r_and1, r_and0, r_or1, r_or0, r_andb, r_orb, r_iteb, r_iteb2, r_raise, ix0, ix1, r_sSetIx, fl0, fl1, fl2, fl3, fs0, fs1, fs2, fs0, r_dIf, r_aNil, r_aCons, gd_t, r_dTup, r_dLst, r_dLstM, r_dSl, r_dNoP, r_dP, r_pK, r_dCB, r_dCall, r_dCallK, r_sSeq, sq_nx, sq_rt, sq_ex, sb_ok, sb_ex, r_sNil, r_sRet, r_sExpr, r_sIf, r_sSet, r_sPar, r_sAsg, r_asg, r_sFor, fn_rt, fn_nx, fn_ex, r_dIt, it_tup, it_lst, eq_int, eq_bl, eq_str, ne_str, cmp_int, add_int, sub_int, neg_int, len_tup, len_lst, tuple_lst, list_tup, i2_int, int_int, if_t, if_f, bd_nm, bd_tp, bd_nil, bd_cons, bdk, List.set_cons_zero, List.set_cons_succ, okL0, okL1, okL2, okL3, okL4, okL5, okL6, okL7, okL8, okL9, okL10, okL11, okL12, okL13, okL14, okL15, List.length_cons, List.length_nil, Nat.reduceAdd, Nat.zero_add, Nat.reduceLeDiff, Nat.reduceEqDiff, decide_true, decide_false, Bool.not_true, Bool.not_false, Bool.and_true, Bool.true_and, eq_self, List.cons_append, List.nil_append, pickL, List.map_cons, List.map_nil, ↓reduceIte, Bool.false_eq_true]
  unfold isQuot
  cases e : isPrice d with
  | false => rfl
  | true =>
    unfold isPrice at e
    split at e
    · rename_i a b
      simp only [Bool.and_eq_true] at e
      cases b <;> first | (simp [isN] at e; done) | rfl
    · cases e
theorem ok_pair {d : D} {S : Sto} (h : Pl d = true) : F_is_pair [d] S = .ok (.bl (match d with | .tup [_, _] => true | _ => false)) S := by
  show fnRes (b_is_pair [some d] S) = _
  unfold b_is_pair
  simp -implicitDefEqProofs only [r_dB, bind_ok, bind_ex, r_var, vk_some, List.getD_cons_zero, List.getD_cons_succ, r_dC, r_dOp, r_dUn, r_dTst, r_tst, r_dTru, r_optB, r_trub, r_truT, r_dNotT, r_dAndT, r_dOrT, r_dNot, r_dAnd, r_dOr, r_and1, r_and0, r_or1, r_or0, r_andb, r_orb, r_iteb, r_iteb2, r_raise, ix0, ix1, r_sSetIx, fl0, fl1, fl2, fl3, fs0, fs1, fs2, fs0, r_dIf, r_aNil, r_aCons, gd_t, r_dTup, r_dLst, r_dLstM, r_dSl, r_dNoP, r_dP, r_pK, r_dCB, r_dCall, r_dCallK, r_sSeq, sq_nx, sq_rt, sq_ex, sb_ok, sb_ex, r_sNil, r_sRet, r_sExpr, r_sIf, r_sSet, r_sPar, r_sAsg, r_asg, r_sFor, fn_rt, fn_nx, fn_ex, r_dIt, it_tup, it_lst, eq_int, eq_bl, eq_str, ne_str, cmp_int, add_int, sub_int, neg_int, len_tup, len_lst, tuple_lst, list_tup, i2_int, int_int, if_t, if_f, bd_nm, bd_tp, bd_nil, bd_cons, bdk, List.set_cons_zero, List.set_cons_succ, okL0, okL1, okL2, okL3, okL4, okL5, okL6, okL7, okL8, okL9, okL10, okL11, okL12, okL13, okL14, okL15, List.length_cons, List.length_nil, Nat.reduceAdd, Nat.zero_add, Nat.reduceLeDiff, Nat.reduceEqDiff, decide_true, decide_false, Bool.not_true, Bool.not_false, Bool.and_true, Bool.true_and, eq_self, List.cons_append, List.nil_append, pickL, List.map_cons, List.map_nil, ↓reduceIte, Bool.false_eq_true]
  rw [isi_tuple h]
  cases d with
  | tup l =>
    match l with
    | [] => rfl
    | [a] => rfl
    | [a, b] => rfl
    | a :: b :: c :: r =>
      simp only [isTup]
      simp -implicitDefEqProofs only [r_dB, bind_ok, bind_ex, r_var, vk_some, List.getD_cons_zero, List.getD_cons_succ, r_dC, r_dOp, r_dUn, r_dTst, r_tst, r_dTru, r_optB, r_trub, r_truT, r_dNotT, r_dAndT, r_dOrT, r_dNot, r_dAnd, r_dOr, r_and1, r_and0, r_or1, r_or0, r_andb, r_orb, r_iteb, r_iteb2, r_raise, ix0, ix1, r_sSetIx, fl0, fl1, fl2, fl3, fs0, fs1, fs2, fs0, r_dIf, r_aNil, r_aCons, gd_t, r_dTup, r_dLst, r_dLstM, r_dSl, r_dNoP, r_dP, r_pK, r_dCB, r_dCall, r_dCallK, r_sSeq, sq_nx, sq_rt, sq_ex, sb_ok, sb_ex, r_sNil, r_sRet, r_sExpr, r_sIf, r_sSet, r_sPar, r_sAsg, r_asg, r_sFor, fn_rt, fn_nx, fn_ex, r_dIt, it_tup, it_lst, eq_int, eq_bl, eq_str, ne_str, cmp_int, add_int, sub_int, neg_int, len_tup, len_lst, tuple_lst, list_tup, i2_int, int_int, if_t, if_f, bd_nm, bd_tp, bd_nil, bd_cons, bdk, List.set_cons_zero, List.set_cons_succ, okL0, okL1, okL2, okL3, okL4, okL5, okL6, okL7, okL8, okL9, okL10, okL11, okL12, okL13, okL14, okL15, List.length_cons, List.length_nil, Nat.reduceAdd, Nat.zero_add, Nat.reduceLeDiff, Nat.reduceEqDiff, decide_true, decide_false, Bool.not_true, Bool.not_false, Bool.and_true, Bool.true_and, eq_self, List.cons_append, List.nil_append, pickL, List.map_cons, List.map_nil, ↓reduceIte, Bool.false_eq_true]
      rw [show decide (((r.length + 1 + 1 + 1 : Nat) : Int) = 2) = false from by apply decide_eq_false; omega]
  | _ => first | rfl | (simp [Pl] at h; done)
/-! ### rows, lots, books -/
theorem pl_tup {l : List D} (h : Pl (.tup l) = true) : l.length ≤ 1000 ∧ ∀ d ∈ l, Pl d = true := by
  unfold Pl at h
  simp only [Bool.and_eq_true, decide_eq_true_eq] at h
  exact ⟨h.1, pls_mem h.2⟩
def allT (n : Int) (p : D → Bool) : D → Bool
  | .tup l => decide ((l.length : Int) = n) && l.all p
  | _ => false
theorem ok_fill {n : Int} {d : D} {S : Sto} (h : Pl d = true) (hS : SL S) : F_is_fill [.int n, d] S = .ok (.bl (allT n isQuot d)) S := by
  show fnRes (b_is_fill [some (.int n), some d, none] S) = _
  unfold b_is_fill
  simp -implicitDefEqProofs only [isi_tuple h, r_dB, bind_ok, bind_ex, r_var, vk_some, List.getD_cons_zero, List.getD_cons_succ, r_dC, r_dOp, r_dUn, r_dTst, r_tst, r_dTru, r_optB, r_trub, r_truT, r_dNotT, r_dAndT, r_dOrT, r_dNot, r_dAnd, r_dOr, r_and1, r_and0, r_or1, r_or0, r_andb, r_orb, r_iteb, r_iteb2, r_raise, ix0, ix1, r_sSetIx, fl0, fl1, fl2, fl3, fs0, fs1, fs2, fs0, r_dIf, r_aNil, r_aCons, gd_t, r_dTup, r_dLst, r_dLstM, r_dSl, r_dNoP, r_dP, r_pK, r_dCB, r_dCall, r_dCallK, r_sSeq, sq_nx, sq_rt, sq_ex, sb_ok, sb_ex, r_sNil, r_sRet, r_sExpr, r_sIf, r_sSet, r_sPar, r_sAsg, r_asg, r_sFor, fn_rt, fn_nx, fn_ex, r_dIt, it_tup, it_lst, eq_int, eq_bl, eq_str, ne_str, cmp_int, add_int, sub_int, neg_int, len_tup, len_lst, tuple_lst, list_tup, i2_int, int_int, if_t, if_f, bd_nm, bd_tp, bd_nil, bd_cons, bdk, List.set_cons_zero, List.set_cons_succ, okL0, okL1, okL2, okL3, okL4, okL5, okL6, okL7, okL8, okL9, okL10, okL11, okL12, okL13, okL14, okL15, List.length_cons, List.length_nil, Nat.reduceAdd, Nat.zero_add, Nat.reduceLeDiff, Nat.reduceEqDiff, decide_true, decide_false, Bool.not_true, Bool.not_false, Bool.and_true, Bool.true_and, eq_self, List.cons_append, List.nil_append, pickL, List.map_cons, List.map_nil, ↓reduceIte, Bool.false_eq_true]
  cases d with
  | tup l =>
    obtain ⟨hl, hp⟩ := pl_tup h
    have e := all_run (p := isQuot) (F := F_is_quotient) (fe := dV 1) (l := l) (S := S) (j := 2) (ρ := [some (.int n), some (.tup l), none]) rfl hS hl (Nat.lt_succ_self 2) fun d m S' _ => ok_quot (hp d m)
    simp -implicitDefEqProofs only [isTup, e, bools_all, r_dB, bind_ok, bind_ex, r_var, vk_some, List.getD_cons_zero, List.getD_cons_succ, r_dC, r_dOp, r_dUn, r_dTst, r_tst, r_dTru, r_optB, r_trub, r_truT, r_dNotT, r_dAndT, r_dOrT, r_dNot, r_dAnd, r_dOr, r_and1, r_and0, r_or1, r_or0, r_andb, r_orb, r_iteb, r_iteb2, r_raise, ix0, ix1, r_sSetIx, fl0, fl1, fl2, fl3, fs0, fs1, fs2, fs0, r_dIf, r_aNil, r_aCons, gd_t, r_dTup, r_dLst, r_dLstM, r_dSl, r_dNoP, r_dP, r_pK, r_dCB, r_dCall, r_dCallK, r_sSeq, sq_nx, sq_rt, sq_ex, sb_ok, sb_ex, r_sNil, r_sRet, r_sExpr, r_sIf, r_sSet, r_sPar, r_sAsg, r_asg, r_sFor, fn_rt, fn_nx, fn_ex, r_dIt, it_tup, it_lst, eq_int, eq_bl, eq_str, ne_str, cmp_int, add_int, sub_int, neg_int, len_tup, len_lst, tuple_lst, list_tup, i2_int, int_int, if_t, if_f, bd_nm, bd_tp, bd_nil, bd_cons, bdk, List.set_cons_zero, List.set_cons_succ, okL0, okL1, okL2, okL3, okL4, okL5, okL6, okL7, okL8, okL9, okL10, okL11, okL12, okL13, okL14, okL15, List.length_cons, List.length_nil, Nat.reduceAdd, Nat.zero_add, Nat.reduceLeDiff, Nat.reduceEqDiff, decide_true, decide_false, Bool.not_true, Bool.not_false, Bool.and_true, Bool.true_and, eq_self, List.cons_append, List.nil_append, pickL, List.map_cons, List.map_nil, ↓reduceIte, Bool.false_eq_true]
    rfl
  | _ => first | rfl | (simp [Pl] at h; done)
theorem ok_row {n : Int} {d : D} {S : Sto} (h : Pl d = true) (hS : SL S) : F_is_row [.int n, d] S = .ok (.bl (allT n isPrice d)) S := by
  show fnRes (b_is_row [some (.int n), some d, none] S) = _
  unfold b_is_row
  simp -implicitDefEqProofs only [isi_tuple h, r_dB, bind_ok, bind_ex, r_var, vk_some, List.getD_cons_zero, List.getD_cons_succ, r_dC, r_dOp, r_dUn, r_dTst, r_tst, r_dTru, r_optB, r_trub, r_truT, r_dNotT, r_dAndT, r_dOrT, r_dNot, r_dAnd, r_dOr, r_and1, r_and0, r_or1, r_or0, r_andb, r_orb, r_iteb, r_iteb2, r_raise, ix0, ix1, r_sSetIx, fl0, fl1, fl2, fl3, fs0, fs1, fs2, fs0, r_dIf, r_aNil, r_aCons, gd_t, r_dTup, r_dLst, r_dLstM, r_dSl, r_dNoP, r_dP, r_pK, r_dCB, r_dCall, r_dCallK, r_sSeq, sq_nx, sq_rt, sq_ex, sb_ok, sb_ex, r_sNil, r_sRet, r_sExpr, r_sIf, r_sSet, r_sPar, r_sAsg, r_asg, r_sFor, fn_rt, fn_nx, fn_ex, r_dIt, it_tup, it_lst, eq_int, eq_bl, eq_str, ne_str, cmp_int, add_int, sub_int, neg_int, len_tup, len_lst, tuple_lst, list_tup, i2_int, int_int, if_t, if_f, bd_nm, bd_tp, bd_nil, bd_cons, bdk, List.set_cons_zero, List.set_cons_succ, okL0, okL1, okL2, okL3, okL4, okL5, okL6, okL7, okL8, okL9, okL10, okL11, okL12, okL13, okL14, okL15, List.length_cons, List.length_nil, Nat.reduceAdd, Nat.zero_add, Nat.reduceLeDiff, Nat.reduceEqDiff, decide_true, decide_false, Bool.not_true, Bool.not_false, Bool.and_true, Bool.true_and, eq_self, List.cons_append, List.nil_append, pickL, List.map_cons, List.map_nil, ↓reduceIte, Bool.false_eq_true]
  cases d with
  | tup l =>
    obtain ⟨hl, hp⟩ := pl_tup h
    have e := all_run (p := isPrice) (F := F_is_price) (fe := dV 1) (l := l) (S := S) (j := 2) (ρ := [some (.int n), some (.tup l), none]) rfl hS hl (Nat.lt_succ_self 2) fun d m S' _ => ok_price (hp d m)
    simp -implicitDefEqProofs only [isTup, e, bools_all, r_dB, bind_ok, bind_ex, r_var, vk_some, List.getD_cons_zero, List.getD_cons_succ, r_dC, r_dOp, r_dUn, r_dTst, r_tst, r_dTru, r_optB, r_trub, r_truT, r_dNotT, r_dAndT, r_dOrT, r_dNot, r_dAnd, r_dOr, r_and1, r_and0, r_or1, r_or0, r_andb, r_orb, r_iteb, r_iteb2, r_raise, ix0, ix1, r_sSetIx, fl0, fl1, fl2, fl3, fs0, fs1, fs2, fs0, r_dIf, r_aNil, r_aCons, gd_t, r_dTup, r_dLst, r_dLstM, r_dSl, r_dNoP, r_dP, r_pK, r_dCB, r_dCall, r_dCallK, r_sSeq, sq_nx, sq_rt, sq_ex, sb_ok, sb_ex, r_sNil, r_sRet, r_sExpr, r_sIf, r_sSet, r_sPar, r_sAsg, r_asg, r_sFor, fn_rt, fn_nx, fn_ex, r_dIt, it_tup, it_lst, eq_int, eq_bl, eq_str, ne_str, cmp_int, add_int, sub_int, neg_int, len_tup, len_lst, tuple_lst, list_tup, i2_int, int_int, if_t, if_f, bd_nm, bd_tp, bd_nil, bd_cons, bdk, List.set_cons_zero, List.set_cons_succ, okL0, okL1, okL2, okL3, okL4, okL5, okL6, okL7, okL8, okL9, okL10, okL11, okL12, okL13, okL14, okL15, List.length_cons, List.length_nil, Nat.reduceAdd, Nat.zero_add, Nat.reduceLeDiff, Nat.reduceEqDiff, decide_true, decide_false, Bool.not_true, Bool.not_false, Bool.and_true, Bool.true_and, eq_self, List.cons_append, List.nil_append, pickL, List.map_cons, List.map_nil, ↓reduceIte, Bool.false_eq_true]
    rfl
  | _ => first | rfl | (simp [Pl] at h; done)
theorem ok_numbers {n : Int} {d : D} {S : Sto} (h : Pl d = true) (hS : SL S) : F_is_numbers [.int n, d] S = .ok (.bl (allT n isN d)) S := by
  show fnRes (b_is_numbers [some (.int n), some d, none] S) = _
  unfold b_is_numbers
  simp -implicitDefEqProofs only [isi_tuple h, r_dB, bind_ok, bind_ex, r_var, vk_some, List.getD_cons_zero, List.getD_cons_succ, r_dC, r_dOp, r_dUn, r_dTst, r_tst, r_dTru, r_optB, r_trub, r_truT, r_dNotT, r_dAndT, r_dOrT, r_dNot, r_dAnd, r_dOr, r_and1, r_and0, r_or1, r_or0, r_andb, r_orb, r_iteb, r_iteb2, r_raise, ix0, ix1, r_sSetIx, fl0, fl1, fl2, fl3, fs0, fs1, fs2, fs0, r_dIf, r_aNil, r_aCons, gd_t, r_dTup, r_dLst, r_dLstM, r_dSl, r_dNoP, r_dP, r_pK, r_dCB, r_dCall, r_dCallK, r_sSeq, sq_nx, sq_rt, sq_ex, sb_ok, sb_ex, r_sNil, r_sRet, r_sExpr, r_sIf, r_sSet, r_sPar, r_sAsg, r_asg, r_sFor, fn_rt, fn_nx, fn_ex, r_dIt, it_tup, it_lst, eq_int, eq_bl, eq_str, ne_str, cmp_int, add_int, sub_int, neg_int, len_tup, len_lst, tuple_lst, list_tup, i2_int, int_int, if_t, if_f, bd_nm, bd_tp, bd_nil, bd_cons, bdk, List.set_cons_zero, List.set_cons_succ, okL0, okL1, okL2, okL3, okL4, okL5, okL6, okL7, okL8, okL9, okL10, okL11, okL12, okL13, okL14, okL15, List.length_cons, List.length_nil, Nat.reduceAdd, Nat.zero_add, Nat.reduceLeDiff, Nat.reduceEqDiff, decide_true, decide_false, Bool.not_true, Bool.not_false, Bool.and_true, Bool.true_and, eq_self, List.cons_append, List.nil_append, pickL, List.map_cons, List.map_nil, ↓reduceIte, Bool.false_eq_true]
  cases d with
  | tup l =>
    obtain ⟨hl, hp⟩ := pl_tup h
    have e := all_run (p := isN) (F := F_is_number) (fe := dV 1) (l := l) (S := S) (j := 2) (ρ := [some (.int n), some (.tup l), none]) rfl hS hl (Nat.lt_succ_self 2) fun d m S' _ => ok_number (hp d m)
    simp -implicitDefEqProofs only [isTup, e, bools_all, r_dB, bind_ok, bind_ex, r_var, vk_some, List.getD_cons_zero, List.getD_cons_succ, r_dC, r_dOp, r_dUn, r_dTst, r_tst, r_dTru, r_optB, r_trub, r_truT, r_dNotT, r_dAndT, r_dOrT, r_dNot, r_dAnd, r_dOr, r_and1, r_and0, r_or1, r_or0, r_andb, r_orb, r_iteb, r_iteb2, r_raise, ix0, ix1, r_sSetIx, fl0, fl1, fl2, fl3, fs0, fs1, fs2, fs0, r_dIf, r_aNil, r_aCons, gd_t, r_dTup, r_dLst, r_dLstM, r_dSl, r_dNoP, r_dP, r_pK, r_dCB, r_dCall, r_dCallK, r_sSeq, sq_nx, sq_rt, sq_ex, sb_ok, sb_ex, r_sNil, r_sRet, r_sExpr, r_sIf, r_sSet, r_sPar, r_sAsg, r_asg, r_sFor, fn_rt, fn_nx, fn_ex, r_dIt, it_tup, it_lst, eq_int, eq_bl, eq_str, ne_str, cmp_int, add_int, sub_int, neg_int, len_tup, len_lst, tuple_lst, list_tup, i2_int, int_int, if_t, if_f, bd_nm, bd_tp, bd_nil, bd_cons, bdk, List.set_cons_zero, List.set_cons_succ, okL0, okL1, okL2, okL3, okL4, okL5, okL6, okL7, okL8, okL9, okL10, okL11, okL12, okL13, okL14, okL15, List.length_cons, List.length_nil, Nat.reduceAdd, Nat.zero_add, Nat.reduceLeDiff, Nat.reduceEqDiff, decide_true, decide_false, Bool.not_true, Bool.not_false, Bool.and_true, Bool.true_and, eq_self, List.cons_append, List.nil_append, pickL, List.map_cons, List.map_nil, ↓reduceIte, Bool.false_eq_true]
    rfl
  | _ => first | rfl | (simp [Pl] at h; done)
def fstD : D → D
  | .tup (a :: _) => a
  | d => d
def sndD : D → D
  | .tup (_ :: b :: _) => b
  | d => d
def isPair : D → Bool
  | .tup [_, _] => true
  | _ => false
theorem ok_pair' {d : D} {S : Sto} (h : Pl d = true) : F_is_pair [d] S = .ok (.bl (isPair d)) S := by
  rw [ok_pair h]
  cases d with
  | tup l =>
    match l with
    | [] => rfl
    | [a] => rfl
    | [a, b] => rfl
    | a :: b :: c :: r => rfl
  | _ => rfl
def isDeed (n : Int) : D → Bool
  | .tup [a, b] => allT n isN a && allT n isN b
  | _ => false
theorem ok_deed {n : Int} {d : D} {S : Sto} (h : Pl d = true) (hS : SL S) : F_is_deed [.int n, d] S = .ok (.bl (isDeed n d)) S := by
  show fnRes (b_is_deed [some (.int n), some d] S) = _
  unfold b_is_deed
  simp -implicitDefEqProofs only [ok_pair' h, r_dB, bind_ok, bind_ex, r_var, vk_some, List.getD_cons_zero, List.getD_cons_succ, r_dC, r_dOp, r_dUn, r_dTst, r_tst, r_dTru, r_optB, r_trub, r_truT, r_dNotT, r_dAndT, r_dOrT, r_dNot, r_dAnd, r_dOr, r_and1, r_and0, r_or1, r_or0, r_andb, r_orb, r_iteb, r_iteb2, r_raise, ix0, ix1, r_sSetIx, fl0, fl1, fl2, fl3, fs0, fs1, fs2, fs0, r_dIf, r_aNil, r_aCons, gd_t, r_dTup, r_dLst, r_dLstM, r_dSl, r_dNoP, r_dP, r_pK, r_dCB, r_dCall, r_dCallK, r_sSeq, sq_nx, sq_rt, sq_ex, sb_ok, sb_ex, r_sNil, r_sRet, r_sExpr, r_sIf, r_sSet, r_sPar, r_sAsg, r_asg, r_sFor, fn_rt, fn_nx, fn_ex, r_dIt, it_tup, it_lst, eq_int, eq_bl, eq_str, ne_str, cmp_int, add_int, sub_int, neg_int, len_tup, len_lst, tuple_lst, list_tup, i2_int, int_int, if_t, if_f, bd_nm, bd_tp, bd_nil, bd_cons, bdk, List.set_cons_zero, List.set_cons_succ, okL0, okL1, okL2, okL3, okL4, okL5, okL6, okL7, okL8, okL9, okL10, okL11, okL12, okL13, okL14, okL15, List.length_cons, List.length_nil, Nat.reduceAdd, Nat.zero_add, Nat.reduceLeDiff, Nat.reduceEqDiff, decide_true, decide_false, Bool.not_true, Bool.not_false, Bool.and_true, Bool.true_and, eq_self, List.cons_append, List.nil_append, pickL, List.map_cons, List.map_nil, ↓reduceIte, Bool.false_eq_true]
  cases d with
  | tup l =>
    match l, h with
    | [], _ => rfl
    | [a], _ => rfl
    | [a, b], h =>
      obtain ⟨_, hp⟩ := pl_tup h
      have ha := hp a (by simp)
      have hb := hp b (by simp)
      simp -implicitDefEqProofs only [isPair, ix0, ix1, ok_numbers (n := n) ha hS, ok_numbers (n := n) hb hS, r_dB, bind_ok, bind_ex, r_var, vk_some, List.getD_cons_zero, List.getD_cons_succ, r_dC, r_dOp, r_dUn, r_dTst, r_tst, r_dTru, r_optB, r_trub, r_truT, r_dNotT, r_dAndT, r_dOrT, r_dNot, r_dAnd, r_dOr, r_and1, r_and0, r_or1, r_or0, r_andb, r_orb, r_iteb, r_iteb2, r_raise, ix0, ix1, r_sSetIx, fl0, fl1, fl2, fl3, fs0, fs1, fs2, fs0, r_dIf, r_aNil, r_aCons, gd_t, r_dTup, r_dLst, r_dLstM, r_dSl, r_dNoP, r_dP, r_pK, r_dCB, r_dCall, r_dCallK, r_sSeq, sq_nx, sq_rt, sq_ex, sb_ok, sb_ex, r_sNil, r_sRet, r_sExpr, r_sIf, r_sSet, r_sPar, r_sAsg, r_asg, r_sFor, fn_rt, fn_nx, fn_ex, r_dIt, it_tup, it_lst, eq_int, eq_bl, eq_str, ne_str, cmp_int, add_int, sub_int, neg_int, len_tup, len_lst, tuple_lst, list_tup, i2_int, int_int, if_t, if_f, bd_nm, bd_tp, bd_nil, bd_cons, bdk, List.set_cons_zero, List.set_cons_succ, okL0, okL1, okL2, okL3, okL4, okL5, okL6, okL7, okL8, okL9, okL10, okL11, okL12, okL13, okL14, okL15, List.length_cons, List.length_nil, Nat.reduceAdd, Nat.zero_add, Nat.reduceLeDiff, Nat.reduceEqDiff, decide_true, decide_false, Bool.not_true, Bool.not_false, Bool.and_true, Bool.true_and, eq_self, List.cons_append, List.nil_append, pickL, List.map_cons, List.map_nil, ↓reduceIte, Bool.false_eq_true]
      rfl
    | a :: b :: c :: r, _ => rfl
  | _ => rfl
/-- the first fault of a deed -/
def deedV (n : Int) : D → Option Str
  | .tup [a, b] => if allT n isN a = true then (if allT n isN b = true then none else some "give") else some "take"
  | _ => some "shape"
theorem deedV_is (n : Int) (d : D) : isDeed n d = (deedV n d).isNone := by
  unfold isDeed deedV
  split
  · rename_i a b
    cases allT n isN a <;> cases allT n isN b <;> rfl
  · rfl
def told (o : Option Str) (p : D) (S : Sto) : Res D := match o with
  | none => .ok .non S
  | some w => .ex ⟨"InvalidPaper", ["word", "at"], [.str w, p]⟩ S
theorem ok_check {n : Int} {d p : D} {S : Sto} (h : Pl d = true) (hS : SL S) : F_check_deed [.int n, d, p] S = told (deedV n d) p S := by
  show fnRes (b_check_deed [some (.int n), some d, some p] S) = _
  unfold b_check_deed
  simp -implicitDefEqProofs only [ok_pair' h, r_dB, bind_ok, bind_ex, r_var, vk_some, List.getD_cons_zero, List.getD_cons_succ, r_dC, r_dOp, r_dUn, r_dTst, r_tst, r_dTru, r_optB, r_trub, r_truT, r_dNotT, r_dAndT, r_dOrT, r_dNot, r_dAnd, r_dOr, r_and1, r_and0, r_or1, r_or0, r_andb, r_orb, r_iteb, r_iteb2, r_raise, ix0, ix1, r_sSetIx, fl0, fl1, fl2, fl3, fs0, fs1, fs2, fs0, r_dIf, r_aNil, r_aCons, gd_t, r_dTup, r_dLst, r_dLstM, r_dSl, r_dNoP, r_dP, r_pK, r_dCB, r_dCall, r_dCallK, r_sSeq, sq_nx, sq_rt, sq_ex, sb_ok, sb_ex, r_sNil, r_sRet, r_sExpr, r_sIf, r_sSet, r_sPar, r_sAsg, r_asg, r_sFor, fn_rt, fn_nx, fn_ex, r_dIt, it_tup, it_lst, eq_int, eq_bl, eq_str, ne_str, cmp_int, add_int, sub_int, neg_int, len_tup, len_lst, tuple_lst, list_tup, i2_int, int_int, if_t, if_f, bd_nm, bd_tp, bd_nil, bd_cons, bdk, List.set_cons_zero, List.set_cons_succ, okL0, okL1, okL2, okL3, okL4, okL5, okL6, okL7, okL8, okL9, okL10, okL11, okL12, okL13, okL14, okL15, List.length_cons, List.length_nil, Nat.reduceAdd, Nat.zero_add, Nat.reduceLeDiff, Nat.reduceEqDiff, decide_true, decide_false, Bool.not_true, Bool.not_false, Bool.and_true, Bool.true_and, eq_self, List.cons_append, List.nil_append, pickL, List.map_cons, List.map_nil, ↓reduceIte, Bool.false_eq_true]
  cases d with
  | tup l =>
    match l, h with
    | [], _ => rfl
    | [a], _ => rfl
    | [a, b], h =>
      obtain ⟨_, hp⟩ := pl_tup h
      have ha := hp a (by simp)
      have hb := hp b (by simp)
      simp -implicitDefEqProofs only [isPair, ix0, ix1, ok_numbers (n := n) ha hS, r_dB, bind_ok, bind_ex, r_var, vk_some, List.getD_cons_zero, List.getD_cons_succ, r_dC, r_dOp, r_dUn, r_dTst, r_tst, r_dTru, r_optB, r_trub, r_truT, r_dNotT, r_dAndT, r_dOrT, r_dNot, r_dAnd, r_dOr, r_and1, r_and0, r_or1, r_or0, r_andb, r_orb, r_iteb, r_iteb2, r_raise, ix0, ix1, r_sSetIx, fl0, fl1, fl2, fl3, fs0, fs1, fs2, fs0, r_dIf, r_aNil, r_aCons, gd_t, r_dTup, r_dLst, r_dLstM, r_dSl, r_dNoP, r_dP, r_pK, r_dCB, r_dCall, r_dCallK, r_sSeq, sq_nx, sq_rt, sq_ex, sb_ok, sb_ex, r_sNil, r_sRet, r_sExpr, r_sIf, r_sSet, r_sPar, r_sAsg, r_asg, r_sFor, fn_rt, fn_nx, fn_ex, r_dIt, it_tup, it_lst, eq_int, eq_bl, eq_str, ne_str, cmp_int, add_int, sub_int, neg_int, len_tup, len_lst, tuple_lst, list_tup, i2_int, int_int, if_t, if_f, bd_nm, bd_tp, bd_nil, bd_cons, bdk, List.set_cons_zero, List.set_cons_succ, okL0, okL1, okL2, okL3, okL4, okL5, okL6, okL7, okL8, okL9, okL10, okL11, okL12, okL13, okL14, okL15, List.length_cons, List.length_nil, Nat.reduceAdd, Nat.zero_add, Nat.reduceLeDiff, Nat.reduceEqDiff, decide_true, decide_false, Bool.not_true, Bool.not_false, Bool.and_true, Bool.true_and, eq_self, List.cons_append, List.nil_append, pickL, List.map_cons, List.map_nil, ↓reduceIte, Bool.false_eq_true]
      unfold deedV
      cases e1 : allT n isN a
      · simp -implicitDefEqProofs only [e1, told, r_dB, bind_ok, bind_ex, r_var, vk_some, List.getD_cons_zero, List.getD_cons_succ, r_dC, r_dOp, r_dUn, r_dTst, r_tst, r_dTru, r_optB, r_trub, r_truT, r_dNotT, r_dAndT, r_dOrT, r_dNot, r_dAnd, r_dOr, r_and1, r_and0, r_or1, r_or0, r_andb, r_orb, r_iteb, r_iteb2, r_raise, ix0, ix1, r_sSetIx, fl0, fl1, fl2, fl3, fs0, fs1, fs2, fs0, r_dIf, r_aNil, r_aCons, gd_t, r_dTup, r_dLst, r_dLstM, r_dSl, r_dNoP, r_dP, r_pK, r_dCB, r_dCall, r_dCallK, r_sSeq, sq_nx, sq_rt, sq_ex, sb_ok, sb_ex, r_sNil, r_sRet, r_sExpr, r_sIf, r_sSet, r_sPar, r_sAsg, r_asg, r_sFor, fn_rt, fn_nx, fn_ex, r_dIt, it_tup, it_lst, eq_int, eq_bl, eq_str, ne_str, cmp_int, add_int, sub_int, neg_int, len_tup, len_lst, tuple_lst, list_tup, i2_int, int_int, if_t, if_f, bd_nm, bd_tp, bd_nil, bd_cons, bdk, List.set_cons_zero, List.set_cons_succ, okL0, okL1, okL2, okL3, okL4, okL5, okL6, okL7, okL8, okL9, okL10, okL11, okL12, okL13, okL14, okL15, List.length_cons, List.length_nil, Nat.reduceAdd, Nat.zero_add, Nat.reduceLeDiff, Nat.reduceEqDiff, decide_true, decide_false, Bool.not_true, Bool.not_false, Bool.and_true, Bool.true_and, eq_self, List.cons_append, List.nil_append, pickL, List.map_cons, List.map_nil, ↓reduceIte, Bool.false_eq_true]
      · simp -implicitDefEqProofs only [ix0, ix1, ok_numbers (n := n) hb hS, r_dB, bind_ok, bind_ex, r_var, vk_some, List.getD_cons_zero, List.getD_cons_succ, r_dC, r_dOp, r_dUn, r_dTst, r_tst, r_dTru, r_optB, r_trub, r_truT, r_dNotT, r_dAndT, r_dOrT, r_dNot, r_dAnd, r_dOr, r_and1, r_and0, r_or1, r_or0, r_andb, r_orb, r_iteb, r_iteb2, r_raise, ix0, ix1, r_sSetIx, fl0, fl1, fl2, fl3, fs0, fs1, fs2, fs0, r_dIf, r_aNil, r_aCons, gd_t, r_dTup, r_dLst, r_dLstM, r_dSl, r_dNoP, r_dP, r_pK, r_dCB, r_dCall, r_dCallK, r_sSeq, sq_nx, sq_rt, sq_ex, sb_ok, sb_ex, r_sNil, r_sRet, r_sExpr, r_sIf, r_sSet, r_sPar, r_sAsg, r_asg, r_sFor, fn_rt, fn_nx, fn_ex, r_dIt, it_tup, it_lst, eq_int, eq_bl, eq_str, ne_str, cmp_int, add_int, sub_int, neg_int, len_tup, len_lst, tuple_lst, list_tup, i2_int, int_int, if_t, if_f, bd_nm, bd_tp, bd_nil, bd_cons, bdk, List.set_cons_zero, List.set_cons_succ, okL0, okL1, okL2, okL3, okL4, okL5, okL6, okL7, okL8, okL9, okL10, okL11, okL12, okL13, okL14, okL15, List.length_cons, List.length_nil, Nat.reduceAdd, Nat.zero_add, Nat.reduceLeDiff, Nat.reduceEqDiff, decide_true, decide_false, Bool.not_true, Bool.not_false, Bool.and_true, Bool.true_and, eq_self, List.cons_append, List.nil_append, pickL, List.map_cons, List.map_nil, ↓reduceIte, Bool.false_eq_true]
        cases e2 : allT n isN b
        · simp -implicitDefEqProofs only [e1, e2, told, r_dB, bind_ok, bind_ex, r_var, vk_some, List.getD_cons_zero, List.getD_cons_succ, r_dC, r_dOp, r_dUn, r_dTst, r_tst, r_dTru, r_optB, r_trub, r_truT, r_dNotT, r_dAndT, r_dOrT, r_dNot, r_dAnd, r_dOr, r_and1, r_and0, r_or1, r_or0, r_andb, r_orb, r_iteb, r_iteb2, r_raise, ix0, ix1, r_sSetIx, fl0, fl1, fl2, fl3, fs0, fs1, fs2, fs0, r_dIf, r_aNil, r_aCons, gd_t, r_dTup, r_dLst, r_dLstM, r_dSl, r_dNoP, r_dP, r_pK, r_dCB, r_dCall, r_dCallK, r_sSeq, sq_nx, sq_rt, sq_ex, sb_ok, sb_ex, r_sNil, r_sRet, r_sExpr, r_sIf, r_sSet, r_sPar, r_sAsg, r_asg, r_sFor, fn_rt, fn_nx, fn_ex, r_dIt, it_tup, it_lst, eq_int, eq_bl, eq_str, ne_str, cmp_int, add_int, sub_int, neg_int, len_tup, len_lst, tuple_lst, list_tup, i2_int, int_int, if_t, if_f, bd_nm, bd_tp, bd_nil, bd_cons, bdk, List.set_cons_zero, List.set_cons_succ, okL0, okL1, okL2, okL3, okL4, okL5, okL6, okL7, okL8, okL9, okL10, okL11, okL12, okL13, okL14, okL15, List.length_cons, List.length_nil, Nat.reduceAdd, Nat.zero_add, Nat.reduceLeDiff, Nat.reduceEqDiff, decide_true, decide_false, Bool.not_true, Bool.not_false, Bool.and_true, Bool.true_and, eq_self, List.cons_append, List.nil_append, pickL, List.map_cons, List.map_nil, ↓reduceIte, Bool.false_eq_true]
        · simp -implicitDefEqProofs only [e1, e2, told, r_dB, bind_ok, bind_ex, r_var, vk_some, List.getD_cons_zero, List.getD_cons_succ, r_dC, r_dOp, r_dUn, r_dTst, r_tst, r_dTru, r_optB, r_trub, r_truT, r_dNotT, r_dAndT, r_dOrT, r_dNot, r_dAnd, r_dOr, r_and1, r_and0, r_or1, r_or0, r_andb, r_orb, r_iteb, r_iteb2, r_raise, ix0, ix1, r_sSetIx, fl0, fl1, fl2, fl3, fs0, fs1, fs2, fs0, r_dIf, r_aNil, r_aCons, gd_t, r_dTup, r_dLst, r_dLstM, r_dSl, r_dNoP, r_dP, r_pK, r_dCB, r_dCall, r_dCallK, r_sSeq, sq_nx, sq_rt, sq_ex, sb_ok, sb_ex, r_sNil, r_sRet, r_sExpr, r_sIf, r_sSet, r_sPar, r_sAsg, r_asg, r_sFor, fn_rt, fn_nx, fn_ex, r_dIt, it_tup, it_lst, eq_int, eq_bl, eq_str, ne_str, cmp_int, add_int, sub_int, neg_int, len_tup, len_lst, tuple_lst, list_tup, i2_int, int_int, if_t, if_f, bd_nm, bd_tp, bd_nil, bd_cons, bdk, List.set_cons_zero, List.set_cons_succ, okL0, okL1, okL2, okL3, okL4, okL5, okL6, okL7, okL8, okL9, okL10, okL11, okL12, okL13, okL14, okL15, List.length_cons, List.length_nil, Nat.reduceAdd, Nat.zero_add, Nat.reduceLeDiff, Nat.reduceEqDiff, decide_true, decide_false, Bool.not_true, Bool.not_false, Bool.and_true, Bool.true_and, eq_self, List.cons_append, List.nil_append, pickL, List.map_cons, List.map_nil, ↓reduceIte, Bool.false_eq_true]
    | a :: b :: c :: r, _ => rfl
  | _ => first | rfl | (simp [Pl] at h; done)
/-! ### lets_book, is_book -/
/-- the first deed at fault, from the i-th on -/
def firstV (n : Int) : Nat → List D → Option (Str × Int)
  | _, [] => none
  | i, d :: ds => match deedV n d with
    | some w => some (w, (i : Int))
    | none => firstV n (i + 1) ds
def toldB (o : Option (Str × Int)) (r : Res D) (S : Sto) : Res D := match o with
  | none => r
  | some (w, i) => .ex ⟨"InvalidPaper", ["word", "at"], [.str w, .int i]⟩ S
def intD : D → Int
  | .int n => n
  | _ => 0
def bookV2 (a b : D) : Option (Str × Int) := if isW a = true then (match b with | .tup ds => firstV (intD a) 0 ds | _ => some ("deeds", -1)) else some ("size", -1)
/-- the first fault of a book -/
def bookV : D → Option (Str × Int)
  | .tup [a, b] => bookV2 a b
  | _ => some ("shape", -1)
def bookN : D → Int
  | .tup [_, .tup ds] => ds.length
  | _ => 0
theorem enum_run {n : Int} {k ds : D} {S : Sto} (hS : SL S) : ∀ (l0 l : List D) (i : Nat) (x3 x4 : Option D), (∀ d ∈ l, Pl d = true) → ∃ y3 y4, loopD (gdOk none l0) (.tp [(.nm 3), (.nm 4)]) (sExpr (dCall 3 F_check_deed (aCons (dV 1) (aCons (dV 4) (aCons (dV 3) aNil)))))
      ((List.range l.length).map fun (j : Nat) => D.tup [.int ((i + j : Nat) : Int), l.getD j .non]) [some k, some (.int n), some ds, x3, x4] S =
    match firstV n i l with
    | none => .nx [some k, some (.int n), some ds, y3, y4] S
    | some (w, j) => .ex ⟨"InvalidPaper", ["word", "at"], [.str w, .int j]⟩ [some k, some (.int n), some ds, y3, y4] S := by
  intro l0 l
  induction l with
  | nil => intro i x3 x4 _; exact ⟨x3, x4, loop_nil⟩
  | cons d l ih =>
    intro i x3 x4 h
    have hd := h d List.mem_cons_self
    have e1 : (List.range (d :: l).length).map (fun (j : Nat) => D.tup [.int ((i + j : Nat) : Int), (d :: l).getD j .non]) = D.tup [.int (i : Int), d] :: (List.range l.length).map fun (j : Nat) => D.tup [.int ((i + 1 + j : Nat) : Int), l.getD j .non] := by
      rw [List.length_cons, List.range_succ_eq_map, List.map_cons, List.map_map]
      congr 1
      apply List.map_congr_left
      intro j _
      show D.tup [.int ((i + (j + 1) : Nat) : Int), (d :: l).getD (j + 1) .non] = _
      rw [List.getD_cons_succ, show i + (j + 1) = i + 1 + j by omega]
    have e2 : Tg.bind (.tp [(.nm 3), (.nm 4)]) (D.tup [.int (i : Int), d]) [some k, some (.int n), some ds, x3, x4] = some [some k, some (.int n), some ds, some (.int (i : Int)), some d] := rfl
    have e3 : sExpr (dCall 3 F_check_deed (aCons (dV 1) (aCons (dV 4) (aCons (dV 3) aNil)))) [some k, some (.int n), some ds, some (.int (i : Int)), some d] S = sBind (told (deedV n d) (.int (i : Int)) S) [some k, some (.int n), some ds, some (.int (i : Int)), some d] fun _ S' => .nx [some k, some (.int n), some ds, some (.int (i : Int)), some d] S' := by
      simp -implicitDefEqProofs only [ok_check (n := n) (p := .int (i : Int)) hd hS, r_dB, bind_ok, bind_ex, r_var, vk_some, List.getD_cons_zero, List.getD_cons_succ, r_dC, r_dOp, r_dUn, r_dTst, r_tst, r_dTru, r_optB, r_trub, r_truT, r_dNotT, r_dAndT, r_dOrT, r_dNot, r_dAnd, r_dOr, r_and1, r_and0, r_or1, r_or0, r_andb, r_orb, r_iteb, r_iteb2, r_raise, ix0, ix1, r_sSetIx, fl0, fl1, fl2, fl3, fs0, fs1, fs2, fs0, r_dIf, r_aNil, r_aCons, gd_t, r_dTup, r_dLst, r_dLstM, r_dSl, r_dNoP, r_dP, r_pK, r_dCB, r_dCall, r_dCallK, r_sSeq, sq_nx, sq_rt, sq_ex, sb_ok, sb_ex, r_sNil, r_sRet, r_sExpr, r_sIf, r_sSet, r_sPar, r_sAsg, r_asg, r_sFor, fn_rt, fn_nx, fn_ex, r_dIt, it_tup, it_lst, eq_int, eq_bl, eq_str, ne_str, cmp_int, add_int, sub_int, neg_int, len_tup, len_lst, tuple_lst, list_tup, i2_int, int_int, if_t, if_f, bd_nm, bd_tp, bd_nil, bd_cons, bdk, List.set_cons_zero, List.set_cons_succ, okL0, okL1, okL2, okL3, okL4, okL5, okL6, okL7, okL8, okL9, okL10, okL11, okL12, okL13, okL14, okL15, List.length_cons, List.length_nil, Nat.reduceAdd, Nat.zero_add, Nat.reduceLeDiff, Nat.reduceEqDiff, decide_true, decide_false, Bool.not_true, Bool.not_false, Bool.and_true, Bool.true_and, eq_self, List.cons_append, List.nil_append, pickL, List.map_cons, List.map_nil, ↓reduceIte, Bool.false_eq_true]
    unfold firstV
    cases e4 : deedV n d with
    | none =>
      obtain ⟨y3, y4, e5⟩ := ih (i + 1) (some (.int (i : Int))) (some d) fun x m => h x (List.mem_cons_of_mem _ m)
      refine ⟨y3, y4, ?_⟩
      rw [e1, loop_cons e2, e3, e4]
      exact e5
    | some w => exact ⟨some (.int (i : Int)), some d, by rw [e1, loop_cons e2, e3, e4]; rfl⟩
theorem r_dEnumT {fs : Rho → Sto → Res (List D)} {ρ : Rho} {S : Sto} {l : List D} (h : fs ρ S = .ok [.tup l] S) : dEnumT fs ρ S = .ok (enumD l, none) S := by
  unfold dEnumT
  rw [r_dB, h]; rfl
theorem ok_lets {d : D} {S : Sto} (h : Pl d = true) (hS : SL S) : F_lets_book [d] S = toldB (bookV d) (.ok (.int (bookN d)) S) S := by
  show fnRes (b_lets_book [some d, none, none, none, none] S) = _
  unfold b_lets_book
  simp -implicitDefEqProofs only [ok_pair' h, r_dB, bind_ok, bind_ex, r_var, vk_some, List.getD_cons_zero, List.getD_cons_succ, r_dC, r_dOp, r_dUn, r_dTst, r_tst, r_dTru, r_optB, r_trub, r_truT, r_dNotT, r_dAndT, r_dOrT, r_dNot, r_dAnd, r_dOr, r_and1, r_and0, r_or1, r_or0, r_andb, r_orb, r_iteb, r_iteb2, r_raise, ix0, ix1, r_sSetIx, fl0, fl1, fl2, fl3, fs0, fs1, fs2, fs0, r_dIf, r_aNil, r_aCons, gd_t, r_dTup, r_dLst, r_dLstM, r_dSl, r_dNoP, r_dP, r_pK, r_dCB, r_dCall, r_dCallK, r_sSeq, sq_nx, sq_rt, sq_ex, sb_ok, sb_ex, r_sNil, r_sRet, r_sExpr, r_sIf, r_sSet, r_sPar, r_sAsg, r_asg, r_sFor, fn_rt, fn_nx, fn_ex, r_dIt, it_tup, it_lst, eq_int, eq_bl, eq_str, ne_str, cmp_int, add_int, sub_int, neg_int, len_tup, len_lst, tuple_lst, list_tup, i2_int, int_int, if_t, if_f, bd_nm, bd_tp, bd_nil, bd_cons, bdk, List.set_cons_zero, List.set_cons_succ, okL0, okL1, okL2, okL3, okL4, okL5, okL6, okL7, okL8, okL9, okL10, okL11, okL12, okL13, okL14, okL15, List.length_cons, List.length_nil, Nat.reduceAdd, Nat.zero_add, Nat.reduceLeDiff, Nat.reduceEqDiff, decide_true, decide_false, Bool.not_true, Bool.not_false, Bool.and_true, Bool.true_and, eq_self, List.cons_append, List.nil_append, pickL, List.map_cons, List.map_nil, ↓reduceIte, Bool.false_eq_true]
  cases d with
  | tup l =>
    match l, h with
    | [], _ => rfl
    | [a], _ => rfl
    | [a, b], h =>
      obtain ⟨_, hp⟩ := pl_tup h
      have ha := hp a (by simp)
      have hb := hp b (by simp)
      simp -implicitDefEqProofs only [isPair, ok_whole ha, r_dB, bind_ok, bind_ex, r_var, vk_some, List.getD_cons_zero, List.getD_cons_succ, r_dC, r_dOp, r_dUn, r_dTst, r_tst, r_dTru, r_optB, r_trub, r_truT, r_dNotT, r_dAndT, r_dOrT, r_dNot, r_dAnd, r_dOr, r_and1, r_and0, r_or1, r_or0, r_andb, r_orb, r_iteb, r_iteb2, r_raise, ix0, ix1, r_sSetIx, fl0, fl1, fl2, fl3, fs0, fs1, fs2, fs0, r_dIf, r_aNil, r_aCons, gd_t, r_dTup, r_dLst, r_dLstM, r_dSl, r_dNoP, r_dP, r_pK, r_dCB, r_dCall, r_dCallK, r_sSeq, sq_nx, sq_rt, sq_ex, sb_ok, sb_ex, r_sNil, r_sRet, r_sExpr, r_sIf, r_sSet, r_sPar, r_sAsg, r_asg, r_sFor, fn_rt, fn_nx, fn_ex, r_dIt, it_tup, it_lst, eq_int, eq_bl, eq_str, ne_str, cmp_int, add_int, sub_int, neg_int, len_tup, len_lst, tuple_lst, list_tup, i2_int, int_int, if_t, if_f, bd_nm, bd_tp, bd_nil, bd_cons, bdk, List.set_cons_zero, List.set_cons_succ, okL0, okL1, okL2, okL3, okL4, okL5, okL6, okL7, okL8, okL9, okL10, okL11, okL12, okL13, okL14, okL15, List.length_cons, List.length_nil, Nat.reduceAdd, Nat.zero_add, Nat.reduceLeDiff, Nat.reduceEqDiff, decide_true, decide_false, Bool.not_true, Bool.not_false, Bool.and_true, Bool.true_and, eq_self, List.cons_append, List.nil_append, pickL, List.map_cons, List.map_nil, ↓reduceIte, Bool.false_eq_true]
      cases e1 : isW a with
      | false =>
        simp -implicitDefEqProofs only [bookV, bookV2, e1, toldB, r_dB, bind_ok, bind_ex, r_var, vk_some, List.getD_cons_zero, List.getD_cons_succ, r_dC, r_dOp, r_dUn, r_dTst, r_tst, r_dTru, r_optB, r_trub, r_truT, r_dNotT, r_dAndT, r_dOrT, r_dNot, r_dAnd, r_dOr, r_and1, r_and0, r_or1, r_or0, r_andb, r_orb, r_iteb, r_iteb2, r_raise, ix0, ix1, r_sSetIx, fl0, fl1, fl2, fl3, fs0, fs1, fs2, fs0, r_dIf, r_aNil, r_aCons, gd_t, r_dTup, r_dLst, r_dLstM, r_dSl, r_dNoP, r_dP, r_pK, r_dCB, r_dCall, r_dCallK, r_sSeq, sq_nx, sq_rt, sq_ex, sb_ok, sb_ex, r_sNil, r_sRet, r_sExpr, r_sIf, r_sSet, r_sPar, r_sAsg, r_asg, r_sFor, fn_rt, fn_nx, fn_ex, r_dIt, it_tup, it_lst, eq_int, eq_bl, eq_str, ne_str, cmp_int, add_int, sub_int, neg_int, len_tup, len_lst, tuple_lst, list_tup, i2_int, int_int, if_t, if_f, bd_nm, bd_tp, bd_nil, bd_cons, bdk, List.set_cons_zero, List.set_cons_succ, okL0, okL1, okL2, okL3, okL4, okL5, okL6, okL7, okL8, okL9, okL10, okL11, okL12, okL13, okL14, okL15, List.length_cons, List.length_nil, Nat.reduceAdd, Nat.zero_add, Nat.reduceLeDiff, Nat.reduceEqDiff, decide_true, decide_false, Bool.not_true, Bool.not_false, Bool.and_true, Bool.true_and, eq_self, List.cons_append, List.nil_append, pickL, List.map_cons, List.map_nil, ↓reduceIte, Bool.false_eq_true]
      | true =>
        obtain ⟨n, rfl⟩ : ∃ n, a = .int n := by cases a <;> first | exact ⟨_, rfl⟩ | (simp [isW] at e1; done)
        have hn : 1 ≤ n := by simpa [isW] using e1
        simp -implicitDefEqProofs only [isi_tuple hb, r_dB, bind_ok, bind_ex, r_var, vk_some, List.getD_cons_zero, List.getD_cons_succ, r_dC, r_dOp, r_dUn, r_dTst, r_tst, r_dTru, r_optB, r_trub, r_truT, r_dNotT, r_dAndT, r_dOrT, r_dNot, r_dAnd, r_dOr, r_and1, r_and0, r_or1, r_or0, r_andb, r_orb, r_iteb, r_iteb2, r_raise, ix0, ix1, r_sSetIx, fl0, fl1, fl2, fl3, fs0, fs1, fs2, fs0, r_dIf, r_aNil, r_aCons, gd_t, r_dTup, r_dLst, r_dLstM, r_dSl, r_dNoP, r_dP, r_pK, r_dCB, r_dCall, r_dCallK, r_sSeq, sq_nx, sq_rt, sq_ex, sb_ok, sb_ex, r_sNil, r_sRet, r_sExpr, r_sIf, r_sSet, r_sPar, r_sAsg, r_asg, r_sFor, fn_rt, fn_nx, fn_ex, r_dIt, it_tup, it_lst, eq_int, eq_bl, eq_str, ne_str, cmp_int, add_int, sub_int, neg_int, len_tup, len_lst, tuple_lst, list_tup, i2_int, int_int, if_t, if_f, bd_nm, bd_tp, bd_nil, bd_cons, bdk, List.set_cons_zero, List.set_cons_succ, okL0, okL1, okL2, okL3, okL4, okL5, okL6, okL7, okL8, okL9, okL10, okL11, okL12, okL13, okL14, okL15, List.length_cons, List.length_nil, Nat.reduceAdd, Nat.zero_add, Nat.reduceLeDiff, Nat.reduceEqDiff, decide_true, decide_false, Bool.not_true, Bool.not_false, Bool.and_true, Bool.true_and, eq_self, List.cons_append, List.nil_append, pickL, List.map_cons, List.map_nil, ↓reduceIte, Bool.false_eq_true]
        cases b with
        | tup ds =>
          obtain ⟨hl, hq⟩ := pl_tup hb
          obtain ⟨y3, y4, e2⟩ := enum_run (n := n) (k := .tup [.int n, .tup ds]) (ds := .tup ds) (S := S) hS (enumD ds) ds 0 none none hq
          have e3 : enumD ds = (List.range ds.length).map fun (j : Nat) => D.tup [.int ((0 + j : Nat) : Int), ds.getD j .non] := by
            unfold enumD
            apply List.map_congr_left
            intro j _
            rw [Nat.zero_add]
          rw [← e3] at e2
          simp -implicitDefEqProofs only [isTup, r_dEnumT (l := ds) (S := S) (ρ := [some (.tup [.int n, .tup ds]), some (.int n), some (.tup ds), none, none]) (fs := aCons (dV 2) aNil) rfl, r_dB, bind_ok, bind_ex, r_var, vk_some, List.getD_cons_zero, List.getD_cons_succ, r_dC, r_dOp, r_dUn, r_dTst, r_tst, r_dTru, r_optB, r_trub, r_truT, r_dNotT, r_dAndT, r_dOrT, r_dNot, r_dAnd, r_dOr, r_and1, r_and0, r_or1, r_or0, r_andb, r_orb, r_iteb, r_iteb2, r_raise, ix0, ix1, r_sSetIx, fl0, fl1, fl2, fl3, fs0, fs1, fs2, fs0, r_dIf, r_aNil, r_aCons, gd_t, r_dTup, r_dLst, r_dLstM, r_dSl, r_dNoP, r_dP, r_pK, r_dCB, r_dCall, r_dCallK, r_sSeq, sq_nx, sq_rt, sq_ex, sb_ok, sb_ex, r_sNil, r_sRet, r_sExpr, r_sIf, r_sSet, r_sPar, r_sAsg, r_asg, r_sFor, fn_rt, fn_nx, fn_ex, r_dIt, it_tup, it_lst, eq_int, eq_bl, eq_str, ne_str, cmp_int, add_int, sub_int, neg_int, len_tup, len_lst, tuple_lst, list_tup, i2_int, int_int, if_t, if_f, bd_nm, bd_tp, bd_nil, bd_cons, bdk, List.set_cons_zero, List.set_cons_succ, okL0, okL1, okL2, okL3, okL4, okL5, okL6, okL7, okL8, okL9, okL10, okL11, okL12, okL13, okL14, okL15, List.length_cons, List.length_nil, Nat.reduceAdd, Nat.zero_add, Nat.reduceLeDiff, Nat.reduceEqDiff, decide_true, decide_false, Bool.not_true, Bool.not_false, Bool.and_true, Bool.true_and, eq_self, List.cons_append, List.nil_append, pickL, List.map_cons, List.map_nil, ↓reduceIte, Bool.false_eq_true]
          rw [e2]
          unfold bookV bookV2
          dsimp only
          rw [if_pos e1]
          dsimp only [intD]
          cases firstV n 0 ds with
          | none => rfl
          | some p => obtain ⟨w, i⟩ := p; rfl
        | _ =>
          first
          | (simp [Pl] at hb; done)
          | (simp -implicitDefEqProofs only [isTup, bookV, bookV2, e1, toldB, r_dB, bind_ok, bind_ex, r_var, vk_some, List.getD_cons_zero, List.getD_cons_succ, r_dC, r_dOp, r_dUn, r_dTst, r_tst, r_dTru, r_optB, r_trub, r_truT, r_dNotT, r_dAndT, r_dOrT, r_dNot, r_dAnd, r_dOr, r_and1, r_and0, r_or1, r_or0, r_andb, r_orb, r_iteb, r_iteb2, r_raise, ix0, ix1, r_sSetIx, fl0, fl1, fl2, fl3, fs0, fs1, fs2, fs0, r_dIf, r_aNil, r_aCons, gd_t, r_dTup, r_dLst, r_dLstM, r_dSl, r_dNoP, r_dP, r_pK, r_dCB, r_dCall, r_dCallK, r_sSeq, sq_nx, sq_rt, sq_ex, sb_ok, sb_ex, r_sNil, r_sRet, r_sExpr, r_sIf, r_sSet, r_sPar, r_sAsg, r_asg, r_sFor, fn_rt, fn_nx, fn_ex, r_dIt, it_tup, it_lst, eq_int, eq_bl, eq_str, ne_str, cmp_int, add_int, sub_int, neg_int, len_tup, len_lst, tuple_lst, list_tup, i2_int, int_int, if_t, if_f, bd_nm, bd_tp, bd_nil, bd_cons, bdk, List.set_cons_zero, List.set_cons_succ, okL0, okL1, okL2, okL3, okL4, okL5, okL6, okL7, okL8, okL9, okL10, okL11, okL12, okL13, okL14, okL15, List.length_cons, List.length_nil, Nat.reduceAdd, Nat.zero_add, Nat.reduceLeDiff, Nat.reduceEqDiff, decide_true, decide_false, Bool.not_true, Bool.not_false, Bool.and_true, Bool.true_and, eq_self, List.cons_append, List.nil_append, pickL, List.map_cons, List.map_nil, ↓reduceIte, Bool.false_eq_true])
    | a :: b :: c :: r, _ => rfl
  | _ => first | rfl | (simp [Pl] at h; done)
theorem first_all (n : Int) : ∀ (ds : List D) (i : Nat), ds.all (isDeed n) = (firstV n i ds).isNone
  | [], _ => rfl
  | d :: ds, i => by
    unfold firstV
    rw [List.all_cons, first_all n ds (i + 1), deedV_is]
    cases deedV n d <;> rfl
theorem ok_book {d : D} {S : Sto} (h : Pl d = true) (hS : SL S) : F_is_book [d] S = .ok (.bl (bookV d).isNone) S := by
  show fnRes (b_is_book [some d, none] S) = _
  unfold b_is_book
  simp -implicitDefEqProofs only [ok_pair' h, r_dB, bind_ok, bind_ex, r_var, vk_some, List.getD_cons_zero, List.getD_cons_succ, r_dC, r_dOp, r_dUn, r_dTst, r_tst, r_dTru, r_optB, r_trub, r_truT, r_dNotT, r_dAndT, r_dOrT, r_dNot, r_dAnd, r_dOr, r_and1, r_and0, r_or1, r_or0, r_andb, r_orb, r_iteb, r_iteb2, r_raise, ix0, ix1, r_sSetIx, fl0, fl1, fl2, fl3, fs0, fs1, fs2, fs0, r_dIf, r_aNil, r_aCons, gd_t, r_dTup, r_dLst, r_dLstM, r_dSl, r_dNoP, r_dP, r_pK, r_dCB, r_dCall, r_dCallK, r_sSeq, sq_nx, sq_rt, sq_ex, sb_ok, sb_ex, r_sNil, r_sRet, r_sExpr, r_sIf, r_sSet, r_sPar, r_sAsg, r_asg, r_sFor, fn_rt, fn_nx, fn_ex, r_dIt, it_tup, it_lst, eq_int, eq_bl, eq_str, ne_str, cmp_int, add_int, sub_int, neg_int, len_tup, len_lst, tuple_lst, list_tup, i2_int, int_int, if_t, if_f, bd_nm, bd_tp, bd_nil, bd_cons, bdk, List.set_cons_zero, List.set_cons_succ, okL0, okL1, okL2, okL3, okL4, okL5, okL6, okL7, okL8, okL9, okL10, okL11, okL12, okL13, okL14, okL15, List.length_cons, List.length_nil, Nat.reduceAdd, Nat.zero_add, Nat.reduceLeDiff, Nat.reduceEqDiff, decide_true, decide_false, Bool.not_true, Bool.not_false, Bool.and_true, Bool.true_and, eq_self, List.cons_append, List.nil_append, pickL, List.map_cons, List.map_nil, ↓reduceIte, Bool.false_eq_true]
  cases d with
  | tup l =>
    match l, h with
    | [], _ => rfl
    | [a], _ => rfl
    | [a, b], h =>
      obtain ⟨_, hp⟩ := pl_tup h
      have ha := hp a (by simp)
      have hb := hp b (by simp)
      simp -implicitDefEqProofs only [isPair, ok_whole ha, isi_tuple hb, r_dB, bind_ok, bind_ex, r_var, vk_some, List.getD_cons_zero, List.getD_cons_succ, r_dC, r_dOp, r_dUn, r_dTst, r_tst, r_dTru, r_optB, r_trub, r_truT, r_dNotT, r_dAndT, r_dOrT, r_dNot, r_dAnd, r_dOr, r_and1, r_and0, r_or1, r_or0, r_andb, r_orb, r_iteb, r_iteb2, r_raise, ix0, ix1, r_sSetIx, fl0, fl1, fl2, fl3, fs0, fs1, fs2, fs0, r_dIf, r_aNil, r_aCons, gd_t, r_dTup, r_dLst, r_dLstM, r_dSl, r_dNoP, r_dP, r_pK, r_dCB, r_dCall, r_dCallK, r_sSeq, sq_nx, sq_rt, sq_ex, sb_ok, sb_ex, r_sNil, r_sRet, r_sExpr, r_sIf, r_sSet, r_sPar, r_sAsg, r_asg, r_sFor, fn_rt, fn_nx, fn_ex, r_dIt, it_tup, it_lst, eq_int, eq_bl, eq_str, ne_str, cmp_int, add_int, sub_int, neg_int, len_tup, len_lst, tuple_lst, list_tup, i2_int, int_int, if_t, if_f, bd_nm, bd_tp, bd_nil, bd_cons, bdk, List.set_cons_zero, List.set_cons_succ, okL0, okL1, okL2, okL3, okL4, okL5, okL6, okL7, okL8, okL9, okL10, okL11, okL12, okL13, okL14, okL15, List.length_cons, List.length_nil, Nat.reduceAdd, Nat.zero_add, Nat.reduceLeDiff, Nat.reduceEqDiff, decide_true, decide_false, Bool.not_true, Bool.not_false, Bool.and_true, Bool.true_and, eq_self, List.cons_append, List.nil_append, pickL, List.map_cons, List.map_nil, ↓reduceIte, Bool.false_eq_true]
      cases e1 : isW a with
      | false => simp -implicitDefEqProofs only [bookV, bookV2, e1, r_dB, bind_ok, bind_ex, r_var, vk_some, List.getD_cons_zero, List.getD_cons_succ, r_dC, r_dOp, r_dUn, r_dTst, r_tst, r_dTru, r_optB, r_trub, r_truT, r_dNotT, r_dAndT, r_dOrT, r_dNot, r_dAnd, r_dOr, r_and1, r_and0, r_or1, r_or0, r_andb, r_orb, r_iteb, r_iteb2, r_raise, ix0, ix1, r_sSetIx, fl0, fl1, fl2, fl3, fs0, fs1, fs2, fs0, r_dIf, r_aNil, r_aCons, gd_t, r_dTup, r_dLst, r_dLstM, r_dSl, r_dNoP, r_dP, r_pK, r_dCB, r_dCall, r_dCallK, r_sSeq, sq_nx, sq_rt, sq_ex, sb_ok, sb_ex, r_sNil, r_sRet, r_sExpr, r_sIf, r_sSet, r_sPar, r_sAsg, r_asg, r_sFor, fn_rt, fn_nx, fn_ex, r_dIt, it_tup, it_lst, eq_int, eq_bl, eq_str, ne_str, cmp_int, add_int, sub_int, neg_int, len_tup, len_lst, tuple_lst, list_tup, i2_int, int_int, if_t, if_f, bd_nm, bd_tp, bd_nil, bd_cons, bdk, List.set_cons_zero, List.set_cons_succ, okL0, okL1, okL2, okL3, okL4, okL5, okL6, okL7, okL8, okL9, okL10, okL11, okL12, okL13, okL14, okL15, List.length_cons, List.length_nil, Nat.reduceAdd, Nat.zero_add, Nat.reduceLeDiff, Nat.reduceEqDiff, decide_true, decide_false, Bool.not_true, Bool.not_false, Bool.and_true, Bool.true_and, eq_self, List.cons_append, List.nil_append, pickL, List.map_cons, List.map_nil, ↓reduceIte, Bool.false_eq_true]; rfl
      | true =>
        obtain ⟨n, rfl⟩ : ∃ n, a = .int n := by cases a <;> first | exact ⟨_, rfl⟩ | (simp [isW] at e1; done)
        cases b with
        | tup ds =>
          obtain ⟨hl, hq⟩ := pl_tup hb
          have e := all_run2 (p := isDeed n) (F := F_is_deed) (c := .int n) (fe := dOp oIx (dV 0) (dC (.int 1))) (fc := dOp oIx (dV 0) (dC (.int 0))) (l := ds) (S := S) (j := 1) (ρ := [some (.tup [.int n, .tup ds]), none]) (by simp -implicitDefEqProofs only [r_dB, bind_ok, bind_ex, r_var, vk_some, List.getD_cons_zero, List.getD_cons_succ, r_dC, r_dOp, r_dUn, r_dTst, r_tst, r_dTru, r_optB, r_trub, r_truT, r_dNotT, r_dAndT, r_dOrT, r_dNot, r_dAnd, r_dOr, r_and1, r_and0, r_or1, r_or0, r_andb, r_orb, r_iteb, r_iteb2, r_raise, ix0, ix1, r_sSetIx, fl0, fl1, fl2, fl3, fs0, fs1, fs2, fs0, r_dIf, r_aNil, r_aCons, gd_t, r_dTup, r_dLst, r_dLstM, r_dSl, r_dNoP, r_dP, r_pK, r_dCB, r_dCall, r_dCallK, r_sSeq, sq_nx, sq_rt, sq_ex, sb_ok, sb_ex, r_sNil, r_sRet, r_sExpr, r_sIf, r_sSet, r_sPar, r_sAsg, r_asg, r_sFor, fn_rt, fn_nx, fn_ex, r_dIt, it_tup, it_lst, eq_int, eq_bl, eq_str, ne_str, cmp_int, add_int, sub_int, neg_int, len_tup, len_lst, tuple_lst, list_tup, i2_int, int_int, if_t, if_f, bd_nm, bd_tp, bd_nil, bd_cons, bdk, List.set_cons_zero, List.set_cons_succ, okL0, okL1, okL2, okL3, okL4, okL5, okL6, okL7, okL8, okL9, okL10, okL11, okL12, okL13, okL14, okL15, List.length_cons, List.length_nil, Nat.reduceAdd, Nat.zero_add, Nat.reduceLeDiff, Nat.reduceEqDiff, decide_true, decide_false, Bool.not_true, Bool.not_false, Bool.and_true, Bool.true_and, eq_self, List.cons_append, List.nil_append, pickL, List.map_cons, List.map_nil, ↓reduceIte, Bool.false_eq_true]) (fun d S' => by simp -implicitDefEqProofs only [r_dB, bind_ok, bind_ex, r_var, vk_some, List.getD_cons_zero, List.getD_cons_succ, r_dC, r_dOp, r_dUn, r_dTst, r_tst, r_dTru, r_optB, r_trub, r_truT, r_dNotT, r_dAndT, r_dOrT, r_dNot, r_dAnd, r_dOr, r_and1, r_and0, r_or1, r_or0, r_andb, r_orb, r_iteb, r_iteb2, r_raise, ix0, ix1, r_sSetIx, fl0, fl1, fl2, fl3, fs0, fs1, fs2, fs0, r_dIf, r_aNil, r_aCons, gd_t, r_dTup, r_dLst, r_dLstM, r_dSl, r_dNoP, r_dP, r_pK, r_dCB, r_dCall, r_dCallK, r_sSeq, sq_nx, sq_rt, sq_ex, sb_ok, sb_ex, r_sNil, r_sRet, r_sExpr, r_sIf, r_sSet, r_sPar, r_sAsg, r_asg, r_sFor, fn_rt, fn_nx, fn_ex, r_dIt, it_tup, it_lst, eq_int, eq_bl, eq_str, ne_str, cmp_int, add_int, sub_int, neg_int, len_tup, len_lst, tuple_lst, list_tup, i2_int, int_int, if_t, if_f, bd_nm, bd_tp, bd_nil, bd_cons, bdk, List.set_cons_zero, List.set_cons_succ, okL0, okL1, okL2, okL3, okL4, okL5, okL6, okL7, okL8, okL9, okL10, okL11, okL12, okL13, okL14, okL15, List.length_cons, List.length_nil, Nat.reduceAdd, Nat.zero_add, Nat.reduceLeDiff, Nat.reduceEqDiff, decide_true, decide_false, Bool.not_true, Bool.not_false, Bool.and_true, Bool.true_and, eq_self, List.cons_append, List.nil_append, pickL, List.map_cons, List.map_nil, ↓reduceIte, Bool.false_eq_true]) hS hl (Nat.lt_succ_self 1) fun d m S' h => ok_deed (hq d m) h
          simp -implicitDefEqProofs only [isTup, e, bools_all, bookV, bookV2, e1, intD, first_all n ds 0, r_dB, bind_ok, bind_ex, r_var, vk_some, List.getD_cons_zero, List.getD_cons_succ, r_dC, r_dOp, r_dUn, r_dTst, r_tst, r_dTru, r_optB, r_trub, r_truT, r_dNotT, r_dAndT, r_dOrT, r_dNot, r_dAnd, r_dOr, r_and1, r_and0, r_or1, r_or0, r_andb, r_orb, r_iteb, r_iteb2, r_raise, ix0, ix1, r_sSetIx, fl0, fl1, fl2, fl3, fs0, fs1, fs2, fs0, r_dIf, r_aNil, r_aCons, gd_t, r_dTup, r_dLst, r_dLstM, r_dSl, r_dNoP, r_dP, r_pK, r_dCB, r_dCall, r_dCallK, r_sSeq, sq_nx, sq_rt, sq_ex, sb_ok, sb_ex, r_sNil, r_sRet, r_sExpr, r_sIf, r_sSet, r_sPar, r_sAsg, r_asg, r_sFor, fn_rt, fn_nx, fn_ex, r_dIt, it_tup, it_lst, eq_int, eq_bl, eq_str, ne_str, cmp_int, add_int, sub_int, neg_int, len_tup, len_lst, tuple_lst, list_tup, i2_int, int_int, if_t, if_f, bd_nm, bd_tp, bd_nil, bd_cons, bdk, List.set_cons_zero, List.set_cons_succ, okL0, okL1, okL2, okL3, okL4, okL5, okL6, okL7, okL8, okL9, okL10, okL11, okL12, okL13, okL14, okL15, List.length_cons, List.length_nil, Nat.reduceAdd, Nat.zero_add, Nat.reduceLeDiff, Nat.reduceEqDiff, decide_true, decide_false, Bool.not_true, Bool.not_false, Bool.and_true, Bool.true_and, eq_self, List.cons_append, List.nil_append, pickL, List.map_cons, List.map_nil, ↓reduceIte, Bool.false_eq_true]
        | _ =>
          first
          | (simp [Pl] at hb; done)
          | (simp -implicitDefEqProofs only [isTup, bookV, bookV2, e1, r_dB, bind_ok, bind_ex, r_var, vk_some, List.getD_cons_zero, List.getD_cons_succ, r_dC, r_dOp, r_dUn, r_dTst, r_tst, r_dTru, r_optB, r_trub, r_truT, r_dNotT, r_dAndT, r_dOrT, r_dNot, r_dAnd, r_dOr, r_and1, r_and0, r_or1, r_or0, r_andb, r_orb, r_iteb, r_iteb2, r_raise, ix0, ix1, r_sSetIx, fl0, fl1, fl2, fl3, fs0, fs1, fs2, fs0, r_dIf, r_aNil, r_aCons, gd_t, r_dTup, r_dLst, r_dLstM, r_dSl, r_dNoP, r_dP, r_pK, r_dCB, r_dCall, r_dCallK, r_sSeq, sq_nx, sq_rt, sq_ex, sb_ok, sb_ex, r_sNil, r_sRet, r_sExpr, r_sIf, r_sSet, r_sPar, r_sAsg, r_asg, r_sFor, fn_rt, fn_nx, fn_ex, r_dIt, it_tup, it_lst, eq_int, eq_bl, eq_str, ne_str, cmp_int, add_int, sub_int, neg_int, len_tup, len_lst, tuple_lst, list_tup, i2_int, int_int, if_t, if_f, bd_nm, bd_tp, bd_nil, bd_cons, bdk, List.set_cons_zero, List.set_cons_succ, okL0, okL1, okL2, okL3, okL4, okL5, okL6, okL7, okL8, okL9, okL10, okL11, okL12, okL13, okL14, okL15, List.length_cons, List.length_nil, Nat.reduceAdd, Nat.zero_add, Nat.reduceLeDiff, Nat.reduceEqDiff, decide_true, decide_false, Bool.not_true, Bool.not_false, Bool.and_true, Bool.true_and, eq_self, List.cons_append, List.nil_append, pickL, List.map_cons, List.map_nil, ↓reduceIte, Bool.false_eq_true]; rfl)
    | a :: b :: c :: r, _ => rfl
  | _ => first | rfl | (simp [Pl] at h; done)
theorem ok_is {a b : Bool} {S : Sto} : F__law_is [.bl a, .bl b] S = .ok (.bl (decide (a = b))) S := by
  show fnRes (b__law_is [some (.bl a), some (.bl b)] S) = _
  unfold b__law_is
  simp -implicitDefEqProofs only [isi_bool (show Pl (.bl a) = true from rfl), isBl, r_dB, bind_ok, bind_ex, r_var, vk_some, List.getD_cons_zero, List.getD_cons_succ, r_dC, r_dOp, r_dUn, r_dTst, r_tst, r_dTru, r_optB, r_trub, r_truT, r_dNotT, r_dAndT, r_dOrT, r_dNot, r_dAnd, r_dOr, r_and1, r_and0, r_or1, r_or0, r_andb, r_orb, r_iteb, r_iteb2, r_raise, ix0, ix1, r_sSetIx, fl0, fl1, fl2, fl3, fs0, fs1, fs2, fs0, r_dIf, r_aNil, r_aCons, gd_t, r_dTup, r_dLst, r_dLstM, r_dSl, r_dNoP, r_dP, r_pK, r_dCB, r_dCall, r_dCallK, r_sSeq, sq_nx, sq_rt, sq_ex, sb_ok, sb_ex, r_sNil, r_sRet, r_sExpr, r_sIf, r_sSet, r_sPar, r_sAsg, r_asg, r_sFor, fn_rt, fn_nx, fn_ex, r_dIt, it_tup, it_lst, eq_int, eq_bl, eq_str, ne_str, cmp_int, add_int, sub_int, neg_int, len_tup, len_lst, tuple_lst, list_tup, i2_int, int_int, if_t, if_f, bd_nm, bd_tp, bd_nil, bd_cons, bdk, List.set_cons_zero, List.set_cons_succ, okL0, okL1, okL2, okL3, okL4, okL5, okL6, okL7, okL8, okL9, okL10, okL11, okL12, okL13, okL14, okL15, List.length_cons, List.length_nil, Nat.reduceAdd, Nat.zero_add, Nat.reduceLeDiff, Nat.reduceEqDiff, decide_true, decide_false, Bool.not_true, Bool.not_false, Bool.and_true, Bool.true_and, eq_self, List.cons_append, List.nil_append, pickL, List.map_cons, List.map_nil, ↓reduceIte, Bool.false_eq_true]
/-! ### the draws -/
def Fl (l : List D) : Prop := ∃ (a b c : Int) (ns : List Int), l = [.int a, .int b, .int c, .lst (ns.map D.int)] ∧ 0 ≤ a ∧ 0 ≤ b ∧ 0 ≤ c ∧ c < 2147483629 ∧ ns.length ≤ 63
end k00

set_option Elab.async false
set_option linter.all false
set_option maxRecDepth 100000
set_option maxHeartbeats 1000000
namespace k00
open PySem DE
theorem pls_ints (ns : List Int) : Pls (ns.map D.int) = true := pls_of fun d m => by
  obtain ⟨i, _, rfl⟩ := List.mem_map.mp m; rfl
theorem Fl.sl {l : List D} {R : Sto} (h : Fl l) (hR : SL R) : SL (l :: R) := fun ds m => by
  rcases List.mem_cons.mp m with rfl | m
  · obtain ⟨a, b, c, ns, rfl, _, _, _, _, hn⟩ := h
    show (true && (true && (true && ((decide ((ns.map D.int).length ≤ 1000) && Pls (ns.map D.int)) && true)))) = true
    rw [pls_ints, List.length_map, decide_eq_true (by omega)]; rfl
  · exact hR ds m
theorem pow18 {S : Sto} : oPow (.int 10) (.int 18) S = .ok (.int (10 ^ 18)) S := pow_int (i := 10) (k := 18) (by decide) (by decide)
theorem pow60 {S : Sto} : oPow (.int 10) (.int 60) S = .ok (.int (10 ^ 60)) S := pow_int (i := 10) (k := 60) (by decide) (by decide)
theorem pow59 {S : Sto} : oPow (.int 10) (.int 59) S = .ok (.int (10 ^ 59)) S := pow_int (i := 10) (k := 59) (by decide) (by decide)
theorem pow50 {S : Sto} : oPow (.int 10) (.int 50) S = .ok (.int (10 ^ 50)) S := pow_int (i := 10) (k := 50) (by decide) (by decide)
theorem draw_ok {l : List D} (h : Fl l) {m : Int} (h1 : 1 ≤ m) (h2 : m ≤ 2000000) (R : Sto) : ∃ r l', F__law_draw [.ref 0, .int m] (l :: R) = .ok (.int r) (l' :: R) ∧ Fl l' ∧ 0 ≤ r ∧ r < m := by
  obtain ⟨a, b, c, ns, rfl, ha, hb, hc, hc2, hn⟩ := h
  have B : ∀ (x : Option D) (a b c : Int), 0 ≤ a → 0 ≤ b → 0 ≤ c → c < 2147483629 → ∃ r l', fnRes ((sSeq (sIf (dTst (dOp (oCmp fun i j => decide (j < i)) (dOp oIx (dV 0) (dC (.int 0))) (dC (.int 0)))) (sSeq (sSet 3 (dOp oMod (dCB oInt (aCons (dOp oIx (dV 0) (dC (.int 0))) aNil)) (dV 1)))
  (sSeq (sSetIx (dV 0) (dC (.int 0)) (dOp oDiv (dOp oIx (dV 0) (dC (.int 0))) (dV 1)))
  (sRet (dV 3)))) sNil)
  (sSeq (sSetIx (dV 0) (dC (.int 2)) (dOp oMod (dCB oInt (aCons (dOp oAdd (dOp oMul (dOp oIx (dV 0) (dC (.int 2))) (dC (.int 48271))) (dC (.int 12347))) aNil)) (dC (.int 2147483629))))
  (sRet (dOp oMod (dCB oInt (aCons (dOp oAdd (dOp oDiv (dOp oIx (dV 0) (dC (.int 2))) (dC (.int 8))) (dOp oMul (dOp oDiv (dOp oIx (dV 0) (dC (.int 2))) (dC (.int 65536))) (dC (.int 131)))) aNil)) (dV 1))))) [some (.ref 0), some (.int m), x, none] ([.int a, .int b, .int c, .lst (ns.map D.int)] :: R)) = .ok (.int r) (l' :: R) ∧ Fl l' ∧ 0 ≤ r ∧ r < m := by
    intro x a b c ha hb hc hc2
    simp -implicitDefEqProofs only [r_dB, bind_ok, bind_ex, r_var, vk_some, List.getD_cons_zero, List.getD_cons_succ, r_dC, r_dOp, r_dUn, r_dTst, r_tst, r_dTru, r_optB, r_trub, r_truT, r_dNotT, r_dAndT, r_dOrT, r_dNot, r_dAnd, r_dOr, r_and1, r_and0, r_or1, r_or0, r_andb, r_orb, r_iteb, r_iteb2, r_raise, ix0, ix1, r_sSetIx, fl0, fl1, fl2, fl3, fs0, fs1, fs2, fs0, r_dIf, r_aNil, r_aCons, gd_t, r_dTup, r_dLst, r_dLstM, r_dSl, r_dNoP, r_dP, r_pK, r_dCB, r_dCall, r_dCallK, r_sSeq, sq_nx, sq_rt, sq_ex, sb_ok, sb_ex, r_sNil, r_sRet, r_sExpr, r_sIf, r_sSet, r_sPar, r_sAsg, r_asg, r_sFor, fn_rt, fn_nx, fn_ex, r_dIt, it_tup, it_lst, eq_int, eq_bl, eq_str, ne_str, cmp_int, add_int, sub_int, neg_int, len_tup, len_lst, tuple_lst, list_tup, i2_int, int_int, if_t, if_f, bd_nm, bd_tp, bd_nil, bd_cons, bdk, List.set_cons_zero, List.set_cons_succ, okL0, okL1, okL2, okL3, okL4, okL5, okL6, okL7, okL8, okL9, okL10, okL11, okL12, okL13, okL14, okL15, List.length_cons, List.length_nil, Nat.reduceAdd, Nat.zero_add, Nat.reduceLeDiff, Nat.reduceEqDiff, decide_true, decide_false, Bool.not_true, Bool.not_false, Bool.and_true, Bool.true_and, eq_self, List.cons_append, List.nil_append, pickL, List.map_cons, List.map_nil, ↓reduceIte, Bool.false_eq_true]
    cases e : decide (0 < a) with
    | true =>
      have hm : 0 < m := by omega
      simp -implicitDefEqProofs only [mod_int hm, div_int (i := a) (j := m) hm (by omega), r_dB, bind_ok, bind_ex, r_var, vk_some, List.getD_cons_zero, List.getD_cons_succ, r_dC, r_dOp, r_dUn, r_dTst, r_tst, r_dTru, r_optB, r_trub, r_truT, r_dNotT, r_dAndT, r_dOrT, r_dNot, r_dAnd, r_dOr, r_and1, r_and0, r_or1, r_or0, r_andb, r_orb, r_iteb, r_iteb2, r_raise, ix0, ix1, r_sSetIx, fl0, fl1, fl2, fl3, fs0, fs1, fs2, fs0, r_dIf, r_aNil, r_aCons, gd_t, r_dTup, r_dLst, r_dLstM, r_dSl, r_dNoP, r_dP, r_pK, r_dCB, r_dCall, r_dCallK, r_sSeq, sq_nx, sq_rt, sq_ex, sb_ok, sb_ex, r_sNil, r_sRet, r_sExpr, r_sIf, r_sSet, r_sPar, r_sAsg, r_asg, r_sFor, fn_rt, fn_nx, fn_ex, r_dIt, it_tup, it_lst, eq_int, eq_bl, eq_str, ne_str, cmp_int, add_int, sub_int, neg_int, len_tup, len_lst, tuple_lst, list_tup, i2_int, int_int, if_t, if_f, bd_nm, bd_tp, bd_nil, bd_cons, bdk, List.set_cons_zero, List.set_cons_succ, okL0, okL1, okL2, okL3, okL4, okL5, okL6, okL7, okL8, okL9, okL10, okL11, okL12, okL13, okL14, okL15, List.length_cons, List.length_nil, Nat.reduceAdd, Nat.zero_add, Nat.reduceLeDiff, Nat.reduceEqDiff, decide_true, decide_false, Bool.not_true, Bool.not_false, Bool.and_true, Bool.true_and, eq_self, List.cons_append, List.nil_append, pickL, List.map_cons, List.map_nil, ↓reduceIte, Bool.false_eq_true]
      exact ⟨_, _, rfl, ⟨_, _, _, _, rfl, Int.ediv_nonneg ha (by omega), hb, hc, hc2, hn⟩, Int.emod_nonneg _ (by omega), Int.emod_lt_of_pos _ hm⟩
    | false =>
      have hm : 0 < m := by omega
      simp -implicitDefEqProofs only [mul_small (j := 48271) (by decide), mod_int (j := 2147483629) (by decide), div_int (j := 8) (by decide) (by decide), div_int (j := 65536) (by decide) (by decide), mul_small (j := 131) (by decide), mod_int hm, r_dB, bind_ok, bind_ex, r_var, vk_some, List.getD_cons_zero, List.getD_cons_succ, r_dC, r_dOp, r_dUn, r_dTst, r_tst, r_dTru, r_optB, r_trub, r_truT, r_dNotT, r_dAndT, r_dOrT, r_dNot, r_dAnd, r_dOr, r_and1, r_and0, r_or1, r_or0, r_andb, r_orb, r_iteb, r_iteb2, r_raise, ix0, ix1, r_sSetIx, fl0, fl1, fl2, fl3, fs0, fs1, fs2, fs0, r_dIf, r_aNil, r_aCons, gd_t, r_dTup, r_dLst, r_dLstM, r_dSl, r_dNoP, r_dP, r_pK, r_dCB, r_dCall, r_dCallK, r_sSeq, sq_nx, sq_rt, sq_ex, sb_ok, sb_ex, r_sNil, r_sRet, r_sExpr, r_sIf, r_sSet, r_sPar, r_sAsg, r_asg, r_sFor, fn_rt, fn_nx, fn_ex, r_dIt, it_tup, it_lst, eq_int, eq_bl, eq_str, ne_str, cmp_int, add_int, sub_int, neg_int, len_tup, len_lst, tuple_lst, list_tup, i2_int, int_int, if_t, if_f, bd_nm, bd_tp, bd_nil, bd_cons, bdk, List.set_cons_zero, List.set_cons_succ, okL0, okL1, okL2, okL3, okL4, okL5, okL6, okL7, okL8, okL9, okL10, okL11, okL12, okL13, okL14, okL15, List.length_cons, List.length_nil, Nat.reduceAdd, Nat.zero_add, Nat.reduceLeDiff, Nat.reduceEqDiff, decide_true, decide_false, Bool.not_true, Bool.not_false, Bool.and_true, Bool.true_and, eq_self, List.cons_append, List.nil_append, pickL, List.map_cons, List.map_nil, ↓reduceIte, Bool.false_eq_true]
      exact ⟨_, _, rfl, ⟨_, _, _, _, rfl, ha, hb, Int.emod_nonneg _ (by decide), Int.emod_lt_of_pos _ (by decide), hn⟩, Int.emod_nonneg _ (by omega), Int.emod_lt_of_pos _ hm⟩
  show ∃ r l', fnRes (b__law_draw [some (.ref 0), some (.int m), none, none] _) = _ ∧ _
  unfold b__law_draw
  rw [r_sSeq, r_sIf, r_dAndT]
  simp -implicitDefEqProofs only [r_dB, bind_ok, bind_ex, r_var, vk_some, List.getD_cons_zero, List.getD_cons_succ, r_dC, r_dOp, r_dUn, r_dTst, r_tst, r_dTru, r_optB, r_trub, r_truT, r_dNotT, r_dAndT, r_dOrT, r_dNot, r_dAnd, r_dOr, r_and1, r_and0, r_or1, r_or0, r_andb, r_orb, r_iteb, r_iteb2, r_raise, ix0, ix1, r_sSetIx, fl0, fl1, fl2, fl3, fs0, fs1, fs2, fs0, r_dIf, r_aNil, r_aCons, gd_t, r_dTup, r_dLst, r_dLstM, r_dSl, r_dNoP, r_dP, r_pK, r_dCB, r_dCall, r_dCallK, r_sSeq, sq_nx, sq_rt, sq_ex, sb_ok, sb_ex, r_sNil, r_sRet, r_sExpr, r_sIf, r_sSet, r_sPar, r_sAsg, r_asg, r_sFor, fn_rt, fn_nx, fn_ex, r_dIt, it_tup, it_lst, eq_int, eq_bl, eq_str, ne_str, cmp_int, add_int, sub_int, neg_int, len_tup, len_lst, tuple_lst, list_tup, i2_int, int_int, if_t, if_f, bd_nm, bd_tp, bd_nil, bd_cons, bdk, List.set_cons_zero, List.set_cons_succ, okL0, okL1, okL2, okL3, okL4, okL5, okL6, okL7, okL8, okL9, okL10, okL11, okL12, okL13, okL14, okL15, List.length_cons, List.length_nil, Nat.reduceAdd, Nat.zero_add, Nat.reduceLeDiff, Nat.reduceEqDiff, decide_true, decide_false, Bool.not_true, Bool.not_false, Bool.and_true, Bool.true_and, eq_self, List.cons_append, List.nil_append, pickL, List.map_cons, List.map_nil, ↓reduceIte, Bool.false_eq_true]
  cases e : decide (a = 0) && decide (b < (List.map D.int ns).length) with
  | false => simp -implicitDefEqProofs only [r_dB, bind_ok, bind_ex, r_var, vk_some, List.getD_cons_zero, List.getD_cons_succ, r_dC, r_dOp, r_dUn, r_dTst, r_tst, r_dTru, r_optB, r_trub, r_truT, r_dNotT, r_dAndT, r_dOrT, r_dNot, r_dAnd, r_dOr, r_and1, r_and0, r_or1, r_or0, r_andb, r_orb, r_iteb, r_iteb2, r_raise, ix0, ix1, r_sSetIx, fl0, fl1, fl2, fl3, fs0, fs1, fs2, fs0, r_dIf, r_aNil, r_aCons, gd_t, r_dTup, r_dLst, r_dLstM, r_dSl, r_dNoP, r_dP, r_pK, r_dCB, r_dCall, r_dCallK, r_sSeq, sq_nx, sq_rt, sq_ex, sb_ok, sb_ex, r_sNil, r_sRet, r_sExpr, r_sIf, r_sSet, r_sPar, r_sAsg, r_asg, r_sFor, fn_rt, fn_nx, fn_ex, r_dIt, it_tup, it_lst, eq_int, eq_bl, eq_str, ne_str, cmp_int, add_int, sub_int, neg_int, len_tup, len_lst, tuple_lst, list_tup, i2_int, int_int, if_t, if_f, bd_nm, bd_tp, bd_nil, bd_cons, bdk, List.set_cons_zero, List.set_cons_succ, okL0, okL1, okL2, okL3, okL4, okL5, okL6, okL7, okL8, okL9, okL10, okL11, okL12, okL13, okL14, okL15, List.length_cons, List.length_nil, Nat.reduceAdd, Nat.zero_add, Nat.reduceLeDiff, Nat.reduceEqDiff, decide_true, decide_false, Bool.not_true, Bool.not_false, Bool.and_true, Bool.true_and, eq_self, List.cons_append, List.nil_append, pickL, List.map_cons, List.map_nil, ↓reduceIte, Bool.false_eq_true]; exact B none a b c ha hb hc hc2
  | true =>
    simp only [Bool.and_eq_true, decide_eq_true_eq, List.length_map] at e
    obtain ⟨rfl, hbl⟩ := e
    obtain ⟨i, rfl⟩ := Int.eq_ofNat_of_zero_le hb
    have hi : i < ns.length := by omega
    have ei : (ns.map D.int)[i]? = some (.int ns[i]) := by rw [List.getElem?_map, List.getElem?_eq_getElem hi]; rfl
    simp -implicitDefEqProofs only [ix_lst ei, mul_small (j := 7919) (by decide), mod_int (j := 2147483629) (by decide), pow18, pow60, mod_int (j := 10 ^ 60) (by decide), r_dB, bind_ok, bind_ex, r_var, vk_some, List.getD_cons_zero, List.getD_cons_succ, r_dC, r_dOp, r_dUn, r_dTst, r_tst, r_dTru, r_optB, r_trub, r_truT, r_dNotT, r_dAndT, r_dOrT, r_dNot, r_dAnd, r_dOr, r_and1, r_and0, r_or1, r_or0, r_andb, r_orb, r_iteb, r_iteb2, r_raise, ix0, ix1, r_sSetIx, fl0, fl1, fl2, fl3, fs0, fs1, fs2, fs0, r_dIf, r_aNil, r_aCons, gd_t, r_dTup, r_dLst, r_dLstM, r_dSl, r_dNoP, r_dP, r_pK, r_dCB, r_dCall, r_dCallK, r_sSeq, sq_nx, sq_rt, sq_ex, sb_ok, sb_ex, r_sNil, r_sRet, r_sExpr, r_sIf, r_sSet, r_sPar, r_sAsg, r_asg, r_sFor, fn_rt, fn_nx, fn_ex, r_dIt, it_tup, it_lst, eq_int, eq_bl, eq_str, ne_str, cmp_int, add_int, sub_int, neg_int, len_tup, len_lst, tuple_lst, list_tup, i2_int, int_int, if_t, if_f, bd_nm, bd_tp, bd_nil, bd_cons, bdk, List.set_cons_zero, List.set_cons_succ, okL0, okL1, okL2, okL3, okL4, okL5, okL6, okL7, okL8, okL9, okL10, okL11, okL12, okL13, okL14, okL15, List.length_cons, List.length_nil, Nat.reduceAdd, Nat.zero_add, Nat.reduceLeDiff, Nat.reduceEqDiff, decide_true, decide_false, Bool.not_true, Bool.not_false, Bool.and_true, Bool.true_and, eq_self, List.cons_append, List.nil_append, pickL, List.map_cons, List.map_nil, ↓reduceIte, Bool.false_eq_true]
    cases e2 : decide (10 ^ 18 ≤ ns[i]) with
    | true => simp -implicitDefEqProofs only [r_dB, bind_ok, bind_ex, r_var, vk_some, List.getD_cons_zero, List.getD_cons_succ, r_dC, r_dOp, r_dUn, r_dTst, r_tst, r_dTru, r_optB, r_trub, r_truT, r_dNotT, r_dAndT, r_dOrT, r_dNot, r_dAnd, r_dOr, r_and1, r_and0, r_or1, r_or0, r_andb, r_orb, r_iteb, r_iteb2, r_raise, ix0, ix1, r_sSetIx, fl0, fl1, fl2, fl3, fs0, fs1, fs2, fs0, r_dIf, r_aNil, r_aCons, gd_t, r_dTup, r_dLst, r_dLstM, r_dSl, r_dNoP, r_dP, r_pK, r_dCB, r_dCall, r_dCallK, r_sSeq, sq_nx, sq_rt, sq_ex, sb_ok, sb_ex, r_sNil, r_sRet, r_sExpr, r_sIf, r_sSet, r_sPar, r_sAsg, r_asg, r_sFor, fn_rt, fn_nx, fn_ex, r_dIt, it_tup, it_lst, eq_int, eq_bl, eq_str, ne_str, cmp_int, add_int, sub_int, neg_int, len_tup, len_lst, tuple_lst, list_tup, i2_int, int_int, if_t, if_f, bd_nm, bd_tp, bd_nil, bd_cons, bdk, List.set_cons_zero, List.set_cons_succ, okL0, okL1, okL2, okL3, okL4, okL5, okL6, okL7, okL8, okL9, okL10, okL11, okL12, okL13, okL14, okL15, List.length_cons, List.length_nil, Nat.reduceAdd, Nat.zero_add, Nat.reduceLeDiff, Nat.reduceEqDiff, decide_true, decide_false, Bool.not_true, Bool.not_false, Bool.and_true, Bool.true_and, eq_self, List.cons_append, List.nil_append, pickL, List.map_cons, List.map_nil, ↓reduceIte, Bool.false_eq_true]; exact B _ _ _ _ (Int.emod_nonneg _ (by decide)) (by omega) (Int.emod_nonneg _ (by decide)) (Int.emod_lt_of_pos _ (by decide))
    | false => simp -implicitDefEqProofs only [r_dB, bind_ok, bind_ex, r_var, vk_some, List.getD_cons_zero, List.getD_cons_succ, r_dC, r_dOp, r_dUn, r_dTst, r_tst, r_dTru, r_optB, r_trub, r_truT, r_dNotT, r_dAndT, r_dOrT, r_dNot, r_dAnd, r_dOr, r_and1, r_and0, r_or1, r_or0, r_andb, r_orb, r_iteb, r_iteb2, r_raise, ix0, ix1, r_sSetIx, fl0, fl1, fl2, fl3, fs0, fs1, fs2, fs0, r_dIf, r_aNil, r_aCons, gd_t, r_dTup, r_dLst, r_dLstM, r_dSl, r_dNoP, r_dP, r_pK, r_dCB, r_dCall, r_dCallK, r_sSeq, sq_nx, sq_rt, sq_ex, sb_ok, sb_ex, r_sNil, r_sRet, r_sExpr, r_sIf, r_sSet, r_sPar, r_sAsg, r_asg, r_sFor, fn_rt, fn_nx, fn_ex, r_dIt, it_tup, it_lst, eq_int, eq_bl, eq_str, ne_str, cmp_int, add_int, sub_int, neg_int, len_tup, len_lst, tuple_lst, list_tup, i2_int, int_int, if_t, if_f, bd_nm, bd_tp, bd_nil, bd_cons, bdk, List.set_cons_zero, List.set_cons_succ, okL0, okL1, okL2, okL3, okL4, okL5, okL6, okL7, okL8, okL9, okL10, okL11, okL12, okL13, okL14, okL15, List.length_cons, List.length_nil, Nat.reduceAdd, Nat.zero_add, Nat.reduceLeDiff, Nat.reduceEqDiff, decide_true, decide_false, Bool.not_true, Bool.not_false, Bool.and_true, Bool.true_and, eq_self, List.cons_append, List.nil_append, pickL, List.map_cons, List.map_nil, ↓reduceIte, Bool.false_eq_true]; exact B _ 0 ((i : Int) + 1) _ (by decide) (by omega) (Int.emod_nonneg _ (by decide)) (Int.emod_lt_of_pos _ (by decide))
end k00

set_option Elab.async false
set_option linter.all false
set_option maxRecDepth 100000
set_option maxHeartbeats 1000000
namespace k00
open PySem DE
theorem number_ok {l : List D} (h : Fl l) (R : Sto) : ∃ r l', F__law_number [.ref 0] (l :: R) = .ok (.int r) (l' :: R) ∧ Fl l' ∧ 0 ≤ r ∧ r < 1000001 := by
  obtain ⟨r, l1, e, h1, _, _⟩ := draw_ok h (m := 8) (by decide) (by decide) R
  show ∃ r l', fnRes (b__law_number [some (.ref 0)] (l :: R)) = _ ∧ _
  unfold b__law_number
  simp -implicitDefEqProofs only [e, r_dB, bind_ok, bind_ex, r_var, vk_some, List.getD_cons_zero, List.getD_cons_succ, r_dC, r_dOp, r_dUn, r_dTst, r_tst, r_dTru, r_optB, r_trub, r_truT, r_dNotT, r_dAndT, r_dOrT, r_dNot, r_dAnd, r_dOr, r_and1, r_and0, r_or1, r_or0, r_andb, r_orb, r_iteb, r_iteb2, r_raise, ix0, ix1, r_sSetIx, fl0, fl1, fl2, fl3, fs0, fs1, fs2, fs0, r_dIf, r_aNil, r_aCons, gd_t, r_dTup, r_dLst, r_dLstM, r_dSl, r_dNoP, r_dP, r_pK, r_dCB, r_dCall, r_dCallK, r_sSeq, sq_nx, sq_rt, sq_ex, sb_ok, sb_ex, r_sNil, r_sRet, r_sExpr, r_sIf, r_sSet, r_sPar, r_sAsg, r_asg, r_sFor, fn_rt, fn_nx, fn_ex, r_dIt, it_tup, it_lst, eq_int, eq_bl, eq_str, ne_str, cmp_int, add_int, sub_int, neg_int, len_tup, len_lst, tuple_lst, list_tup, i2_int, int_int, if_t, if_f, bd_nm, bd_tp, bd_nil, bd_cons, bdk, List.set_cons_zero, List.set_cons_succ, okL0, okL1, okL2, okL3, okL4, okL5, okL6, okL7, okL8, okL9, okL10, okL11, okL12, okL13, okL14, okL15, List.length_cons, List.length_nil, Nat.reduceAdd, Nat.zero_add, Nat.reduceLeDiff, Nat.reduceEqDiff, decide_true, decide_false, Bool.not_true, Bool.not_false, Bool.and_true, Bool.true_and, eq_self, List.cons_append, List.nil_append, pickL, List.map_cons, List.map_nil, ↓reduceIte, Bool.false_eq_true]
  cases decide (r = 7) with
  | true =>
    obtain ⟨r2, l2, e2, h2, h3, h4⟩ := draw_ok h1 (m := 1000001) (by decide) (by decide) R
    simp -implicitDefEqProofs only [e2, r_dB, bind_ok, bind_ex, r_var, vk_some, List.getD_cons_zero, List.getD_cons_succ, r_dC, r_dOp, r_dUn, r_dTst, r_tst, r_dTru, r_optB, r_trub, r_truT, r_dNotT, r_dAndT, r_dOrT, r_dNot, r_dAnd, r_dOr, r_and1, r_and0, r_or1, r_or0, r_andb, r_orb, r_iteb, r_iteb2, r_raise, ix0, ix1, r_sSetIx, fl0, fl1, fl2, fl3, fs0, fs1, fs2, fs0, r_dIf, r_aNil, r_aCons, gd_t, r_dTup, r_dLst, r_dLstM, r_dSl, r_dNoP, r_dP, r_pK, r_dCB, r_dCall, r_dCallK, r_sSeq, sq_nx, sq_rt, sq_ex, sb_ok, sb_ex, r_sNil, r_sRet, r_sExpr, r_sIf, r_sSet, r_sPar, r_sAsg, r_asg, r_sFor, fn_rt, fn_nx, fn_ex, r_dIt, it_tup, it_lst, eq_int, eq_bl, eq_str, ne_str, cmp_int, add_int, sub_int, neg_int, len_tup, len_lst, tuple_lst, list_tup, i2_int, int_int, if_t, if_f, bd_nm, bd_tp, bd_nil, bd_cons, bdk, List.set_cons_zero, List.set_cons_succ, okL0, okL1, okL2, okL3, okL4, okL5, okL6, okL7, okL8, okL9, okL10, okL11, okL12, okL13, okL14, okL15, List.length_cons, List.length_nil, Nat.reduceAdd, Nat.zero_add, Nat.reduceLeDiff, Nat.reduceEqDiff, decide_true, decide_false, Bool.not_true, Bool.not_false, Bool.and_true, Bool.true_and, eq_self, List.cons_append, List.nil_append, pickL, List.map_cons, List.map_nil, ↓reduceIte, Bool.false_eq_true]
    exact ⟨r2, l2, rfl, h2, h3, by omega⟩
  | false =>
    obtain ⟨r2, l2, e2, h2, h3, h4⟩ := draw_ok h1 (m := 7) (by decide) (by decide) R
    simp -implicitDefEqProofs only [e2, r_dB, bind_ok, bind_ex, r_var, vk_some, List.getD_cons_zero, List.getD_cons_succ, r_dC, r_dOp, r_dUn, r_dTst, r_tst, r_dTru, r_optB, r_trub, r_truT, r_dNotT, r_dAndT, r_dOrT, r_dNot, r_dAnd, r_dOr, r_and1, r_and0, r_or1, r_or0, r_andb, r_orb, r_iteb, r_iteb2, r_raise, ix0, ix1, r_sSetIx, fl0, fl1, fl2, fl3, fs0, fs1, fs2, fs0, r_dIf, r_aNil, r_aCons, gd_t, r_dTup, r_dLst, r_dLstM, r_dSl, r_dNoP, r_dP, r_pK, r_dCB, r_dCall, r_dCallK, r_sSeq, sq_nx, sq_rt, sq_ex, sb_ok, sb_ex, r_sNil, r_sRet, r_sExpr, r_sIf, r_sSet, r_sPar, r_sAsg, r_asg, r_sFor, fn_rt, fn_nx, fn_ex, r_dIt, it_tup, it_lst, eq_int, eq_bl, eq_str, ne_str, cmp_int, add_int, sub_int, neg_int, len_tup, len_lst, tuple_lst, list_tup, i2_int, int_int, if_t, if_f, bd_nm, bd_tp, bd_nil, bd_cons, bdk, List.set_cons_zero, List.set_cons_succ, okL0, okL1, okL2, okL3, okL4, okL5, okL6, okL7, okL8, okL9, okL10, okL11, okL12, okL13, okL14, okL15, List.length_cons, List.length_nil, Nat.reduceAdd, Nat.zero_add, Nat.reduceLeDiff, Nat.reduceEqDiff, decide_true, decide_false, Bool.not_true, Bool.not_false, Bool.and_true, Bool.true_and, eq_self, List.cons_append, List.nil_append, pickL, List.map_cons, List.map_nil, ↓reduceIte, Bool.false_eq_true]
    exact ⟨r2, l2, rfl, h2, h3, by omega⟩
/-- a number that is drawn for a paper -/
def GN (d : D) : Prop := ∃ i : Int, d = .int i ∧ 0 ≤ i ∧ i < 10 ^ 60
theorem GN.pl {d : D} (h : GN d) : Pl d = true := by obtain ⟨i, rfl, _⟩ := h; rfl
theorem GN.isN {d : D} (h : GN d) : isN d = true := by obtain ⟨i, rfl, h1, _⟩ := h; exact decide_eq_true h1
theorem gn_pls {l : List D} (h : ∀ d ∈ l, GN d) : Pls l = true := pls_of fun d m => (h d m).pl
theorem snoc_get {A : Sto} {x : List D} {l : List D} : (l :: (A ++ [x]))[A.length + 1]? = some x := by simp
theorem snoc_set {A : Sto} {x y : List D} {l : List D} : (l :: (A ++ [x])).set (A.length + 1) y = l :: (A ++ [y]) := by simp
noncomputable def numB : Dn := (sIf (dTst (dOp oEq (dCall 2 F__law_draw (aCons (dV 0) (aCons (dC (.int 16)) aNil))) (dC (.int 15)))) (sExpr (dApp (dV 2) (dOp oIx (dLst (aCons (dC (.int 1000001)) (aCons (dOp oPow (dC (.int 10)) (dC (.int 50))) (aCons (dOp oPow (dC (.int 10)) (dC (.int 59))) aNil)))) (dCall 2 F__law_draw (aCons (dV 0) (aCons (dC (.int 3)) aNil)))))) (sExpr (dApp (dV 2) (dCall 1 F__law_number (aCons (dV 0) aNil)))))
theorem numbers_step {n i : Nat} {R : Sto} {l1 vs : List D} {d : D} (h1 : Fl l1) (h2 : vs.length = i) (h3 : ∀ d ∈ vs, GN d) (hi : i < n) (hn : n ≤ 1000) :
    ∃ ρ' S', numB [some (.ref 0), some (.int (n : Int)), some (.ref (R.length + 1)), some d] (l1 :: (R ++ [vs])) = .nx ρ' S' ∧ ∃ l' vs x, ρ' = [some (.ref 0), some (.int (n : Int)), some (.ref (R.length + 1)), x] ∧ S' = l' :: (R ++ [vs]) ∧ Fl l' ∧ vs.length = i + 1 ∧ ∀ d ∈ vs, GN d := by
  unfold numB
  obtain ⟨r, l2, e, h4, _, _⟩ := draw_ok h1 (m := 16) (by decide) (by decide) (R ++ [vs])
  simp -implicitDefEqProofs only [e, r_dB, bind_ok, bind_ex, r_var, vk_some, List.getD_cons_zero, List.getD_cons_succ, r_dC, r_dOp, r_dUn, r_dTst, r_tst, r_dTru, r_optB, r_trub, r_truT, r_dNotT, r_dAndT, r_dOrT, r_dNot, r_dAnd, r_dOr, r_and1, r_and0, r_or1, r_or0, r_andb, r_orb, r_iteb, r_iteb2, r_raise, ix0, ix1, r_sSetIx, fl0, fl1, fl2, fl3, fs0, fs1, fs2, fs0, r_dIf, r_aNil, r_aCons, gd_t, r_dTup, r_dLst, r_dLstM, r_dSl, r_dNoP, r_dP, r_pK, r_dCB, r_dCall, r_dCallK, r_sSeq, sq_nx, sq_rt, sq_ex, sb_ok, sb_ex, r_sNil, r_sRet, r_sExpr, r_sIf, r_sSet, r_sPar, r_sAsg, r_asg, r_sFor, fn_rt, fn_nx, fn_ex, r_dIt, it_tup, it_lst, eq_int, eq_bl, eq_str, ne_str, cmp_int, add_int, sub_int, neg_int, len_tup, len_lst, tuple_lst, list_tup, i2_int, int_int, if_t, if_f, bd_nm, bd_tp, bd_nil, bd_cons, bdk, List.set_cons_zero, List.set_cons_succ, okL0, okL1, okL2, okL3, okL4, okL5, okL6, okL7, okL8, okL9, okL10, okL11, okL12, okL13, okL14, okL15, List.length_cons, List.length_nil, Nat.reduceAdd, Nat.zero_add, Nat.reduceLeDiff, Nat.reduceEqDiff, decide_true, decide_false, Bool.not_true, Bool.not_false, Bool.and_true, Bool.true_and, eq_self, List.cons_append, List.nil_append, pickL, List.map_cons, List.map_nil, ↓reduceIte, Bool.false_eq_true]
  have fin : ∀ (l3 : List D) (v : D) (g : Rho → Sto → Res D), g [some (.ref 0), some (.int (n : Int)), some (.ref (R.length + 1)), some d] (l2 :: (R ++ [vs])) = .ok v (l3 :: (R ++ [vs])) → Fl l3 → GN v → ∃ ρ' S', sBind (dApp (dV 2) g [some (.ref 0), some (.int (n : Int)), some (.ref (R.length + 1)), some d] (l2 :: (R ++ [vs]))) [some (.ref 0), some (.int (n : Int)), some (.ref (R.length + 1)), some d] (fun _ S' => .nx [some (.ref 0), some (.int (n : Int)), some (.ref (R.length + 1)), some d] S') = .nx ρ' S' ∧
      ∃ l' vs x, ρ' = [some (.ref 0), some (.int (n : Int)), some (.ref (R.length + 1)), x] ∧ S' = l' :: (R ++ [vs]) ∧ Fl l' ∧ vs.length = i + 1 ∧ ∀ d ∈ vs, GN d := by
    intro l3 v g e3 h5 h6
    rw [r_dApp]
    simp -implicitDefEqProofs only [r_dB, bind_ok, bind_ex, r_var, vk_some, List.getD_cons_zero, List.getD_cons_succ, r_dC, r_dOp, r_dUn, r_dTst, r_tst, r_dTru, r_optB, r_trub, r_truT, r_dNotT, r_dAndT, r_dOrT, r_dNot, r_dAnd, r_dOr, r_and1, r_and0, r_or1, r_or0, r_andb, r_orb, r_iteb, r_iteb2, r_raise, ix0, ix1, r_sSetIx, fl0, fl1, fl2, fl3, fs0, fs1, fs2, fs0, r_dIf, r_aNil, r_aCons, gd_t, r_dTup, r_dLst, r_dLstM, r_dSl, r_dNoP, r_dP, r_pK, r_dCB, r_dCall, r_dCallK, r_sSeq, sq_nx, sq_rt, sq_ex, sb_ok, sb_ex, r_sNil, r_sRet, r_sExpr, r_sIf, r_sSet, r_sPar, r_sAsg, r_asg, r_sFor, fn_rt, fn_nx, fn_ex, r_dIt, it_tup, it_lst, eq_int, eq_bl, eq_str, ne_str, cmp_int, add_int, sub_int, neg_int, len_tup, len_lst, tuple_lst, list_tup, i2_int, int_int, if_t, if_f, bd_nm, bd_tp, bd_nil, bd_cons, bdk, List.set_cons_zero, List.set_cons_succ, okL0, okL1, okL2, okL3, okL4, okL5, okL6, okL7, okL8, okL9, okL10, okL11, okL12, okL13, okL14, okL15, List.length_cons, List.length_nil, Nat.reduceAdd, Nat.zero_add, Nat.reduceLeDiff, Nat.reduceEqDiff, decide_true, decide_false, Bool.not_true, Bool.not_false, Bool.and_true, Bool.true_and, eq_self, List.cons_append, List.nil_append, pickL, List.map_cons, List.map_nil, ↓reduceIte, Bool.false_eq_true]
    rw [app_ok e3 (by simp) snoc_get (by omega), snoc_set]
    exact ⟨_, _, rfl, l3, vs ++ [v], some d, rfl, rfl, h5, by rw [List.length_append, h2]; simp, fun w hw => by
      rcases List.mem_append.mp hw with hw | hw
      · exact h3 w hw
      · rw [List.mem_singleton.mp hw]; exact h6⟩
  cases decide (r = 15) with
  | true =>
    rw [if_t]
    obtain ⟨r2, l3, e2, h5, h6, h7⟩ := draw_ok h4 (m := 3) (by decide) (by decide) (R ++ [vs])
    obtain ⟨k, rfl⟩ := Int.eq_ofNat_of_zero_le h6
    have hk : k < 3 := by omega
    have g3 : ∃ v, [D.int 1000001, .int (10 ^ 50), .int (10 ^ 59)][k]? = some v ∧ GN v := by
      match k, hk with
      | 0, _ => exact ⟨_, rfl, _, rfl, by decide, by decide⟩
      | 1, _ => exact ⟨_, rfl, _, rfl, by decide, by decide⟩
      | 2, _ => exact ⟨_, rfl, _, rfl, by decide, by decide⟩
    obtain ⟨v, g4, g5⟩ := g3
    refine fin l3 v _ ?_ h5 g5
    simp -implicitDefEqProofs only [pow50, pow59, e2, ix_lst g4, r_dB, bind_ok, bind_ex, r_var, vk_some, List.getD_cons_zero, List.getD_cons_succ, r_dC, r_dOp, r_dUn, r_dTst, r_tst, r_dTru, r_optB, r_trub, r_truT, r_dNotT, r_dAndT, r_dOrT, r_dNot, r_dAnd, r_dOr, r_and1, r_and0, r_or1, r_or0, r_andb, r_orb, r_iteb, r_iteb2, r_raise, ix0, ix1, r_sSetIx, fl0, fl1, fl2, fl3, fs0, fs1, fs2, fs0, r_dIf, r_aNil, r_aCons, gd_t, r_dTup, r_dLst, r_dLstM, r_dSl, r_dNoP, r_dP, r_pK, r_dCB, r_dCall, r_dCallK, r_sSeq, sq_nx, sq_rt, sq_ex, sb_ok, sb_ex, r_sNil, r_sRet, r_sExpr, r_sIf, r_sSet, r_sPar, r_sAsg, r_asg, r_sFor, fn_rt, fn_nx, fn_ex, r_dIt, it_tup, it_lst, eq_int, eq_bl, eq_str, ne_str, cmp_int, add_int, sub_int, neg_int, len_tup, len_lst, tuple_lst, list_tup, i2_int, int_int, if_t, if_f, bd_nm, bd_tp, bd_nil, bd_cons, bdk, List.set_cons_zero, List.set_cons_succ, okL0, okL1, okL2, okL3, okL4, okL5, okL6, okL7, okL8, okL9, okL10, okL11, okL12, okL13, okL14, okL15, List.length_cons, List.length_nil, Nat.reduceAdd, Nat.zero_add, Nat.reduceLeDiff, Nat.reduceEqDiff, decide_true, decide_false, Bool.not_true, Bool.not_false, Bool.and_true, Bool.true_and, eq_self, List.cons_append, List.nil_append, pickL, List.map_cons, List.map_nil, ↓reduceIte, Bool.false_eq_true]
  | false =>
    rw [if_f]
    obtain ⟨r2, l3, e2, h5, h6, h7⟩ := number_ok h4 (R ++ [vs])
    refine fin l3 (.int r2) _ ?_ h5 ⟨r2, rfl, h6, by omega⟩
    simp -implicitDefEqProofs only [e2, r_dB, bind_ok, bind_ex, r_var, vk_some, List.getD_cons_zero, List.getD_cons_succ, r_dC, r_dOp, r_dUn, r_dTst, r_tst, r_dTru, r_optB, r_trub, r_truT, r_dNotT, r_dAndT, r_dOrT, r_dNot, r_dAnd, r_dOr, r_and1, r_and0, r_or1, r_or0, r_andb, r_orb, r_iteb, r_iteb2, r_raise, ix0, ix1, r_sSetIx, fl0, fl1, fl2, fl3, fs0, fs1, fs2, fs0, r_dIf, r_aNil, r_aCons, gd_t, r_dTup, r_dLst, r_dLstM, r_dSl, r_dNoP, r_dP, r_pK, r_dCB, r_dCall, r_dCallK, r_sSeq, sq_nx, sq_rt, sq_ex, sb_ok, sb_ex, r_sNil, r_sRet, r_sExpr, r_sIf, r_sSet, r_sPar, r_sAsg, r_asg, r_sFor, fn_rt, fn_nx, fn_ex, r_dIt, it_tup, it_lst, eq_int, eq_bl, eq_str, ne_str, cmp_int, add_int, sub_int, neg_int, len_tup, len_lst, tuple_lst, list_tup, i2_int, int_int, if_t, if_f, bd_nm, bd_tp, bd_nil, bd_cons, bdk, List.set_cons_zero, List.set_cons_succ, okL0, okL1, okL2, okL3, okL4, okL5, okL6, okL7, okL8, okL9, okL10, okL11, okL12, okL13, okL14, okL15, List.length_cons, List.length_nil, Nat.reduceAdd, Nat.zero_add, Nat.reduceLeDiff, Nat.reduceEqDiff, decide_true, decide_false, Bool.not_true, Bool.not_false, Bool.and_true, Bool.true_and, eq_self, List.cons_append, List.nil_append, pickL, List.map_cons, List.map_nil, ↓reduceIte, Bool.false_eq_true]
theorem numbers_ok {l : List D} (h : Fl l) {n : Nat} (hn : n ≤ 1000) {R : Sto} (hR : SL R) : ∃ vs l', F__law_numbers [.ref 0, .int (n : Int)] (l :: R) = .ok (.tup vs) (l' :: R) ∧ Fl l' ∧ vs.length = n ∧ ∀ d ∈ vs, GN d := by
  show ∃ vs l', cutRes (l :: R).length (fnRes (b__law_numbers [some (.ref 0), some (.int (n : Int)), none, none] (l :: R))) = _ ∧ _
  unfold b__law_numbers
  simp -implicitDefEqProofs only [r_dB, bind_ok, bind_ex, r_var, vk_some, List.getD_cons_zero, List.getD_cons_succ, r_dC, r_dOp, r_dUn, r_dTst, r_tst, r_dTru, r_optB, r_trub, r_truT, r_dNotT, r_dAndT, r_dOrT, r_dNot, r_dAnd, r_dOr, r_and1, r_and0, r_or1, r_or0, r_andb, r_orb, r_iteb, r_iteb2, r_raise, ix0, ix1, r_sSetIx, fl0, fl1, fl2, fl3, fs0, fs1, fs2, fs0, r_dIf, r_aNil, r_aCons, gd_t, r_dTup, r_dLst, r_dLstM, r_dSl, r_dNoP, r_dP, r_pK, r_dCB, r_dCall, r_dCallK, r_sSeq, sq_nx, sq_rt, sq_ex, sb_ok, sb_ex, r_sNil, r_sRet, r_sExpr, r_sIf, r_sSet, r_sPar, r_sAsg, r_asg, r_sFor, fn_rt, fn_nx, fn_ex, r_dIt, it_tup, it_lst, eq_int, eq_bl, eq_str, ne_str, cmp_int, add_int, sub_int, neg_int, len_tup, len_lst, tuple_lst, list_tup, i2_int, int_int, if_t, if_f, bd_nm, bd_tp, bd_nil, bd_cons, bdk, List.set_cons_zero, List.set_cons_succ, okL0, okL1, okL2, okL3, okL4, okL5, okL6, okL7, okL8, okL9, okL10, okL11, okL12, okL13, okL14, okL15, List.length_cons, List.length_nil, Nat.reduceAdd, Nat.zero_add, Nat.reduceLeDiff, Nat.reduceEqDiff, decide_true, decide_false, Bool.not_true, Bool.not_false, Bool.and_true, Bool.true_and, eq_self, List.cons_append, List.nil_append, pickL, List.map_cons, List.map_nil, ↓reduceIte, Bool.false_eq_true]
  obtain ⟨ρ', S', e1, l', vs, x, rfl, rfl, h1, h2, h3⟩ := loop_num (t := .nm 3) (body := numB)
    (fun j ρ S => ∃ l' vs x, ρ = [some (.ref 0), some (.int (n : Int)), some (.ref (R.length + 1)), x] ∧ S = l' :: (R ++ [vs]) ∧ Fl l' ∧ vs.length = j ∧ ∀ d ∈ vs, GN d)
    (rngD 0 (n : Int)) (rngD 0 (n : Int)) 0 [some (.ref 0), some (.int (n : Int)), some (.ref (R.length + 1)), none] (l :: (R ++ [[]])) ⟨l, [], none, rfl, rfl, h, rfl, fun d m => nomatch m⟩ (by
      intro i d hd ρ S ⟨l1, vs, x, e1, e2, h1, h2, h3⟩
      subst e1 e2
      have hi := (rng_get hd).2
      rw [Nat.zero_add] at h2 ⊢
      exact ⟨[some (.ref 0), some (.int (n : Int)), some (.ref (R.length + 1)), some d], rfl, numbers_step h1 h2 h3 hi hn⟩)
  unfold numB at e1
  have er : dRng1 (aCons (dV 1) aNil) [some (.ref 0), some (.int (n : Int)), some (.ref (R.length + 1)), none] (l :: (R ++ [[]])) = .ok (rngD 0 (n : Int), none) (l :: (R ++ [[]])) := rng_run (by simp -implicitDefEqProofs only [r_dB, bind_ok, bind_ex, r_var, vk_some, List.getD_cons_zero, List.getD_cons_succ, r_dC, r_dOp, r_dUn, r_dTst, r_tst, r_dTru, r_optB, r_trub, r_truT, r_dNotT, r_dAndT, r_dOrT, r_dNot, r_dAnd, r_dOr, r_and1, r_and0, r_or1, r_or0, r_andb, r_orb, r_iteb, r_iteb2, r_raise, ix0, ix1, r_sSetIx, fl0, fl1, fl2, fl3, fs0, fs1, fs2, fs0, r_dIf, r_aNil, r_aCons, gd_t, r_dTup, r_dLst, r_dLstM, r_dSl, r_dNoP, r_dP, r_pK, r_dCB, r_dCall, r_dCallK, r_sSeq, sq_nx, sq_rt, sq_ex, sb_ok, sb_ex, r_sNil, r_sRet, r_sExpr, r_sIf, r_sSet, r_sPar, r_sAsg, r_asg, r_sFor, fn_rt, fn_nx, fn_ex, r_dIt, it_tup, it_lst, eq_int, eq_bl, eq_str, ne_str, cmp_int, add_int, sub_int, neg_int, len_tup, len_lst, tuple_lst, list_tup, i2_int, int_int, if_t, if_f, bd_nm, bd_tp, bd_nil, bd_cons, bdk, List.set_cons_zero, List.set_cons_succ, okL0, okL1, okL2, okL3, okL4, okL5, okL6, okL7, okL8, okL9, okL10, okL11, okL12, okL13, okL14, okL15, List.length_cons, List.length_nil, Nat.reduceAdd, Nat.zero_add, Nat.reduceLeDiff, Nat.reduceEqDiff, decide_true, decide_false, Bool.not_true, Bool.not_false, Bool.and_true, Bool.true_and, eq_self, List.cons_append, List.nil_append, pickL, List.map_cons, List.map_nil, ↓reduceIte, Bool.false_eq_true]) (by omega)
  simp -implicitDefEqProofs only [er, r_dB, bind_ok, bind_ex, r_var, vk_some, List.getD_cons_zero, List.getD_cons_succ, r_dC, r_dOp, r_dUn, r_dTst, r_tst, r_dTru, r_optB, r_trub, r_truT, r_dNotT, r_dAndT, r_dOrT, r_dNot, r_dAnd, r_dOr, r_and1, r_and0, r_or1, r_or0, r_andb, r_orb, r_iteb, r_iteb2, r_raise, ix0, ix1, r_sSetIx, fl0, fl1, fl2, fl3, fs0, fs1, fs2, fs0, r_dIf, r_aNil, r_aCons, gd_t, r_dTup, r_dLst, r_dLstM, r_dSl, r_dNoP, r_dP, r_pK, r_dCB, r_dCall, r_dCallK, r_sSeq, sq_nx, sq_rt, sq_ex, sb_ok, sb_ex, r_sNil, r_sRet, r_sExpr, r_sIf, r_sSet, r_sPar, r_sAsg, r_asg, r_sFor, fn_rt, fn_nx, fn_ex, r_dIt, it_tup, it_lst, eq_int, eq_bl, eq_str, ne_str, cmp_int, add_int, sub_int, neg_int, len_tup, len_lst, tuple_lst, list_tup, i2_int, int_int, if_t, if_f, bd_nm, bd_tp, bd_nil, bd_cons, bdk, List.set_cons_zero, List.set_cons_succ, okL0, okL1, okL2, okL3, okL4, okL5, okL6, okL7, okL8, okL9, okL10, okL11, okL12, okL13, okL14, okL15, List.length_cons, List.length_nil, Nat.reduceAdd, Nat.zero_add, Nat.reduceLeDiff, Nat.reduceEqDiff, decide_true, decide_false, Bool.not_true, Bool.not_false, Bool.and_true, Bool.true_and, eq_self, List.cons_append, List.nil_append, pickL, List.map_cons, List.map_nil, ↓reduceIte, Bool.false_eq_true]
  rw [e1]
  rw [rng_len] at h2
  have et : oTuple [.ref (R.length + 1)] (l' :: (R ++ [vs])) = .ok (.tup vs) (l' :: (R ++ [vs])) := by
    unfold oTuple
    simp only [D.seqL, snoc_get]
  simp -implicitDefEqProofs only [et, r_dB, bind_ok, bind_ex, r_var, vk_some, List.getD_cons_zero, List.getD_cons_succ, r_dC, r_dOp, r_dUn, r_dTst, r_tst, r_dTru, r_optB, r_trub, r_truT, r_dNotT, r_dAndT, r_dOrT, r_dNot, r_dAnd, r_dOr, r_and1, r_and0, r_or1, r_or0, r_andb, r_orb, r_iteb, r_iteb2, r_raise, ix0, ix1, r_sSetIx, fl0, fl1, fl2, fl3, fs0, fs1, fs2, fs0, r_dIf, r_aNil, r_aCons, gd_t, r_dTup, r_dLst, r_dLstM, r_dSl, r_dNoP, r_dP, r_pK, r_dCB, r_dCall, r_dCallK, r_sSeq, sq_nx, sq_rt, sq_ex, sb_ok, sb_ex, r_sNil, r_sRet, r_sExpr, r_sIf, r_sSet, r_sPar, r_sAsg, r_asg, r_sFor, fn_rt, fn_nx, fn_ex, r_dIt, it_tup, it_lst, eq_int, eq_bl, eq_str, ne_str, cmp_int, add_int, sub_int, neg_int, len_tup, len_lst, tuple_lst, list_tup, i2_int, int_int, if_t, if_f, bd_nm, bd_tp, bd_nil, bd_cons, bdk, List.set_cons_zero, List.set_cons_succ, okL0, okL1, okL2, okL3, okL4, okL5, okL6, okL7, okL8, okL9, okL10, okL11, okL12, okL13, okL14, okL15, List.length_cons, List.length_nil, Nat.reduceAdd, Nat.zero_add, Nat.reduceLeDiff, Nat.reduceEqDiff, decide_true, decide_false, Bool.not_true, Bool.not_false, Bool.and_true, Bool.true_and, eq_self, List.cons_append, List.nil_append, pickL, List.map_cons, List.map_nil, ↓reduceIte, Bool.false_eq_true]
  have ek : (l' :: (R ++ [vs])).take (R.length + 1) = l' :: R := by simp
  rw [cut_pl (k := R.length + 1) (by unfold Pl; rw [gn_pls h3, decide_eq_true (show vs.length ≤ 1000 by omega)]; rfl) (by rw [ek]; exact h1.sl hR), ek]
  exact ⟨vs, l', rfl, h1, by omega, h3⟩
end k00

set_option Elab.async false
set_option linter.all false
set_option maxRecDepth 100000
set_option maxHeartbeats 1000000
namespace k00
open PySem DE
/-- a pair of a price: coprime, the second at least one -/
def CP (t b : Int) : Prop := 0 ≤ t ∧ 1 ≤ b ∧ Int.gcd t b = 1
theorem gcdI_eq (a b : Int) : gcdI a b = (Int.gcd a b : Int) := rfl
theorem CP.price {t b : Int} (h : CP t b) : isPrice (.tup [.int t, .int b]) = true := by
  obtain ⟨h1, h2, h3⟩ := h
  show (decide (0 ≤ t) && (decide (0 ≤ b) && decide (gcdI t b = 1))) = true
  rw [decide_eq_true h1, decide_eq_true (show 0 ≤ b by omega), gcdI_eq, h3]; rfl
theorem CP.quot {t b : Int} (h : CP t b) : isQuot (.tup [.int t, .int b]) = true := by
  unfold isQuot
  rw [h.price]
  show (true && decide (0 < b)) = true
  rw [decide_eq_true (show 0 < b by have := h.2.1; omega)]; rfl
theorem CP.step {t b k : Int} (h : CP t b) (hk : 1 ≤ k) : CP b (t + k * b) := by
  obtain ⟨h1, h2, h3⟩ := h
  have h4 : 1 * b ≤ k * b := Int.mul_le_mul_of_nonneg_right hk (by omega)
  refine ⟨by omega, by omega, ?_⟩
  rw [Int.gcd_add_mul_right_right, Int.gcd_comm]; exact h3
theorem coprime_ok {l : List D} (h : Fl l) (R : Sto) : ∃ t b l', F__law_coprime [.ref 0] (l :: R) = .ok (.tup [.int t, .int b]) (l' :: R) ∧ Fl l' ∧ CP t b ∧ t < 2 ^ 40 ∧ b < 2 ^ 40 := by
  show ∃ t b l', fnRes (b__law_coprime [some (.ref 0), none, none, none] (l :: R)) = _ ∧ _
  unfold b__law_coprime
  obtain ⟨t0, l1, e1, f1, a1, a2⟩ := number_ok h R
  obtain ⟨r, l2, e2, f2, b1, b2⟩ := draw_ok f1 (m := 3) (by decide) (by decide) R
  obtain ⟨n, rfl⟩ := Int.eq_ofNat_of_zero_le b1
  have hn : n < 3 := by omega
  have er : dRng1 (aCons (dCall 2 F__law_draw (aCons (dV 0) (aCons (dC (.int 3)) aNil))) aNil) [some (.ref 0), some (.int t0), some (.int 1), none] (l1 :: R) = .ok (rngD 0 (n : Int), none) (l2 :: R) := rng_run (by simp -implicitDefEqProofs only [e2, r_dB, bind_ok, bind_ex, r_var, vk_some, List.getD_cons_zero, List.getD_cons_succ, r_dC, r_dOp, r_dUn, r_dTst, r_tst, r_dTru, r_optB, r_trub, r_truT, r_dNotT, r_dAndT, r_dOrT, r_dNot, r_dAnd, r_dOr, r_and1, r_and0, r_or1, r_or0, r_andb, r_orb, r_iteb, r_iteb2, r_raise, ix0, ix1, r_sSetIx, fl0, fl1, fl2, fl3, fs0, fs1, fs2, fs0, r_dIf, r_aNil, r_aCons, gd_t, r_dTup, r_dLst, r_dLstM, r_dSl, r_dNoP, r_dP, r_pK, r_dCB, r_dCall, r_dCallK, r_sSeq, sq_nx, sq_rt, sq_ex, sb_ok, sb_ex, r_sNil, r_sRet, r_sExpr, r_sIf, r_sSet, r_sPar, r_sAsg, r_asg, r_sFor, fn_rt, fn_nx, fn_ex, r_dIt, it_tup, it_lst, eq_int, eq_bl, eq_str, ne_str, cmp_int, add_int, sub_int, neg_int, len_tup, len_lst, tuple_lst, list_tup, i2_int, int_int, if_t, if_f, bd_nm, bd_tp, bd_nil, bd_cons, bdk, List.set_cons_zero, List.set_cons_succ, okL0, okL1, okL2, okL3, okL4, okL5, okL6, okL7, okL8, okL9, okL10, okL11, okL12, okL13, okL14, okL15, List.length_cons, List.length_nil, Nat.reduceAdd, Nat.zero_add, Nat.reduceLeDiff, Nat.reduceEqDiff, decide_true, decide_false, Bool.not_true, Bool.not_false, Bool.and_true, Bool.true_and, eq_self, List.cons_append, List.nil_append, pickL, List.map_cons, List.map_nil, ↓reduceIte, Bool.false_eq_true]) (by omega)
  simp -implicitDefEqProofs only [e1, er, r_dB, bind_ok, bind_ex, r_var, vk_some, List.getD_cons_zero, List.getD_cons_succ, r_dC, r_dOp, r_dUn, r_dTst, r_tst, r_dTru, r_optB, r_trub, r_truT, r_dNotT, r_dAndT, r_dOrT, r_dNot, r_dAnd, r_dOr, r_and1, r_and0, r_or1, r_or0, r_andb, r_orb, r_iteb, r_iteb2, r_raise, ix0, ix1, r_sSetIx, fl0, fl1, fl2, fl3, fs0, fs1, fs2, fs0, r_dIf, r_aNil, r_aCons, gd_t, r_dTup, r_dLst, r_dLstM, r_dSl, r_dNoP, r_dP, r_pK, r_dCB, r_dCall, r_dCallK, r_sSeq, sq_nx, sq_rt, sq_ex, sb_ok, sb_ex, r_sNil, r_sRet, r_sExpr, r_sIf, r_sSet, r_sPar, r_sAsg, r_asg, r_sFor, fn_rt, fn_nx, fn_ex, r_dIt, it_tup, it_lst, eq_int, eq_bl, eq_str, ne_str, cmp_int, add_int, sub_int, neg_int, len_tup, len_lst, tuple_lst, list_tup, i2_int, int_int, if_t, if_f, bd_nm, bd_tp, bd_nil, bd_cons, bdk, List.set_cons_zero, List.set_cons_succ, okL0, okL1, okL2, okL3, okL4, okL5, okL6, okL7, okL8, okL9, okL10, okL11, okL12, okL13, okL14, okL15, List.length_cons, List.length_nil, Nat.reduceAdd, Nat.zero_add, Nat.reduceLeDiff, Nat.reduceEqDiff, decide_true, decide_false, Bool.not_true, Bool.not_false, Bool.and_true, Bool.true_and, eq_self, List.cons_append, List.nil_append, pickL, List.map_cons, List.map_nil, ↓reduceIte, Bool.false_eq_true]
  obtain ⟨ρ', S', e3, t, b, x, l3, rfl, rfl, f3, c1, c2⟩ := loop_num (t := .nm 3) (body := (sPar 1 2 (dV 2) (dOp oAdd (dV 1) (dOp oMul (dOp oAdd (dC (.int 1)) (dCall 2 F__law_draw (aCons (dV 0) (aCons (dC (.int 5)) aNil)))) (dV 2)))))
    (fun j ρ S => ∃ t b x l', ρ = [some (.ref 0), some (.int t), some (.int b), x] ∧ S = l' :: R ∧ Fl l' ∧ CP t b ∧ t + b < 1000002 * 6 ^ j)
    (rngD 0 (n : Int)) (rngD 0 (n : Int)) 0 [some (.ref 0), some (.int t0), some (.int 1), none] (l2 :: R) ⟨t0, 1, none, l2, rfl, rfl, f2, ⟨a1, by decide, Int.gcd_one_right ..⟩, by show t0 + 1 < 1000002 * 1; omega⟩ (by
      intro i d hd ρ S ⟨t, b, x, l3, e1, e2, f3, c1, c2⟩
      subst e1 e2
      refine ⟨[some (.ref 0), some (.int t), some (.int b), some d], rfl, ?_⟩
      obtain ⟨k, l4, e4, f4, k1, k2⟩ := draw_ok f3 (m := 5) (by decide) (by decide) R
      have ho : (1 + k).natAbs < 2 ^ 64 := by omega
      simp -implicitDefEqProofs only [e4, mul_left (i := 1 + k) (j := b) ho, r_dB, bind_ok, bind_ex, r_var, vk_some, List.getD_cons_zero, List.getD_cons_succ, r_dC, r_dOp, r_dUn, r_dTst, r_tst, r_dTru, r_optB, r_trub, r_truT, r_dNotT, r_dAndT, r_dOrT, r_dNot, r_dAnd, r_dOr, r_and1, r_and0, r_or1, r_or0, r_andb, r_orb, r_iteb, r_iteb2, r_raise, ix0, ix1, r_sSetIx, fl0, fl1, fl2, fl3, fs0, fs1, fs2, fs0, r_dIf, r_aNil, r_aCons, gd_t, r_dTup, r_dLst, r_dLstM, r_dSl, r_dNoP, r_dP, r_pK, r_dCB, r_dCall, r_dCallK, r_sSeq, sq_nx, sq_rt, sq_ex, sb_ok, sb_ex, r_sNil, r_sRet, r_sExpr, r_sIf, r_sSet, r_sPar, r_sAsg, r_asg, r_sFor, fn_rt, fn_nx, fn_ex, r_dIt, it_tup, it_lst, eq_int, eq_bl, eq_str, ne_str, cmp_int, add_int, sub_int, neg_int, len_tup, len_lst, tuple_lst, list_tup, i2_int, int_int, if_t, if_f, bd_nm, bd_tp, bd_nil, bd_cons, bdk, List.set_cons_zero, List.set_cons_succ, okL0, okL1, okL2, okL3, okL4, okL5, okL6, okL7, okL8, okL9, okL10, okL11, okL12, okL13, okL14, okL15, List.length_cons, List.length_nil, Nat.reduceAdd, Nat.zero_add, Nat.reduceLeDiff, Nat.reduceEqDiff, decide_true, decide_false, Bool.not_true, Bool.not_false, Bool.and_true, Bool.true_and, eq_self, List.cons_append, List.nil_append, pickL, List.map_cons, List.map_nil, ↓reduceIte, Bool.false_eq_true]
      refine ⟨_, _, rfl, b, t + (1 + k) * b, some d, l4, rfl, rfl, f4, c1.step (by omega), ?_⟩
      have hb := c1.2.1
      have ht := c1.1
      have h5 : (1 + k) * b ≤ 5 * b := Int.mul_le_mul_of_nonneg_right (by omega) (by omega)
      rw [Int.pow_succ]
      rw [Nat.zero_add] at c2
      generalize (6 : Int) ^ i = z at c2 ⊢
      omega)
  rw [e3]
  rw [rng_len] at c2
  simp -implicitDefEqProofs only [r_dB, bind_ok, bind_ex, r_var, vk_some, List.getD_cons_zero, List.getD_cons_succ, r_dC, r_dOp, r_dUn, r_dTst, r_tst, r_dTru, r_optB, r_trub, r_truT, r_dNotT, r_dAndT, r_dOrT, r_dNot, r_dAnd, r_dOr, r_and1, r_and0, r_or1, r_or0, r_andb, r_orb, r_iteb, r_iteb2, r_raise, ix0, ix1, r_sSetIx, fl0, fl1, fl2, fl3, fs0, fs1, fs2, fs0, r_dIf, r_aNil, r_aCons, gd_t, r_dTup, r_dLst, r_dLstM, r_dSl, r_dNoP, r_dP, r_pK, r_dCB, r_dCall, r_dCallK, r_sSeq, sq_nx, sq_rt, sq_ex, sb_ok, sb_ex, r_sNil, r_sRet, r_sExpr, r_sIf, r_sSet, r_sPar, r_sAsg, r_asg, r_sFor, fn_rt, fn_nx, fn_ex, r_dIt, it_tup, it_lst, eq_int, eq_bl, eq_str, ne_str, cmp_int, add_int, sub_int, neg_int, len_tup, len_lst, tuple_lst, list_tup, i2_int, int_int, if_t, if_f, bd_nm, bd_tp, bd_nil, bd_cons, bdk, List.set_cons_zero, List.set_cons_succ, okL0, okL1, okL2, okL3, okL4, okL5, okL6, okL7, okL8, okL9, okL10, okL11, okL12, okL13, okL14, okL15, List.length_cons, List.length_nil, Nat.reduceAdd, Nat.zero_add, Nat.reduceLeDiff, Nat.reduceEqDiff, decide_true, decide_false, Bool.not_true, Bool.not_false, Bool.and_true, Bool.true_and, eq_self, List.cons_append, List.nil_append, pickL, List.map_cons, List.map_nil, ↓reduceIte, Bool.false_eq_true]
  have h6 : (1000002 : Int) * 6 ^ (0 + n) ≤ 1000002 * 36 := by
    match n, hn with
    | 0, _ => decide
    | 1, _ => decide
    | 2, _ => decide
  have h7 := c1.1
  have h8 := c1.2.1
  exact ⟨t, b, l3, rfl, f3, c1, by omega, by omega⟩
/-! ### what is no price -/
theorem gcd_mul {t b m : Int} (h : Int.gcd t b = 1) (hm : 2 ≤ m) : decide (gcdI (t * m) (b * m) = 1) = false := by
  apply decide_eq_false
  rw [gcdI_eq, Int.gcd_mul_right, h]
  omega
theorem noprices_ok {l : List D} (h : Fl l) (R : Sto) {t b : Int} (hc : CP t b) (ht : t < 2 ^ 40) (hb : b < 2 ^ 40) : ∃ vs l', F__law_no_prices [.ref 0, .tup [.int t, .int b]] (l :: R) = .ok (.lst vs) (l' :: R) ∧ Fl l' ∧ ∀ d ∈ vs, Pl d = true ∧ isPrice d = false := by
  show ∃ vs l', fnRes (b__law_no_prices [some (.ref 0), some (.tup [.int t, .int b]), none, none] (l :: R)) = _ ∧ _
  unfold b__law_no_prices
  obtain ⟨k, l1, e1, f1, k1, k2⟩ := draw_ok h (m := 4) (by decide) (by decide) R
  have hm : (2 + k).natAbs < 2 ^ 64 := by omega
  have hs : b.natAbs < 2 ^ 1000 := Nat.lt_of_lt_of_le (show b.natAbs < 2 ^ 40 by have := hc.2.1; omega) (Nat.pow_le_pow_right (by decide) (by decide))
  simp -implicitDefEqProofs only [e1, mul_small (i := t) hm, mul_small (i := b) hm, str_int hs, add_lst, r_dB, bind_ok, bind_ex, r_var, vk_some, List.getD_cons_zero, List.getD_cons_succ, r_dC, r_dOp, r_dUn, r_dTst, r_tst, r_dTru, r_optB, r_trub, r_truT, r_dNotT, r_dAndT, r_dOrT, r_dNot, r_dAnd, r_dOr, r_and1, r_and0, r_or1, r_or0, r_andb, r_orb, r_iteb, r_iteb2, r_raise, ix0, ix1, r_sSetIx, fl0, fl1, fl2, fl3, fs0, fs1, fs2, fs0, r_dIf, r_aNil, r_aCons, gd_t, r_dTup, r_dLst, r_dLstM, r_dSl, r_dNoP, r_dP, r_pK, r_dCB, r_dCall, r_dCallK, r_sSeq, sq_nx, sq_rt, sq_ex, sb_ok, sb_ex, r_sNil, r_sRet, r_sExpr, r_sIf, r_sSet, r_sPar, r_sAsg, r_asg, r_sFor, fn_rt, fn_nx, fn_ex, r_dIt, it_tup, it_lst, eq_int, eq_bl, eq_str, ne_str, cmp_int, add_int, sub_int, neg_int, len_tup, len_lst, tuple_lst, list_tup, i2_int, int_int, if_t, if_f, bd_nm, bd_tp, bd_nil, bd_cons, bdk, List.set_cons_zero, List.set_cons_succ, okL0, okL1, okL2, okL3, okL4, okL5, okL6, okL7, okL8, okL9, okL10, okL11, okL12, okL13, okL14, okL15, List.length_cons, List.length_nil, Nat.reduceAdd, Nat.zero_add, Nat.reduceLeDiff, Nat.reduceEqDiff, decide_true, decide_false, Bool.not_true, Bool.not_false, Bool.and_true, Bool.true_and, eq_self, List.cons_append, List.nil_append, pickL, List.map_cons, List.map_nil, ↓reduceIte, Bool.false_eq_true]
  refine ⟨_, _, rfl, f1, ?_⟩
  obtain ⟨h1, h2, h3⟩ := hc
  have g1 : decide (0 ≤ t) = true := decide_eq_true h1
  have g2 : decide (0 ≤ b) = true := decide_eq_true (by omega)
  have g3 := gcd_mul h3 (show 2 ≤ 2 + k by omega)
  have g4 : decide (gcdI (2 + k) 0 = 1) = false := by
    apply decide_eq_false
    rw [gcdI_eq, Int.gcd_zero_right]; omega
  have g5 : decide (0 ≤ -1 - t) = false := decide_eq_false (by omega)
  have g6 : decide (0 ≤ -b) = false := decide_eq_false (by omega)
  have g7 : decide (gcdI 0 0 = 1) = false := by decide
  intro d hd
  simp only [List.mem_cons, List.not_mem_nil, or_false] at hd
  rcases hd with rfl | rfl | rfl | rfl | rfl | rfl | rfl | rfl | rfl | rfl | rfl | rfl | rfl | rfl | rfl | rfl | rfl | rfl | rfl | rfl | rfl | rfl | rfl
  all_goals refine ⟨rfl, ?_⟩
  all_goals first
    | rfl
    | (simp only [isPrice, isN, gcdB, g1, g2, g3, g4, g5, g6, g7, Bool.and_false, Bool.false_and, Bool.and_true, Bool.true_and]; done)
    | skip
end k00

set_option Elab.async false
set_option linter.all false
set_option maxRecDepth 100000
set_option maxHeartbeats 1000000
namespace k00
open PySem DE
/-- turns that change nothing but the named slot -/
theorem loop_same {j : Nat} {body : Dn} {ds : List D} {ρ : Rho} {S : Sto} (h : ∀ d ∈ ds, body (ρ.set j (some d)) S = .nx (ρ.set j (some d)) S) : ∃ x, loopD (gdOk none ds) (.nm j) body ds ρ S = .nx (ρ.set j x) S ∨ (ds = [] ∧ loopD (gdOk none ds) (.nm j) body ds ρ S = .nx ρ S) := by
  have H : ∀ (l0 ds : List D) (x : Option D), (∀ d ∈ ds, body (ρ.set j (some d)) S = .nx (ρ.set j (some d)) S) → ∃ y, loopD (gdOk none l0) (.nm j) body ds (ρ.set j x) S = .nx (ρ.set j y) S := by
    intro l0 ds
    induction ds with
    | nil => intro x _; exact ⟨x, loop_nil⟩
    | cons d ds ih =>
      intro x h
      obtain ⟨y, e⟩ := ih (some d) fun e m => h e (List.mem_cons_of_mem _ m)
      refine ⟨y, ?_⟩
      rw [loop_cons bd_nm, List.set_set, h d List.mem_cons_self, lp_nx, e]
  cases ds with
  | nil => exact ⟨none, .inr ⟨rfl, loop_nil⟩⟩
  | cons d ds =>
    obtain ⟨y, e⟩ := H (d :: ds) ds (some d) fun e m => h e (List.mem_cons_of_mem _ m)
    exact ⟨y, .inl (by rw [loop_cons bd_nm, h d List.mem_cons_self, lp_nx, e])⟩
theorem loop_same' {j : Nat} {body : Dn} {ds : List D} {ρ : Rho} {S : Sto} (h : ∀ d ∈ ds, body (ρ.set j (some d)) S = .nx (ρ.set j (some d)) S) {x0 : Option D} (hj : ρ.getD j none = x0) (hl : j < ρ.length) : ∃ x, loopD (gdOk none ds) (.nm j) body ds ρ S = .nx (ρ.set j x) S := by
  obtain ⟨x, e | ⟨_, e⟩⟩ := loop_same h
  · exact ⟨x, e⟩
  · refine ⟨x0, ?_⟩
    have : ρ.set j x0 = ρ := by
      apply List.ext_getElem?
      intro i
      by_cases hi : j = i
      · subst hi
        rw [List.getElem?_set_self hl]
        rw [List.getD_eq_getElem?_getD, List.getElem?_eq_getElem hl] at hj
        rw [List.getElem?_eq_getElem hl]
        simpa using hj.symm
      · rw [List.getElem?_set_ne hi]
    rw [e, this]
theorem integers_true {l : List D} (h : Fl l) {R : Sto} : ∃ l', F__law_integers_hold [.ref 0] (l :: R) = .ok (.bl true) (l' :: R) ∧ Fl l' := by
  show ∃ l', fnRes (b__law_integers_hold [some (.ref 0), none, none, none, none, none] (l :: R)) = _ ∧ _
  unfold b__law_integers_hold
  obtain ⟨n, l1, e1, f1, a1, a2⟩ := number_ok h R
  simp -implicitDefEqProofs only [e1, pow59, r_dB, bind_ok, bind_ex, r_var, vk_some, List.getD_cons_zero, List.getD_cons_succ, r_dC, r_dOp, r_dUn, r_dTst, r_tst, r_dTru, r_optB, r_trub, r_truT, r_dNotT, r_dAndT, r_dOrT, r_dNot, r_dAnd, r_dOr, r_and1, r_and0, r_or1, r_or0, r_andb, r_orb, r_iteb, r_iteb2, r_raise, ix0, ix1, r_sSetIx, fl0, fl1, fl2, fl3, fs0, fs1, fs2, fs0, r_dIf, r_aNil, r_aCons, gd_t, r_dTup, r_dLst, r_dLstM, r_dSl, r_dNoP, r_dP, r_pK, r_dCB, r_dCall, r_dCallK, r_sSeq, sq_nx, sq_rt, sq_ex, sb_ok, sb_ex, r_sNil, r_sRet, r_sExpr, r_sIf, r_sSet, r_sPar, r_sAsg, r_asg, r_sFor, fn_rt, fn_nx, fn_ex, r_dIt, it_tup, it_lst, eq_int, eq_bl, eq_str, ne_str, cmp_int, add_int, sub_int, neg_int, len_tup, len_lst, tuple_lst, list_tup, i2_int, int_int, if_t, if_f, bd_nm, bd_tp, bd_nil, bd_cons, bdk, List.set_cons_zero, List.set_cons_succ, okL0, okL1, okL2, okL3, okL4, okL5, okL6, okL7, okL8, okL9, okL10, okL11, okL12, okL13, okL14, okL15, List.length_cons, List.length_nil, Nat.reduceAdd, Nat.zero_add, Nat.reduceLeDiff, Nat.reduceEqDiff, decide_true, decide_false, Bool.not_true, Bool.not_false, Bool.and_true, Bool.true_and, eq_self, List.cons_append, List.nil_append, pickL, List.map_cons, List.map_nil, ↓reduceIte, Bool.false_eq_true]
  refine ⟨l1, ?_, f1⟩
  obtain ⟨x, e2⟩ := loop_same' (j := 4) (ds := [.int n, .int 0, .int 1, .int (10 ^ 59 + n)]) (ρ := [some (.ref 0), some (.int n), some (.int (10 ^ 59 + n)), some (.lst [.int n, .int 0, .int 1, .int (10 ^ 59 + n)]), none, none]) (S := l1 :: R)
    (body := (sSeq (sIf (dNotT (dAndT (dTru (dCall 2 F__law_is (aCons (dCall 1 F_is_integer (aCons (dV 4) aNil)) (aCons (dC (.bl true)) aNil)))) (dTru (dCall 2 F__law_is (aCons (dCallK 0 1 [0] F_is_number aNil (aCons (dV 4) aNil)) (aCons (dC (.bl true)) aNil)))))) (sRet (dC (.bl false))) sNil)
  (sIf (dNotT (dAndT (dTru (dCall 2 F__law_is (aCons (dCallK 0 1 [0] F_is_integer aNil (aCons (dOp oSub (dUn oNeg (dC (.int 1))) (dV 4)) aNil)) (aCons (dC (.bl true)) aNil)))) (dTru (dCall 2 F__law_is (aCons (dCall 1 F_is_number (aCons (dOp oSub (dUn oNeg (dC (.int 1))) (dV 4)) aNil)) (aCons (dC (.bl false)) aNil)))))) (sRet (dC (.bl false))) sNil))) (by
      intro d hd
      have hi : ∃ i : Int, d = .int i ∧ 0 ≤ i := by
        simp only [List.mem_cons, List.not_mem_nil, or_false] at hd
        rcases hd with rfl | rfl | rfl | rfl
        · exact ⟨_, rfl, a1⟩
        · exact ⟨_, rfl, by decide⟩
        · exact ⟨_, rfl, by decide⟩
        · exact ⟨_, rfl, by omega⟩
      obtain ⟨i, rfl, hi⟩ := hi
      have p1 : isN (.int i) = true := decide_eq_true hi
      have p2 : isN (.int (-1 - i)) = false := decide_eq_false (by omega)
      simp -implicitDefEqProofs only [ok_integer (d := .int i) rfl, ok_integer (d := .int (-1 - i)) rfl, ok_number (d := .int i) rfl, ok_number (d := .int (-1 - i)) rfl, ok_is, isI, p1, p2, r_dB, bind_ok, bind_ex, r_var, vk_some, List.getD_cons_zero, List.getD_cons_succ, r_dC, r_dOp, r_dUn, r_dTst, r_tst, r_dTru, r_optB, r_trub, r_truT, r_dNotT, r_dAndT, r_dOrT, r_dNot, r_dAnd, r_dOr, r_and1, r_and0, r_or1, r_or0, r_andb, r_orb, r_iteb, r_iteb2, r_raise, ix0, ix1, r_sSetIx, fl0, fl1, fl2, fl3, fs0, fs1, fs2, fs0, r_dIf, r_aNil, r_aCons, gd_t, r_dTup, r_dLst, r_dLstM, r_dSl, r_dNoP, r_dP, r_pK, r_dCB, r_dCall, r_dCallK, r_sSeq, sq_nx, sq_rt, sq_ex, sb_ok, sb_ex, r_sNil, r_sRet, r_sExpr, r_sIf, r_sSet, r_sPar, r_sAsg, r_asg, r_sFor, fn_rt, fn_nx, fn_ex, r_dIt, it_tup, it_lst, eq_int, eq_bl, eq_str, ne_str, cmp_int, add_int, sub_int, neg_int, len_tup, len_lst, tuple_lst, list_tup, i2_int, int_int, if_t, if_f, bd_nm, bd_tp, bd_nil, bd_cons, bdk, List.set_cons_zero, List.set_cons_succ, okL0, okL1, okL2, okL3, okL4, okL5, okL6, okL7, okL8, okL9, okL10, okL11, okL12, okL13, okL14, okL15, List.length_cons, List.length_nil, Nat.reduceAdd, Nat.zero_add, Nat.reduceLeDiff, Nat.reduceEqDiff, decide_true, decide_false, Bool.not_true, Bool.not_false, Bool.and_true, Bool.true_and, eq_self, List.cons_append, List.nil_append, pickL, List.map_cons, List.map_nil, ↓reduceIte, Bool.false_eq_true]) rfl (by simp only [List.length_cons, List.length_nil]; decide)
  simp -implicitDefEqProofs only [e2, r_dB, bind_ok, bind_ex, r_var, vk_some, List.getD_cons_zero, List.getD_cons_succ, r_dC, r_dOp, r_dUn, r_dTst, r_tst, r_dTru, r_optB, r_trub, r_truT, r_dNotT, r_dAndT, r_dOrT, r_dNot, r_dAnd, r_dOr, r_and1, r_and0, r_or1, r_or0, r_andb, r_orb, r_iteb, r_iteb2, r_raise, ix0, ix1, r_sSetIx, fl0, fl1, fl2, fl3, fs0, fs1, fs2, fs0, r_dIf, r_aNil, r_aCons, gd_t, r_dTup, r_dLst, r_dLstM, r_dSl, r_dNoP, r_dP, r_pK, r_dCB, r_dCall, r_dCallK, r_sSeq, sq_nx, sq_rt, sq_ex, sb_ok, sb_ex, r_sNil, r_sRet, r_sExpr, r_sIf, r_sSet, r_sPar, r_sAsg, r_asg, r_sFor, fn_rt, fn_nx, fn_ex, r_dIt, it_tup, it_lst, eq_int, eq_bl, eq_str, ne_str, cmp_int, add_int, sub_int, neg_int, len_tup, len_lst, tuple_lst, list_tup, i2_int, int_int, if_t, if_f, bd_nm, bd_tp, bd_nil, bd_cons, bdk, List.set_cons_zero, List.set_cons_succ, okL0, okL1, okL2, okL3, okL4, okL5, okL6, okL7, okL8, okL9, okL10, okL11, okL12, okL13, okL14, okL15, List.length_cons, List.length_nil, Nat.reduceAdd, Nat.zero_add, Nat.reduceLeDiff, Nat.reduceEqDiff, decide_true, decide_false, Bool.not_true, Bool.not_false, Bool.and_true, Bool.true_and, eq_self, List.cons_append, List.nil_append, pickL, List.map_cons, List.map_nil, ↓reduceIte, Bool.false_eq_true]
  have hs : n.natAbs < 2 ^ 1000 := Nat.lt_of_lt_of_le (show n.natAbs < 2 ^ 40 by omega) (Nat.pow_le_pow_right (by decide) (by decide))
  simp -implicitDefEqProofs only [str_int hs, r_dB, bind_ok, bind_ex, r_var, vk_some, List.getD_cons_zero, List.getD_cons_succ, r_dC, r_dOp, r_dUn, r_dTst, r_tst, r_dTru, r_optB, r_trub, r_truT, r_dNotT, r_dAndT, r_dOrT, r_dNot, r_dAnd, r_dOr, r_and1, r_and0, r_or1, r_or0, r_andb, r_orb, r_iteb, r_iteb2, r_raise, ix0, ix1, r_sSetIx, fl0, fl1, fl2, fl3, fs0, fs1, fs2, fs0, r_dIf, r_aNil, r_aCons, gd_t, r_dTup, r_dLst, r_dLstM, r_dSl, r_dNoP, r_dP, r_pK, r_dCB, r_dCall, r_dCallK, r_sSeq, sq_nx, sq_rt, sq_ex, sb_ok, sb_ex, r_sNil, r_sRet, r_sExpr, r_sIf, r_sSet, r_sPar, r_sAsg, r_asg, r_sFor, fn_rt, fn_nx, fn_ex, r_dIt, it_tup, it_lst, eq_int, eq_bl, eq_str, ne_str, cmp_int, add_int, sub_int, neg_int, len_tup, len_lst, tuple_lst, list_tup, i2_int, int_int, if_t, if_f, bd_nm, bd_tp, bd_nil, bd_cons, bdk, List.set_cons_zero, List.set_cons_succ, okL0, okL1, okL2, okL3, okL4, okL5, okL6, okL7, okL8, okL9, okL10, okL11, okL12, okL13, okL14, okL15, List.length_cons, List.length_nil, Nat.reduceAdd, Nat.zero_add, Nat.reduceLeDiff, Nat.reduceEqDiff, decide_true, decide_false, Bool.not_true, Bool.not_false, Bool.and_true, Bool.true_and, eq_self, List.cons_append, List.nil_append, pickL, List.map_cons, List.map_nil, ↓reduceIte, Bool.false_eq_true]
  obtain ⟨y, e3⟩ := loop_same' (j := 5) (ds := [.bl true, .bl false, .non, .str "", .str "1", .str (toString n), .tup [], .tup [.int n], .lst [.int n], .lst [], .tup [.tup []]]) (ρ := [some (.ref 0), some (.int n), some (.int (10 ^ 59 + n)), some (.lst [.int n, .int 0, .int 1, .int (10 ^ 59 + n)]), x, none]) (S := l1 :: R)
    (body := (sSeq (sIf (dNotT (dAndT (dTru (dCall 2 F__law_is (aCons (dCall 1 F_is_integer (aCons (dV 5) aNil)) (aCons (dC (.bl false)) aNil)))) (dTru (dCall 2 F__law_is (aCons (dCall 1 F_is_number (aCons (dV 5) aNil)) (aCons (dC (.bl false)) aNil)))))) (sRet (dC (.bl false))) sNil)
  (sIf (dNotT (dAndT (dTru (dCall 2 F__law_is (aCons (dCall 1 F_is_quotient (aCons (dV 5) aNil)) (aCons (dC (.bl false)) aNil)))) (dTru (dCall 2 F__law_is (aCons (dCall 1 F_is_price (aCons (dV 5) aNil)) (aCons (dC (.bl false)) aNil)))))) (sRet (dC (.bl false))) sNil))) (by
      intro d hd
      have hp : Pl d = true ∧ isI d = false ∧ isN d = false ∧ isQuot d = false ∧ isPrice d = false := by
        simp only [List.mem_cons, List.not_mem_nil, or_false] at hd
        rcases hd with rfl | rfl | rfl | rfl | rfl | rfl | rfl | rfl | rfl | rfl | rfl <;> exact ⟨rfl, rfl, rfl, rfl, rfl⟩
      obtain ⟨p0, p1, p2, p3, p4⟩ := hp
      simp -implicitDefEqProofs only [ok_integer p0, ok_number p0, ok_quot p0, ok_price p0, ok_is, p1, p2, p3, p4, r_dB, bind_ok, bind_ex, r_var, vk_some, List.getD_cons_zero, List.getD_cons_succ, r_dC, r_dOp, r_dUn, r_dTst, r_tst, r_dTru, r_optB, r_trub, r_truT, r_dNotT, r_dAndT, r_dOrT, r_dNot, r_dAnd, r_dOr, r_and1, r_and0, r_or1, r_or0, r_andb, r_orb, r_iteb, r_iteb2, r_raise, ix0, ix1, r_sSetIx, fl0, fl1, fl2, fl3, fs0, fs1, fs2, fs0, r_dIf, r_aNil, r_aCons, gd_t, r_dTup, r_dLst, r_dLstM, r_dSl, r_dNoP, r_dP, r_pK, r_dCB, r_dCall, r_dCallK, r_sSeq, sq_nx, sq_rt, sq_ex, sb_ok, sb_ex, r_sNil, r_sRet, r_sExpr, r_sIf, r_sSet, r_sPar, r_sAsg, r_asg, r_sFor, fn_rt, fn_nx, fn_ex, r_dIt, it_tup, it_lst, eq_int, eq_bl, eq_str, ne_str, cmp_int, add_int, sub_int, neg_int, len_tup, len_lst, tuple_lst, list_tup, i2_int, int_int, if_t, if_f, bd_nm, bd_tp, bd_nil, bd_cons, bdk, List.set_cons_zero, List.set_cons_succ, okL0, okL1, okL2, okL3, okL4, okL5, okL6, okL7, okL8, okL9, okL10, okL11, okL12, okL13, okL14, okL15, List.length_cons, List.length_nil, Nat.reduceAdd, Nat.zero_add, Nat.reduceLeDiff, Nat.reduceEqDiff, decide_true, decide_false, Bool.not_true, Bool.not_false, Bool.and_true, Bool.true_and, eq_self, List.cons_append, List.nil_append, pickL, List.map_cons, List.map_nil, ↓reduceIte, Bool.false_eq_true]) rfl (by simp only [List.length_cons, List.length_nil]; decide)
  simp -implicitDefEqProofs only [e3, r_dB, bind_ok, bind_ex, r_var, vk_some, List.getD_cons_zero, List.getD_cons_succ, r_dC, r_dOp, r_dUn, r_dTst, r_tst, r_dTru, r_optB, r_trub, r_truT, r_dNotT, r_dAndT, r_dOrT, r_dNot, r_dAnd, r_dOr, r_and1, r_and0, r_or1, r_or0, r_andb, r_orb, r_iteb, r_iteb2, r_raise, ix0, ix1, r_sSetIx, fl0, fl1, fl2, fl3, fs0, fs1, fs2, fs0, r_dIf, r_aNil, r_aCons, gd_t, r_dTup, r_dLst, r_dLstM, r_dSl, r_dNoP, r_dP, r_pK, r_dCB, r_dCall, r_dCallK, r_sSeq, sq_nx, sq_rt, sq_ex, sb_ok, sb_ex, r_sNil, r_sRet, r_sExpr, r_sIf, r_sSet, r_sPar, r_sAsg, r_asg, r_sFor, fn_rt, fn_nx, fn_ex, r_dIt, it_tup, it_lst, eq_int, eq_bl, eq_str, ne_str, cmp_int, add_int, sub_int, neg_int, len_tup, len_lst, tuple_lst, list_tup, i2_int, int_int, if_t, if_f, bd_nm, bd_tp, bd_nil, bd_cons, bdk, List.set_cons_zero, List.set_cons_succ, okL0, okL1, okL2, okL3, okL4, okL5, okL6, okL7, okL8, okL9, okL10, okL11, okL12, okL13, okL14, okL15, List.length_cons, List.length_nil, Nat.reduceAdd, Nat.zero_add, Nat.reduceLeDiff, Nat.reduceEqDiff, decide_true, decide_false, Bool.not_true, Bool.not_false, Bool.and_true, Bool.true_and, eq_self, List.cons_append, List.nil_append, pickL, List.map_cons, List.map_nil, ↓reduceIte, Bool.false_eq_true]
end k00

set_option Elab.async false
set_option linter.all false
set_option maxRecDepth 100000
set_option maxHeartbeats 1000000
namespace k00
open PySem DE
noncomputable def quoIn : Dn := (sIf (dNotT (dAndT (dTru (dCall 2 F__law_is (aCons (dCallK 0 1 [0] F_is_quotient aNil (aCons (dV 3) aNil)) (aCons (dC (.bl false)) aNil)))) (dTru (dCall 2 F__law_is (aCons (dCall 1 F_is_price (aCons (dV 3) aNil)) (aCons (dC (.bl false)) aNil)))))) (sRet (dC (.bl false))) sNil)
noncomputable def quoB : Dn := (sSeq (sSet 2 (dCall 1 F__law_coprime (aCons (dV 0) aNil)))
  (sSeq (sIf (dNotT (dAndT (dTru (dCall 2 F__law_is (aCons (dCall 1 F_is_quotient (aCons (dV 2) aNil)) (aCons (dC (.bl true)) aNil)))) (dTru (dCall 2 F__law_is (aCons (dCallK 0 1 [0] F_is_price aNil (aCons (dV 2) aNil)) (aCons (dC (.bl true)) aNil)))))) (sRet (dC (.bl false))) sNil)
  (sFor (dIt (dCall 2 F__law_no_prices (aCons (dV 0) (aCons (dV 2) aNil)))) (.nm 3) quoIn)))
theorem quo_step {l : List D} (h : Fl l) {R : Sto} {x1 x2 x3 : Option D} : ∃ y2 y3 l', quoB [some (.ref 0), x1, x2, x3, none, none] (l :: R) = .nx [some (.ref 0), x1, y2, y3, none, none] (l' :: R) ∧ Fl l' := by
  unfold quoB
  obtain ⟨t, b, l1, e1, f1, c1, c2, c3⟩ := coprime_ok h R
  obtain ⟨vs, l2, e2, f2, hv⟩ := noprices_ok f1 R c1 c2 c3
  have q1 : Pl (.tup [.int t, .int b]) = true := rfl
  have q2 := c1.quot
  have q3 := c1.price
  obtain ⟨y, e3⟩ := loop_same' (j := 3) (ds := vs) (ρ := [some (.ref 0), x1, some (.tup [.int t, .int b]), x3, none, none]) (S := l2 :: R) (body := quoIn) (by
    intro d hd
    obtain ⟨p0, p1⟩ := hv d hd
    have p2 : isQuot d = false := by unfold isQuot; rw [p1]; rfl
    unfold quoIn
    simp -implicitDefEqProofs only [ok_quot p0, ok_price p0, ok_is, p1, p2, r_dB, bind_ok, bind_ex, r_var, vk_some, List.getD_cons_zero, List.getD_cons_succ, r_dC, r_dOp, r_dUn, r_dTst, r_tst, r_dTru, r_optB, r_trub, r_truT, r_dNotT, r_dAndT, r_dOrT, r_dNot, r_dAnd, r_dOr, r_and1, r_and0, r_or1, r_or0, r_andb, r_orb, r_iteb, r_iteb2, r_raise, ix0, ix1, r_sSetIx, fl0, fl1, fl2, fl3, fs0, fs1, fs2, fs0, r_dIf, r_aNil, r_aCons, gd_t, r_dTup, r_dLst, r_dLstM, r_dSl, r_dNoP, r_dP, r_pK, r_dCB, r_dCall, r_dCallK, r_sSeq, sq_nx, sq_rt, sq_ex, sb_ok, sb_ex, r_sNil, r_sRet, r_sExpr, r_sIf, r_sSet, r_sPar, r_sAsg, r_asg, r_sFor, fn_rt, fn_nx, fn_ex, r_dIt, it_tup, it_lst, eq_int, eq_bl, eq_str, ne_str, cmp_int, add_int, sub_int, neg_int, len_tup, len_lst, tuple_lst, list_tup, i2_int, int_int, if_t, if_f, bd_nm, bd_tp, bd_nil, bd_cons, bdk, List.set_cons_zero, List.set_cons_succ, okL0, okL1, okL2, okL3, okL4, okL5, okL6, okL7, okL8, okL9, okL10, okL11, okL12, okL13, okL14, okL15, List.length_cons, List.length_nil, Nat.reduceAdd, Nat.zero_add, Nat.reduceLeDiff, Nat.reduceEqDiff, decide_true, decide_false, Bool.not_true, Bool.not_false, Bool.and_true, Bool.true_and, eq_self, List.cons_append, List.nil_append, pickL, List.map_cons, List.map_nil, ↓reduceIte, Bool.false_eq_true]) rfl (by simp only [List.length_cons, List.length_nil]; decide)
  simp -implicitDefEqProofs only [e1, ok_quot q1, ok_price q1, q2, q3, ok_is, e2, e3, r_dB, bind_ok, bind_ex, r_var, vk_some, List.getD_cons_zero, List.getD_cons_succ, r_dC, r_dOp, r_dUn, r_dTst, r_tst, r_dTru, r_optB, r_trub, r_truT, r_dNotT, r_dAndT, r_dOrT, r_dNot, r_dAnd, r_dOr, r_and1, r_and0, r_or1, r_or0, r_andb, r_orb, r_iteb, r_iteb2, r_raise, ix0, ix1, r_sSetIx, fl0, fl1, fl2, fl3, fs0, fs1, fs2, fs0, r_dIf, r_aNil, r_aCons, gd_t, r_dTup, r_dLst, r_dLstM, r_dSl, r_dNoP, r_dP, r_pK, r_dCB, r_dCall, r_dCallK, r_sSeq, sq_nx, sq_rt, sq_ex, sb_ok, sb_ex, r_sNil, r_sRet, r_sExpr, r_sIf, r_sSet, r_sPar, r_sAsg, r_asg, r_sFor, fn_rt, fn_nx, fn_ex, r_dIt, it_tup, it_lst, eq_int, eq_bl, eq_str, ne_str, cmp_int, add_int, sub_int, neg_int, len_tup, len_lst, tuple_lst, list_tup, i2_int, int_int, if_t, if_f, bd_nm, bd_tp, bd_nil, bd_cons, bdk, List.set_cons_zero, List.set_cons_succ, okL0, okL1, okL2, okL3, okL4, okL5, okL6, okL7, okL8, okL9, okL10, okL11, okL12, okL13, okL14, okL15, List.length_cons, List.length_nil, Nat.reduceAdd, Nat.zero_add, Nat.reduceLeDiff, Nat.reduceEqDiff, decide_true, decide_false, Bool.not_true, Bool.not_false, Bool.and_true, Bool.true_and, eq_self, List.cons_append, List.nil_append, pickL, List.map_cons, List.map_nil, ↓reduceIte, Bool.false_eq_true]
  exact ⟨_, _, _, rfl, f2⟩
theorem price10 : isPrice (.tup [.int 1, .int 0]) = true := by decide +kernel
theorem quot10 : isQuot (.tup [.int 1, .int 0]) = false := by decide +kernel
theorem price01 : isPrice (.tup [.int 0, .int 1]) = true := by decide +kernel
theorem quot01 : isQuot (.tup [.int 0, .int 1]) = true := by decide +kernel
noncomputable def fibB : Dn := (sPar 4 5 (dV 5) (dOp oAdd (dV 4) (dV 5)))
theorem quotients_true {l : List D} (h : Fl l) {R : Sto} (hR : SL R) : ∃ l', F__law_quotients_hold [.ref 0] (l :: R) = .ok (.bl true) (l' :: R) ∧ Fl l' := by
  show ∃ l', fnRes (b__law_quotients_hold [some (.ref 0), none, none, none, none, none] (l :: R)) = _ ∧ _
  unfold b__law_quotients_hold
  have er : dRng1 (aCons (dC (.int 3)) aNil) [some (.ref 0), none, none, none, none, none] (l :: R) = .ok (rngD 0 ((3 : Nat) : Int), none) (l :: R) := rng_run rfl (by decide)
  obtain ⟨ρ1, S1, e1, x1, x2, x3, l1, rfl, rfl, f1⟩ := loop_inv (t := .nm 1) (body := quoB) (fun ρ S => ∃ x1 x2 x3 l', ρ = [some (.ref 0), x1, x2, x3, none, none] ∧ S = l' :: R ∧ Fl l') (rngD 0 ((3 : Nat) : Int)) [some (.ref 0), none, none, none, none, none] (l :: R) ⟨none, none, none, l, rfl, rfl, h⟩ (by
    intro d hd ρ S ⟨x1, x2, x3, l1, e1, e2, f1⟩
    subst e1 e2
    obtain ⟨y2, y3, l2, e3, f2⟩ := quo_step f1 (R := R) (x1 := some d) (x2 := x2) (x3 := x3)
    exact ⟨_, rfl, _, _, e3, some d, y2, y3, l2, rfl, rfl, f2⟩)
  unfold quoB quoIn at e1
  obtain ⟨k, l2, e2, f2, k1, k2⟩ := draw_ok f1 (m := 80) (by decide) (by decide) R
  obtain ⟨n, rfl⟩ := Int.eq_ofNat_of_zero_le k1
  have er2 : dRng1 (aCons (dOp oAdd (dC (.int 200)) (dCall 2 F__law_draw (aCons (dV 0) (aCons (dC (.int 80)) aNil)))) aNil) [some (.ref 0), x1, x2, x3, some (.int 1), some (.int 1)] (l1 :: R) = .ok (rngD 0 ((200 + n : Nat) : Int), none) (l2 :: R) := rng_run (by simp -implicitDefEqProofs only [e2, r_dB, bind_ok, bind_ex, r_var, vk_some, List.getD_cons_zero, List.getD_cons_succ, r_dC, r_dOp, r_dUn, r_dTst, r_tst, r_dTru, r_optB, r_trub, r_truT, r_dNotT, r_dAndT, r_dOrT, r_dNot, r_dAnd, r_dOr, r_and1, r_and0, r_or1, r_or0, r_andb, r_orb, r_iteb, r_iteb2, r_raise, ix0, ix1, r_sSetIx, fl0, fl1, fl2, fl3, fs0, fs1, fs2, fs0, r_dIf, r_aNil, r_aCons, gd_t, r_dTup, r_dLst, r_dLstM, r_dSl, r_dNoP, r_dP, r_pK, r_dCB, r_dCall, r_dCallK, r_sSeq, sq_nx, sq_rt, sq_ex, sb_ok, sb_ex, r_sNil, r_sRet, r_sExpr, r_sIf, r_sSet, r_sPar, r_sAsg, r_asg, r_sFor, fn_rt, fn_nx, fn_ex, r_dIt, it_tup, it_lst, eq_int, eq_bl, eq_str, ne_str, cmp_int, add_int, sub_int, neg_int, len_tup, len_lst, tuple_lst, list_tup, i2_int, int_int, if_t, if_f, bd_nm, bd_tp, bd_nil, bd_cons, bdk, List.set_cons_zero, List.set_cons_succ, okL0, okL1, okL2, okL3, okL4, okL5, okL6, okL7, okL8, okL9, okL10, okL11, okL12, okL13, okL14, okL15, List.length_cons, List.length_nil, Nat.reduceAdd, Nat.zero_add, Nat.reduceLeDiff, Nat.reduceEqDiff, decide_true, decide_false, Bool.not_true, Bool.not_false, Bool.and_true, Bool.true_and, eq_self, List.cons_append, List.nil_append, pickL, List.map_cons, List.map_nil, ↓reduceIte, Bool.false_eq_true]; rfl) (by omega)
  obtain ⟨ρ3, S3, e3, x, t, b, rfl, rfl, c1, c2⟩ := loop_inv (t := .nm 1) (body := fibB) (fun ρ S => ∃ x t b, ρ = [some (.ref 0), x, x2, x3, some (.int t), some (.int b)] ∧ S = l2 :: R ∧ 1 ≤ t ∧ CP t b) (rngD 0 ((200 + n : Nat) : Int)) [some (.ref 0), x1, x2, x3, some (.int 1), some (.int 1)] (l2 :: R) ⟨x1, 1, 1, rfl, rfl, by decide, by decide, by decide, by decide⟩ (by
    intro d hd ρ S ⟨x, t, b, e1, e2, c1, c2⟩
    subst e1 e2
    refine ⟨_, rfl, _, _, ?_, some d, b, t + b, rfl, rfl, c2.2.1, ?_⟩
    · show fibB [some (.ref 0), some d, x2, x3, some (.int t), some (.int b)] (l2 :: R) = _
      unfold fibB
      simp -implicitDefEqProofs only [r_dB, bind_ok, bind_ex, r_var, vk_some, List.getD_cons_zero, List.getD_cons_succ, r_dC, r_dOp, r_dUn, r_dTst, r_tst, r_dTru, r_optB, r_trub, r_truT, r_dNotT, r_dAndT, r_dOrT, r_dNot, r_dAnd, r_dOr, r_and1, r_and0, r_or1, r_or0, r_andb, r_orb, r_iteb, r_iteb2, r_raise, ix0, ix1, r_sSetIx, fl0, fl1, fl2, fl3, fs0, fs1, fs2, fs0, r_dIf, r_aNil, r_aCons, gd_t, r_dTup, r_dLst, r_dLstM, r_dSl, r_dNoP, r_dP, r_pK, r_dCB, r_dCall, r_dCallK, r_sSeq, sq_nx, sq_rt, sq_ex, sb_ok, sb_ex, r_sNil, r_sRet, r_sExpr, r_sIf, r_sSet, r_sPar, r_sAsg, r_asg, r_sFor, fn_rt, fn_nx, fn_ex, r_dIt, it_tup, it_lst, eq_int, eq_bl, eq_str, ne_str, cmp_int, add_int, sub_int, neg_int, len_tup, len_lst, tuple_lst, list_tup, i2_int, int_int, if_t, if_f, bd_nm, bd_tp, bd_nil, bd_cons, bdk, List.set_cons_zero, List.set_cons_succ, okL0, okL1, okL2, okL3, okL4, okL5, okL6, okL7, okL8, okL9, okL10, okL11, okL12, okL13, okL14, okL15, List.length_cons, List.length_nil, Nat.reduceAdd, Nat.zero_add, Nat.reduceLeDiff, Nat.reduceEqDiff, decide_true, decide_false, Bool.not_true, Bool.not_false, Bool.and_true, Bool.true_and, eq_self, List.cons_append, List.nil_append, pickL, List.map_cons, List.map_nil, ↓reduceIte, Bool.false_eq_true]
    · have := c2.step (k := 1) (by decide)
      rwa [Int.one_mul] at this)
  unfold fibB at e3
  have c3 : CP b t := ⟨by have := c2.2.1; omega, c1, by rw [Int.gcd_comm]; exact c2.2.2⟩
  have q1 : isQuot (.tup [.int t, .int b]) = true := c2.quot
  have q2 : isPrice (.tup [.int b, .int t]) = true := c3.price
  have q3 : isPrice (.tup [.int (2 * t), .int (2 * b)]) = false := by
    show (_ && (_ && decide (gcdI (2 * t) (2 * b) = 1))) = false
    rw [Int.mul_comm 2 t, Int.mul_comm 2 b, gcd_mul c2.2.2 (by decide), Bool.and_false, Bool.and_false]
  have q4 : isQuot (.tup [.int (2 * t), .int (2 * b)]) = false := by unfold isQuot; rw [q3]; rfl
  have q5 : allT 1 isQuot (.tup [.tup [.int t, .int b]]) = true := by
    unfold allT
    simp only [List.all_cons, List.all_nil, q1]; rfl
  have hS := f2.sl hR
  simp -implicitDefEqProofs only [er, e1, er2, e3, ok_quot (d := .tup [.int t, .int b]) rfl, ok_price (d := .tup [.int b, .int t]) rfl, q1, q2, ok_is, mul_left (i := 2) (by decide), ok_quot (d := .tup [.int (2 * t), .int (2 * b)]) rfl, q4,
    ok_fill (n := 1) (d := .tup [.tup [.int t, .int b]]) rfl hS, q5, ok_quot (d := .tup [.int 0, .int 1]) rfl, ok_price (d := .tup [.int 0, .int 1]) rfl, quot01, price01, ok_quot (d := .tup [.int 1, .int 0]) rfl, ok_price (d := .tup [.int 1, .int 0]) rfl, quot10, price10, r_dB, bind_ok, bind_ex, r_var, vk_some, List.getD_cons_zero, List.getD_cons_succ, r_dC, r_dOp, r_dUn, r_dTst, r_tst, r_dTru, r_optB, r_trub, r_truT, r_dNotT, r_dAndT, r_dOrT, r_dNot, r_dAnd, r_dOr, r_and1, r_and0, r_or1, r_or0, r_andb, r_orb, r_iteb, r_iteb2, r_raise, ix0, ix1, r_sSetIx, fl0, fl1, fl2, fl3, fs0, fs1, fs2, fs0, r_dIf, r_aNil, r_aCons, gd_t, r_dTup, r_dLst, r_dLstM, r_dSl, r_dNoP, r_dP, r_pK, r_dCB, r_dCall, r_dCallK, r_sSeq, sq_nx, sq_rt, sq_ex, sb_ok, sb_ex, r_sNil, r_sRet, r_sExpr, r_sIf, r_sSet, r_sPar, r_sAsg, r_asg, r_sFor, fn_rt, fn_nx, fn_ex, r_dIt, it_tup, it_lst, eq_int, eq_bl, eq_str, ne_str, cmp_int, add_int, sub_int, neg_int, len_tup, len_lst, tuple_lst, list_tup, i2_int, int_int, if_t, if_f, bd_nm, bd_tp, bd_nil, bd_cons, bdk, List.set_cons_zero, List.set_cons_succ, okL0, okL1, okL2, okL3, okL4, okL5, okL6, okL7, okL8, okL9, okL10, okL11, okL12, okL13, okL14, okL15, List.length_cons, List.length_nil, Nat.reduceAdd, Nat.zero_add, Nat.reduceLeDiff, Nat.reduceEqDiff, decide_true, decide_false, Bool.not_true, Bool.not_false, Bool.and_true, Bool.true_and, eq_self, List.cons_append, List.nil_append, pickL, List.map_cons, List.map_nil, ↓reduceIte, Bool.false_eq_true]
  exact ⟨l2, rfl, f2⟩
end k00

set_option Elab.async false
set_option linter.all false
set_option maxRecDepth 100000
set_option maxHeartbeats 1000000
namespace k00
open PySem DE
noncomputable def rowA : Dn := (sIf (dNotT (dAndT (dTru (dCall 2 F__law_is (aCons (dCall 2 F_is_fill (aCons (dV 3) (aCons (dV 2) aNil))) (aCons (dOp oEq (dV 3) (dV 1)) aNil)))) (dTru (dCall 2 F__law_is (aCons (dCall 2 F_is_row (aCons (dV 3) (aCons (dV 2) aNil))) (aCons (dOp oEq (dV 3) (dV 1)) aNil)))))) (sRet (dC (.bl false))) sNil)
noncomputable def rowB : Dn := (sIf (dNotT (dAndT (dTru (dCall 2 F__law_is (aCons (dCall 2 F_is_row (aCons (dV 6) (aCons (dV 5) aNil))) (aCons (dC (.bl false)) aNil)))) (dTru (dCall 2 F__law_is (aCons (dCallK 0 2 [1, 0] F_is_fill aNil (aCons (dV 5) (aCons (dV 6) aNil))) (aCons (dC (.bl false)) aNil)))))) (sRet (dC (.bl false))) sNil)
noncomputable def rowBB : Dn := (sFor (dIt (dLst (aCons (dV 1) (aCons (dC (.int 1)) aNil)))) (.nm 6) rowB)
noncomputable def rowC : Dn := (sSeq (sSet 8 (dOp oAdd (dOp oAdd (dSl (dV 2) dNoP (dP (dV 7))) (dTup (aCons (dV 5) aNil))) (dSl (dV 2) (dP (dOp oAdd (dV 7) (dC (.int 1)))) dNoP)))
  (sIf (dNotT (dAndT (dTru (dCall 2 F__law_is (aCons (dCall 2 F_is_row (aCons (dV 1) (aCons (dV 8) aNil))) (aCons (dC (.bl false)) aNil)))) (dTru (dCall 2 F__law_is (aCons (dCall 2 F_is_fill (aCons (dV 1) (aCons (dV 8) aNil))) (aCons (dC (.bl false)) aNil)))))) (sRet (dC (.bl false))) sNil))
noncomputable def rowsR : Dn := (sSeq (sSet 2 (dCB oTuple (aCons (dLc finI (dRng1 (aCons (dV 1) aNil)) (.nm 9) dYes (dCall 1 F__law_coprime (aCons (dV 0) aNil)) [9]) aNil)))
  (sSeq (sIf (dNotT (dAndT (dTru (dCall 2 F__law_is (aCons (dCall 2 F_is_fill (aCons (dV 1) (aCons (dV 2) aNil))) (aCons (dC (.bl true)) aNil)))) (dTru (dCall 2 F__law_is (aCons (dCallK 0 2 [0, 1] F_is_row aNil (aCons (dV 1) (aCons (dV 2) aNil))) (aCons (dC (.bl true)) aNil)))))) (sRet (dC (.bl false))) sNil)
  (sSeq (sFor (dIt (dLst (aCons (dOp oAdd (dV 1) (dC (.int 1))) (aCons (dCB (oI2 fun i j => if j > i then j else i) (aCons (dC (.int 0)) (aCons (dOp oSub (dV 1) (dC (.int 1))) aNil))) (aCons (dC (.int 0)) aNil))))) (.nm 3) rowA)
  (sSeq (sSet 4 (dCB oTuple (aCons (dLc finI (dRng1 (aCons (dV 1) aNil)) (.nm 9) dYes (dTup (aCons (dC (.int 1)) (aCons (dC (.int 0)) aNil))) [9]) aNil)))
  (sSeq (sIf (dNotT (dAndT (dTru (dCall 2 F__law_is (aCons (dCall 2 F_is_row (aCons (dV 1) (aCons (dV 4) aNil))) (aCons (dC (.bl true)) aNil)))) (dTru (dCall 2 F__law_is (aCons (dCall 2 F_is_fill (aCons (dV 1) (aCons (dV 4) aNil))) (aCons (dOp oEq (dV 1) (dC (.int 0))) aNil)))))) (sRet (dC (.bl false))) sNil)
  (sSeq (sFor (dIt (dLst (aCons (dCB oList (aCons (dV 2) aNil)) (aCons (dC .non) (aCons (dC (.str "-")) (aCons (dV 1) (aCons (dTup (aCons (dV 2) aNil)) (aCons (dOp oAdd (dV 2) (dTup (aCons (dC .non) aNil))) aNil)))))))) (.nm 5) rowBB)
  (sSeq (sIf (dTst (dOp oEq (dV 1) (dC (.int 0)))) (sRet (dC (.bl true))) sNil)
  (sSeq (sSet 7 (dCall 2 F__law_draw (aCons (dV 0) (aCons (dV 1) aNil))))
  (sSeq (sSet 8 (dOp oAdd (dOp oAdd (dSl (dV 2) dNoP (dP (dV 7))) (dTup (aCons (dTup (aCons (dC (.int 1)) (aCons (dC (.int 0)) aNil))) aNil))) (dSl (dV 2) (dP (dOp oAdd (dV 7) (dC (.int 1)))) dNoP)))
  (sSeq (sIf (dNotT (dAndT (dTru (dCall 2 F__law_is (aCons (dCall 2 F_is_row (aCons (dV 1) (aCons (dV 8) aNil))) (aCons (dC (.bl true)) aNil)))) (dTru (dCall 2 F__law_is (aCons (dCall 2 F_is_fill (aCons (dV 1) (aCons (dV 8) aNil))) (aCons (dC (.bl false)) aNil)))))) (sRet (dC (.bl false))) sNil)
  (sSeq (sFor (dIt (dCall 2 F__law_no_prices (aCons (dV 0) (aCons (dOp oIx (dV 2) (dV 7)) aNil)))) (.nm 5) rowC)
  (sRet (dC (.bl true))))))))))))))
theorem rows_split : b__law_rows_hold = (sSeq (sSet 1 (dCall 2 F__law_draw (aCons (dV 0) (aCons (dC (.int 7)) aNil))))
  (sSeq (sIf (dTst (dOp oEq (dCall 2 F__law_draw (aCons (dV 0) (aCons (dC (.int 8)) aNil))) (dC (.int 5)))) (sSet 1 (dOp oAdd (dC (.int 17)) (dCall 2 F__law_draw (aCons (dV 0) (aCons (dC (.int 3)) aNil))))) sNil)
  rowsR)) := rfl

theorem sl_from1 {l : List D} {k : Nat} {S : Sto} : oSl (.tup l) (some ((k : Int) + 1)) none S = .ok (.tup (l.drop (k + 1))) S := sl_from (k := k + 1)
def CPd (d : D) : Prop := ∃ t b : Int, d = .tup [.int t, .int b] ∧ CP t b ∧ t < 2 ^ 40 ∧ b < 2 ^ 40
theorem cpd_pl {d : D} (h : CPd d) : Pl d = true := by obtain ⟨t, b, rfl, _⟩ := h; rfl
theorem cpd_quot {d : D} (h : CPd d) : isQuot d = true := by obtain ⟨t, b, rfl, h, _⟩ := h; exact h.quot
theorem cpd_price {d : D} (h : CPd d) : isPrice d = true := by obtain ⟨t, b, rfl, h, _⟩ := h; exact h.price
theorem all_of {p : D → Bool} {l : List D} (h : ∀ d ∈ l, p d = true) : l.all p = true := List.all_eq_true.mpr h
theorem allT_of {p : D → Bool} {l : List D} (h : ∀ d ∈ l, p d = true) (n : Int) : allT n p (.tup l) = decide ((l.length : Int) = n) := by
  show (decide ((l.length : Int) = n) && l.all p) = _
  rw [all_of h, Bool.and_true]
theorem allT_no {p : D → Bool} {l : List D} {d : D} (m : d ∈ l) (h : p d = false) (n : Int) : allT n p (.tup l) = false := by
  unfold allT
  have : l.all p = false := by
    cases e : l.all p with
    | false => rfl
    | true => rw [List.all_eq_true.mp e d m] at h; cases h
  show (decide ((l.length : Int) = n) && l.all p) = _
  rw [this, Bool.and_false]
theorem pl_tup_of {l : List D} (h : ∀ d ∈ l, Pl d = true) (hl : l.length ≤ 1000) : Pl (.tup l) = true := by
  unfold Pl
  rw [pls_of h, decide_eq_true hl]; rfl
theorem pl_lst_of {l : List D} (h : ∀ d ∈ l, Pl d = true) (hl : l.length ≤ 1000) : Pl (.lst l) = true := by
  unfold Pl
  rw [pls_of h, decide_eq_true hl]; rfl
theorem price_tups {l : List D} (h : ∀ d ∈ l, CPd d) : isPrice (.tup l) = false := by
  match l, h with
  | [], _ => rfl
  | [a], _ => rfl
  | [a, b], h =>
    obtain ⟨t, c, rfl, _⟩ := h a (by simp)
    rfl
  | a :: b :: c :: r, _ => rfl
theorem rows_core {l : List D} (h : Fl l) {R : Sto} (hR : SL R) {n : Nat} (hn : n ≤ 20) : ∃ l', fnRes (rowsR [some (.ref 0), some (.int (n : Int)), none, none, none, none, none, none, none, none] (l :: R)) = .ok (.bl true) (l' :: R) ∧ Fl l' := by
  unfold rowsR
  have er : dRng1 (aCons (dV 1) aNil) [some (.ref 0), some (.int (n : Int)), none, none, none, none, none, none, none, none] (l :: R) = .ok (rngD 0 (n : Int), none) (l :: R) := rng_run rfl (by omega)
  obtain ⟨vs, S1, e1, ⟨l1, rfl, f1⟩, hl1, hv⟩ := dLc_inv (t := .nm 9) (fe := dCall 1 F__law_coprime (aCons (dV 0) aNil)) (fi := dRng1 (aCons (dV 1) aNil)) (own := [9]) (ρ := [some (.ref 0), some (.int (n : Int)), none, none, none, none, none, none, none, none]) (S := l :: R) (ds := rngD 0 (n : Int))
    (fun S => ∃ l', S = l' :: R ∧ Fl l') CPd er ⟨l, rfl, h⟩ (fun S' ⟨l', e, _⟩ => by rw [e]; rfl) (by rw [rng_len]; omega) (fun S' ⟨l', e, f⟩ => by rw [e]; exact (f.sl hR).low _) (fun v hv => pl_low _ (cpd_pl hv)) (by
      intro d hd S acc ⟨l1, e, f1⟩
      subst e
      refine ⟨[some (.ref 0), some (.int (n : Int)), none, none, none, none, none, none, none, some d], rfl, ?_⟩
      obtain ⟨t, b, l2, e2, f2, c1, c2, c3⟩ := coprime_ok f1 (R ++ [acc])
      refine ⟨_, l2 :: R, ?_, ⟨l2, rfl, f2⟩, t, b, rfl, c1, c2, c3⟩
      simp -implicitDefEqProofs only [e2, r_dB, bind_ok, bind_ex, r_var, vk_some, List.getD_cons_zero, List.getD_cons_succ, r_dC, r_dOp, r_dUn, r_dTst, r_tst, r_dTru, r_optB, r_trub, r_truT, r_dNotT, r_dAndT, r_dOrT, r_dNot, r_dAnd, r_dOr, r_and1, r_and0, r_or1, r_or0, r_andb, r_orb, r_iteb, r_iteb2, r_raise, ix0, ix1, r_sSetIx, fl0, fl1, fl2, fl3, fs0, fs1, fs2, fs0, r_dIf, r_aNil, r_aCons, gd_t, r_dTup, r_dLst, r_dLstM, r_dSl, r_dNoP, r_dP, r_pK, r_dCB, r_dCall, r_dCallK, r_sSeq, sq_nx, sq_rt, sq_ex, sb_ok, sb_ex, r_sNil, r_sRet, r_sExpr, r_sIf, r_sSet, r_sPar, r_sAsg, r_asg, r_sFor, fn_rt, fn_nx, fn_ex, r_dIt, it_tup, it_lst, eq_int, eq_bl, eq_str, ne_str, cmp_int, add_int, sub_int, neg_int, len_tup, len_lst, tuple_lst, list_tup, i2_int, int_int, if_t, if_f, bd_nm, bd_tp, bd_nil, bd_cons, bdk, List.set_cons_zero, List.set_cons_succ, okL0, okL1, okL2, okL3, okL4, okL5, okL6, okL7, okL8, okL9, okL10, okL11, okL12, okL13, okL14, okL15, List.length_cons, List.length_nil, Nat.reduceAdd, Nat.zero_add, Nat.reduceLeDiff, Nat.reduceEqDiff, decide_true, decide_false, Bool.not_true, Bool.not_false, Bool.and_true, Bool.true_and, eq_self, List.cons_append, List.nil_append, pickL, List.map_cons, List.map_nil, ↓reduceIte, Bool.false_eq_true])
  rw [rng_len] at hl1
  have hS1 := f1.sl hR
  have pv : ∀ d ∈ vs, Pl d = true := fun d m => cpd_pl (hv d m)
  have p1 : Pl (.tup vs) = true := pl_tup_of pv (by omega)
  have aq : ∀ m : Int, allT m isQuot (.tup vs) = decide ((n : Int) = m) := fun m => by rw [allT_of (fun d m => cpd_quot (hv d m)), hl1]
  have ap : ∀ m : Int, allT m isPrice (.tup vs) = decide ((n : Int) = m) := fun m => by rw [allT_of (fun d m => cpd_price (hv d m)), hl1]
  have dn1 : decide ((n : Int) = (n : Int)) = true := decide_eq_true rfl
  simp -implicitDefEqProofs only [e1, ok_fill (n := (n : Int)) p1 hS1, ok_row (n := (n : Int)) p1 hS1, aq, ap, ok_is, r_dB, bind_ok, bind_ex, r_var, vk_some, List.getD_cons_zero, List.getD_cons_succ, r_dC, r_dOp, r_dUn, r_dTst, r_tst, r_dTru, r_optB, r_trub, r_truT, r_dNotT, r_dAndT, r_dOrT, r_dNot, r_dAnd, r_dOr, r_and1, r_and0, r_or1, r_or0, r_andb, r_orb, r_iteb, r_iteb2, r_raise, ix0, ix1, r_sSetIx, fl0, fl1, fl2, fl3, fs0, fs1, fs2, fs0, r_dIf, r_aNil, r_aCons, gd_t, r_dTup, r_dLst, r_dLstM, r_dSl, r_dNoP, r_dP, r_pK, r_dCB, r_dCall, r_dCallK, r_sSeq, sq_nx, sq_rt, sq_ex, sb_ok, sb_ex, r_sNil, r_sRet, r_sExpr, r_sIf, r_sSet, r_sPar, r_sAsg, r_asg, r_sFor, fn_rt, fn_nx, fn_ex, r_dIt, it_tup, it_lst, eq_int, eq_bl, eq_str, ne_str, cmp_int, add_int, sub_int, neg_int, len_tup, len_lst, tuple_lst, list_tup, i2_int, int_int, if_t, if_f, bd_nm, bd_tp, bd_nil, bd_cons, bdk, List.set_cons_zero, List.set_cons_succ, okL0, okL1, okL2, okL3, okL4, okL5, okL6, okL7, okL8, okL9, okL10, okL11, okL12, okL13, okL14, okL15, List.length_cons, List.length_nil, Nat.reduceAdd, Nat.zero_add, Nat.reduceLeDiff, Nat.reduceEqDiff, decide_true, decide_false, Bool.not_true, Bool.not_false, Bool.and_true, Bool.true_and, eq_self, List.cons_append, List.nil_append, pickL, List.map_cons, List.map_nil, ↓reduceIte, Bool.false_eq_true]
  -- for other in ..
  have A : ∀ d ∈ [D.int ((n : Int) + 1), .int (if (n : Int) - 1 > 0 then (n : Int) - 1 else 0), .int 0], rowA ([some (.ref 0), some (.int (n : Int)), some (.tup vs), none, none, none, none, none, none, none].set 3 (some d)) (l1 :: R) = .nx ([some (.ref 0), some (.int (n : Int)), some (.tup vs), none, none, none, none, none, none, none].set 3 (some d)) (l1 :: R) := by
    intro d hd
    have hi : ∃ i : Int, d = .int i := by
      simp only [List.mem_cons, List.not_mem_nil, or_false] at hd
      rcases hd with rfl | rfl | rfl <;> exact ⟨_, rfl⟩
    obtain ⟨i, rfl⟩ := hi
    have sy : decide (i = (n : Int)) = decide ((n : Int) = i) := decide_eq_decide.mpr ⟨Eq.symm, Eq.symm⟩
    unfold rowA
    simp -implicitDefEqProofs only [ok_fill (n := i) p1 hS1, ok_row (n := i) p1 hS1, aq, ap, ok_is, sy, r_dB, bind_ok, bind_ex, r_var, vk_some, List.getD_cons_zero, List.getD_cons_succ, r_dC, r_dOp, r_dUn, r_dTst, r_tst, r_dTru, r_optB, r_trub, r_truT, r_dNotT, r_dAndT, r_dOrT, r_dNot, r_dAnd, r_dOr, r_and1, r_and0, r_or1, r_or0, r_andb, r_orb, r_iteb, r_iteb2, r_raise, ix0, ix1, r_sSetIx, fl0, fl1, fl2, fl3, fs0, fs1, fs2, fs0, r_dIf, r_aNil, r_aCons, gd_t, r_dTup, r_dLst, r_dLstM, r_dSl, r_dNoP, r_dP, r_pK, r_dCB, r_dCall, r_dCallK, r_sSeq, sq_nx, sq_rt, sq_ex, sb_ok, sb_ex, r_sNil, r_sRet, r_sExpr, r_sIf, r_sSet, r_sPar, r_sAsg, r_asg, r_sFor, fn_rt, fn_nx, fn_ex, r_dIt, it_tup, it_lst, eq_int, eq_bl, eq_str, ne_str, cmp_int, add_int, sub_int, neg_int, len_tup, len_lst, tuple_lst, list_tup, i2_int, int_int, if_t, if_f, bd_nm, bd_tp, bd_nil, bd_cons, bdk, List.set_cons_zero, List.set_cons_succ, okL0, okL1, okL2, okL3, okL4, okL5, okL6, okL7, okL8, okL9, okL10, okL11, okL12, okL13, okL14, okL15, List.length_cons, List.length_nil, Nat.reduceAdd, Nat.zero_add, Nat.reduceLeDiff, Nat.reduceEqDiff, decide_true, decide_false, Bool.not_true, Bool.not_false, Bool.and_true, Bool.true_and, eq_self, List.cons_append, List.nil_append, pickL, List.map_cons, List.map_nil, ↓reduceIte, Bool.false_eq_true]
  obtain ⟨x3, e2⟩ := loop_same' A rfl (by simp only [List.length_cons, List.length_nil]; decide)
  simp -implicitDefEqProofs only [e2, r_dB, bind_ok, bind_ex, r_var, vk_some, List.getD_cons_zero, List.getD_cons_succ, r_dC, r_dOp, r_dUn, r_dTst, r_tst, r_dTru, r_optB, r_trub, r_truT, r_dNotT, r_dAndT, r_dOrT, r_dNot, r_dAnd, r_dOr, r_and1, r_and0, r_or1, r_or0, r_andb, r_orb, r_iteb, r_iteb2, r_raise, ix0, ix1, r_sSetIx, fl0, fl1, fl2, fl3, fs0, fs1, fs2, fs0, r_dIf, r_aNil, r_aCons, gd_t, r_dTup, r_dLst, r_dLstM, r_dSl, r_dNoP, r_dP, r_pK, r_dCB, r_dCall, r_dCallK, r_sSeq, sq_nx, sq_rt, sq_ex, sb_ok, sb_ex, r_sNil, r_sRet, r_sExpr, r_sIf, r_sSet, r_sPar, r_sAsg, r_asg, r_sFor, fn_rt, fn_nx, fn_ex, r_dIt, it_tup, it_lst, eq_int, eq_bl, eq_str, ne_str, cmp_int, add_int, sub_int, neg_int, len_tup, len_lst, tuple_lst, list_tup, i2_int, int_int, if_t, if_f, bd_nm, bd_tp, bd_nil, bd_cons, bdk, List.set_cons_zero, List.set_cons_succ, okL0, okL1, okL2, okL3, okL4, okL5, okL6, okL7, okL8, okL9, okL10, okL11, okL12, okL13, okL14, okL15, List.length_cons, List.length_nil, Nat.reduceAdd, Nat.zero_add, Nat.reduceLeDiff, Nat.reduceEqDiff, decide_true, decide_false, Bool.not_true, Bool.not_false, Bool.and_true, Bool.true_and, eq_self, List.cons_append, List.nil_append, pickL, List.map_cons, List.map_nil, ↓reduceIte, Bool.false_eq_true]
  -- endless
  have er2 : ∀ x3, dRng1 (aCons (dV 1) aNil) [some (.ref 0), some (.int (n : Int)), some (.tup vs), x3, none, none, none, none, none, none] (l1 :: R) = .ok (rngD 0 (n : Int), none) (l1 :: R) := fun x3 => rng_run rfl (by omega)
  have e3 := dLc_map (t := .nm 9) (fe := dTup (aCons (dC (.int 1)) (aCons (dC (.int 0)) aNil))) (fi := dRng1 (aCons (dV 1) aNil)) (own := [9]) (fun _ => D.tup [.int 1, .int 0]) (er2 x3) (by rw [rng_len]; omega) (hS1.low _) (fun _ _ => rfl) (fun d _ => ⟨_, rfl, fun acc _ => by simp -implicitDefEqProofs only [r_dB, bind_ok, bind_ex, r_var, vk_some, List.getD_cons_zero, List.getD_cons_succ, r_dC, r_dOp, r_dUn, r_dTst, r_tst, r_dTru, r_optB, r_trub, r_truT, r_dNotT, r_dAndT, r_dOrT, r_dNot, r_dAnd, r_dOr, r_and1, r_and0, r_or1, r_or0, r_andb, r_orb, r_iteb, r_iteb2, r_raise, ix0, ix1, r_sSetIx, fl0, fl1, fl2, fl3, fs0, fs1, fs2, fs0, r_dIf, r_aNil, r_aCons, gd_t, r_dTup, r_dLst, r_dLstM, r_dSl, r_dNoP, r_dP, r_pK, r_dCB, r_dCall, r_dCallK, r_sSeq, sq_nx, sq_rt, sq_ex, sb_ok, sb_ex, r_sNil, r_sRet, r_sExpr, r_sIf, r_sSet, r_sPar, r_sAsg, r_asg, r_sFor, fn_rt, fn_nx, fn_ex, r_dIt, it_tup, it_lst, eq_int, eq_bl, eq_str, ne_str, cmp_int, add_int, sub_int, neg_int, len_tup, len_lst, tuple_lst, list_tup, i2_int, int_int, if_t, if_f, bd_nm, bd_tp, bd_nil, bd_cons, bdk, List.set_cons_zero, List.set_cons_succ, okL0, okL1, okL2, okL3, okL4, okL5, okL6, okL7, okL8, okL9, okL10, okL11, okL12, okL13, okL14, okL15, List.length_cons, List.length_nil, Nat.reduceAdd, Nat.zero_add, Nat.reduceLeDiff, Nat.reduceEqDiff, decide_true, decide_false, Bool.not_true, Bool.not_false, Bool.and_true, Bool.true_and, eq_self, List.cons_append, List.nil_append, pickL, List.map_cons, List.map_nil, ↓reduceIte, Bool.false_eq_true]⟩)
  generalize hws : (rngD 0 (n : Int)).map (fun _ => D.tup [.int 1, .int 0]) = ws at e3
  have hw : ∀ d ∈ ws, d = D.tup [.int 1, .int 0] := fun d m => by
    rw [← hws] at m
    obtain ⟨_, _, rfl⟩ := List.mem_map.mp m; rfl
  have lw : ws.length = n := by rw [← hws, List.length_map, rng_len]
  have p2 : Pl (.tup ws) = true := pl_tup_of (fun d m => by rw [hw d m]; rfl) (by omega)
  have ap2 : allT (n : Int) isPrice (.tup ws) = true := by rw [allT_of (fun d m => by rw [hw d m]; exact price10), lw]; exact dn1
  have aq2 : allT (n : Int) isQuot (.tup ws) = decide ((n : Int) = 0) := by
    cases ws with
    | nil =>
      have : n = 0 := lw.symm
      subst this; rfl
    | cons a r =>
      rw [allT_no (d := a) List.mem_cons_self (by rw [hw a List.mem_cons_self]; exact quot10)]
      exact (decide_eq_false (by rw [List.length_cons] at lw; omega)).symm
  simp -implicitDefEqProofs only [e3, ok_row (n := (n : Int)) p2 hS1, ok_fill (n := (n : Int)) p2 hS1, ap2, aq2, ok_is, r_dB, bind_ok, bind_ex, r_var, vk_some, List.getD_cons_zero, List.getD_cons_succ, r_dC, r_dOp, r_dUn, r_dTst, r_tst, r_dTru, r_optB, r_trub, r_truT, r_dNotT, r_dAndT, r_dOrT, r_dNot, r_dAnd, r_dOr, r_and1, r_and0, r_or1, r_or0, r_andb, r_orb, r_iteb, r_iteb2, r_raise, ix0, ix1, r_sSetIx, fl0, fl1, fl2, fl3, fs0, fs1, fs2, fs0, r_dIf, r_aNil, r_aCons, gd_t, r_dTup, r_dLst, r_dLstM, r_dSl, r_dNoP, r_dP, r_pK, r_dCB, r_dCall, r_dCallK, r_sSeq, sq_nx, sq_rt, sq_ex, sb_ok, sb_ex, r_sNil, r_sRet, r_sExpr, r_sIf, r_sSet, r_sPar, r_sAsg, r_asg, r_sFor, fn_rt, fn_nx, fn_ex, r_dIt, it_tup, it_lst, eq_int, eq_bl, eq_str, ne_str, cmp_int, add_int, sub_int, neg_int, len_tup, len_lst, tuple_lst, list_tup, i2_int, int_int, if_t, if_f, bd_nm, bd_tp, bd_nil, bd_cons, bdk, List.set_cons_zero, List.set_cons_succ, okL0, okL1, okL2, okL3, okL4, okL5, okL6, okL7, okL8, okL9, okL10, okL11, okL12, okL13, okL14, okL15, List.length_cons, List.length_nil, Nat.reduceAdd, Nat.zero_add, Nat.reduceLeDiff, Nat.reduceEqDiff, decide_true, decide_false, Bool.not_true, Bool.not_false, Bool.and_true, Bool.true_and, eq_self, List.cons_append, List.nil_append, pickL, List.map_cons, List.map_nil, ↓reduceIte, Bool.false_eq_true]
  -- odd
  have np : isPrice (.tup vs) = false := price_tups hv
  have nq : isQuot (.tup vs) = false := by unfold isQuot; rw [np]; rfl
  have odd : ∀ d ∈ [D.lst vs, .non, .str "-", .int (n : Int), .tup [.tup vs], .tup (vs ++ [.non])], Pl d = true ∧ ∀ m : Int, allT m isPrice d = false ∧ allT m isQuot d = false := by
    intro d hd
    simp only [List.mem_cons, List.not_mem_nil, or_false] at hd
    rcases hd with rfl | rfl | rfl | rfl | rfl | rfl
    · exact ⟨pl_lst_of pv (by omega), fun m => ⟨rfl, rfl⟩⟩
    · exact ⟨rfl, fun m => ⟨rfl, rfl⟩⟩
    · exact ⟨rfl, fun m => ⟨rfl, rfl⟩⟩
    · exact ⟨rfl, fun m => ⟨rfl, rfl⟩⟩
    · exact ⟨pl_tup_of (fun d m => by rw [List.mem_singleton.mp m]; exact p1) (by simp), fun m => ⟨allT_no List.mem_cons_self np m, allT_no List.mem_cons_self nq m⟩⟩
    · refine ⟨pl_tup_of (fun d m => ?_) (by rw [List.length_append, hl1]; simp; omega), fun m => ⟨allT_no (d := .non) (by simp) rfl m, allT_no (d := .non) (by simp) rfl m⟩⟩
      rcases List.mem_append.mp m with m | m
      · exact pv d m
      · rw [List.mem_singleton.mp m]; rfl
  have B : ∀ d ∈ [D.lst vs, .non, .str "-", .int (n : Int), .tup [.tup vs], .tup (vs ++ [.non])], ∀ x6, ∃ y6, rowBB [some (.ref 0), some (.int (n : Int)), some (.tup vs), x3, some (.tup ws), some d, x6, none, none, none] (l1 :: R) = .nx [some (.ref 0), some (.int (n : Int)), some (.tup vs), x3, some (.tup ws), some d, y6, none, none, none] (l1 :: R) := by
    intro d hd x6
    obtain ⟨q0, q1⟩ := odd d hd
    have C : ∀ e ∈ [D.int (n : Int), .int 1], rowB ([some (.ref 0), some (.int (n : Int)), some (.tup vs), x3, some (.tup ws), some d, x6, none, none, none].set 6 (some e)) (l1 :: R) = .nx ([some (.ref 0), some (.int (n : Int)), some (.tup vs), x3, some (.tup ws), some d, x6, none, none, none].set 6 (some e)) (l1 :: R) := by
      intro e he
      have hi : ∃ i : Int, e = .int i := by
        simp only [List.mem_cons, List.not_mem_nil, or_false] at he
        rcases he with rfl | rfl <;> exact ⟨_, rfl⟩
      obtain ⟨i, rfl⟩ := hi
      unfold rowB
      simp -implicitDefEqProofs only [ok_row (n := i) q0 hS1, ok_fill (n := i) q0 hS1, (q1 i).1, (q1 i).2, ok_is, r_dB, bind_ok, bind_ex, r_var, vk_some, List.getD_cons_zero, List.getD_cons_succ, r_dC, r_dOp, r_dUn, r_dTst, r_tst, r_dTru, r_optB, r_trub, r_truT, r_dNotT, r_dAndT, r_dOrT, r_dNot, r_dAnd, r_dOr, r_and1, r_and0, r_or1, r_or0, r_andb, r_orb, r_iteb, r_iteb2, r_raise, ix0, ix1, r_sSetIx, fl0, fl1, fl2, fl3, fs0, fs1, fs2, fs0, r_dIf, r_aNil, r_aCons, gd_t, r_dTup, r_dLst, r_dLstM, r_dSl, r_dNoP, r_dP, r_pK, r_dCB, r_dCall, r_dCallK, r_sSeq, sq_nx, sq_rt, sq_ex, sb_ok, sb_ex, r_sNil, r_sRet, r_sExpr, r_sIf, r_sSet, r_sPar, r_sAsg, r_asg, r_sFor, fn_rt, fn_nx, fn_ex, r_dIt, it_tup, it_lst, eq_int, eq_bl, eq_str, ne_str, cmp_int, add_int, sub_int, neg_int, len_tup, len_lst, tuple_lst, list_tup, i2_int, int_int, if_t, if_f, bd_nm, bd_tp, bd_nil, bd_cons, bdk, List.set_cons_zero, List.set_cons_succ, okL0, okL1, okL2, okL3, okL4, okL5, okL6, okL7, okL8, okL9, okL10, okL11, okL12, okL13, okL14, okL15, List.length_cons, List.length_nil, Nat.reduceAdd, Nat.zero_add, Nat.reduceLeDiff, Nat.reduceEqDiff, decide_true, decide_false, Bool.not_true, Bool.not_false, Bool.and_true, Bool.true_and, eq_self, List.cons_append, List.nil_append, pickL, List.map_cons, List.map_nil, ↓reduceIte, Bool.false_eq_true]
    obtain ⟨y6, e4⟩ := loop_same' C rfl (by simp only [List.length_cons, List.length_nil]; decide)
    unfold rowBB
    simp -implicitDefEqProofs only [e4, r_dB, bind_ok, bind_ex, r_var, vk_some, List.getD_cons_zero, List.getD_cons_succ, r_dC, r_dOp, r_dUn, r_dTst, r_tst, r_dTru, r_optB, r_trub, r_truT, r_dNotT, r_dAndT, r_dOrT, r_dNot, r_dAnd, r_dOr, r_and1, r_and0, r_or1, r_or0, r_andb, r_orb, r_iteb, r_iteb2, r_raise, ix0, ix1, r_sSetIx, fl0, fl1, fl2, fl3, fs0, fs1, fs2, fs0, r_dIf, r_aNil, r_aCons, gd_t, r_dTup, r_dLst, r_dLstM, r_dSl, r_dNoP, r_dP, r_pK, r_dCB, r_dCall, r_dCallK, r_sSeq, sq_nx, sq_rt, sq_ex, sb_ok, sb_ex, r_sNil, r_sRet, r_sExpr, r_sIf, r_sSet, r_sPar, r_sAsg, r_asg, r_sFor, fn_rt, fn_nx, fn_ex, r_dIt, it_tup, it_lst, eq_int, eq_bl, eq_str, ne_str, cmp_int, add_int, sub_int, neg_int, len_tup, len_lst, tuple_lst, list_tup, i2_int, int_int, if_t, if_f, bd_nm, bd_tp, bd_nil, bd_cons, bdk, List.set_cons_zero, List.set_cons_succ, okL0, okL1, okL2, okL3, okL4, okL5, okL6, okL7, okL8, okL9, okL10, okL11, okL12, okL13, okL14, okL15, List.length_cons, List.length_nil, Nat.reduceAdd, Nat.zero_add, Nat.reduceLeDiff, Nat.reduceEqDiff, decide_true, decide_false, Bool.not_true, Bool.not_false, Bool.and_true, Bool.true_and, eq_self, List.cons_append, List.nil_append, pickL, List.map_cons, List.map_nil, ↓reduceIte, Bool.false_eq_true]
    exact ⟨y6, rfl⟩
  obtain ⟨ρ5, S5, e5, x5, x6, rfl, rfl⟩ := loop_inv (t := .nm 5) (body := rowBB) (fun ρ S => ∃ x5 x6, ρ = [some (.ref 0), some (.int (n : Int)), some (.tup vs), x3, some (.tup ws), x5, x6, none, none, none] ∧ S = l1 :: R) [D.lst vs, .non, .str "-", .int (n : Int), .tup [.tup vs], .tup (vs ++ [.non])]
    [some (.ref 0), some (.int (n : Int)), some (.tup vs), x3, some (.tup ws), none, none, none, none, none] (l1 :: R) ⟨none, none, rfl, rfl⟩ (by
      intro d hd ρ S ⟨x5, x6, e1, e2⟩
      subst e1 e2
      obtain ⟨y6, e⟩ := B d hd x6
      exact ⟨_, rfl, _, _, e, some d, y6, rfl, rfl⟩)
  have al : vs.length + [D.non].length ≤ 16777216 := by rw [hl1, List.length_cons, List.length_nil]; omega
  simp -implicitDefEqProofs only [add_tup al, e5, r_dB, bind_ok, bind_ex, r_var, vk_some, List.getD_cons_zero, List.getD_cons_succ, r_dC, r_dOp, r_dUn, r_dTst, r_tst, r_dTru, r_optB, r_trub, r_truT, r_dNotT, r_dAndT, r_dOrT, r_dNot, r_dAnd, r_dOr, r_and1, r_and0, r_or1, r_or0, r_andb, r_orb, r_iteb, r_iteb2, r_raise, ix0, ix1, r_sSetIx, fl0, fl1, fl2, fl3, fs0, fs1, fs2, fs0, r_dIf, r_aNil, r_aCons, gd_t, r_dTup, r_dLst, r_dLstM, r_dSl, r_dNoP, r_dP, r_pK, r_dCB, r_dCall, r_dCallK, r_sSeq, sq_nx, sq_rt, sq_ex, sb_ok, sb_ex, r_sNil, r_sRet, r_sExpr, r_sIf, r_sSet, r_sPar, r_sAsg, r_asg, r_sFor, fn_rt, fn_nx, fn_ex, r_dIt, it_tup, it_lst, eq_int, eq_bl, eq_str, ne_str, cmp_int, add_int, sub_int, neg_int, len_tup, len_lst, tuple_lst, list_tup, i2_int, int_int, if_t, if_f, bd_nm, bd_tp, bd_nil, bd_cons, bdk, List.set_cons_zero, List.set_cons_succ, okL0, okL1, okL2, okL3, okL4, okL5, okL6, okL7, okL8, okL9, okL10, okL11, okL12, okL13, okL14, okL15, List.length_cons, List.length_nil, Nat.reduceAdd, Nat.zero_add, Nat.reduceLeDiff, Nat.reduceEqDiff, decide_true, decide_false, Bool.not_true, Bool.not_false, Bool.and_true, Bool.true_and, eq_self, List.cons_append, List.nil_append, pickL, List.map_cons, List.map_nil, ↓reduceIte, Bool.false_eq_true]
  by_cases h0 : (n : Int) = 0
  · rw [decide_eq_true h0]
    simp -implicitDefEqProofs only [r_dB, bind_ok, bind_ex, r_var, vk_some, List.getD_cons_zero, List.getD_cons_succ, r_dC, r_dOp, r_dUn, r_dTst, r_tst, r_dTru, r_optB, r_trub, r_truT, r_dNotT, r_dAndT, r_dOrT, r_dNot, r_dAnd, r_dOr, r_and1, r_and0, r_or1, r_or0, r_andb, r_orb, r_iteb, r_iteb2, r_raise, ix0, ix1, r_sSetIx, fl0, fl1, fl2, fl3, fs0, fs1, fs2, fs0, r_dIf, r_aNil, r_aCons, gd_t, r_dTup, r_dLst, r_dLstM, r_dSl, r_dNoP, r_dP, r_pK, r_dCB, r_dCall, r_dCallK, r_sSeq, sq_nx, sq_rt, sq_ex, sb_ok, sb_ex, r_sNil, r_sRet, r_sExpr, r_sIf, r_sSet, r_sPar, r_sAsg, r_asg, r_sFor, fn_rt, fn_nx, fn_ex, r_dIt, it_tup, it_lst, eq_int, eq_bl, eq_str, ne_str, cmp_int, add_int, sub_int, neg_int, len_tup, len_lst, tuple_lst, list_tup, i2_int, int_int, if_t, if_f, bd_nm, bd_tp, bd_nil, bd_cons, bdk, List.set_cons_zero, List.set_cons_succ, okL0, okL1, okL2, okL3, okL4, okL5, okL6, okL7, okL8, okL9, okL10, okL11, okL12, okL13, okL14, okL15, List.length_cons, List.length_nil, Nat.reduceAdd, Nat.zero_add, Nat.reduceLeDiff, Nat.reduceEqDiff, decide_true, decide_false, Bool.not_true, Bool.not_false, Bool.and_true, Bool.true_and, eq_self, List.cons_append, List.nil_append, pickL, List.map_cons, List.map_nil, ↓reduceIte, Bool.false_eq_true]
    exact ⟨l1, rfl, f1⟩
  rw [decide_eq_false h0]
  obtain ⟨k, l2, e6, f2, k1, k2⟩ := draw_ok f1 (m := (n : Int)) (by omega) (by omega) R
  obtain ⟨k, rfl⟩ := Int.eq_ofNat_of_zero_le k1
  have hS2 := f2.sl hR
  have hk : k < vs.length := by omega
  -- a row with another at k
  have len3 : ∀ x : D, ((vs.take k ++ [x]) ++ vs.drop (k + 1)).length = n := fun x => by simp; omega
  have mem3 : ∀ x : D, x ∈ (vs.take k ++ [x]) ++ vs.drop (k + 1) := fun x => by simp
  have pl3 : ∀ x : D, Pl x = true → Pl (.tup ((vs.take k ++ [x]) ++ vs.drop (k + 1))) = true := fun x hx => pl_tup_of (fun d m => by
    rcases List.mem_append.mp m with m | m
    · rcases List.mem_append.mp m with m | m
      · exact pv d (List.mem_of_mem_take m)
      · rw [List.mem_singleton.mp m]; exact hx
    · exact pv d (List.mem_of_mem_drop m)) (by rw [len3]; omega)
  have a1 : ∀ x : D, (vs.take k).length + [x].length ≤ 16777216 := fun x => by simp; omega
  have a2 : ∀ x : D, (vs.take k ++ [x]).length + (vs.drop (k + 1)).length ≤ 16777216 := fun x => by
    have := len3 x
    rw [List.length_append] at this
    omega
  have r1 : allT (n : Int) isPrice (.tup ((vs.take k ++ [D.tup [.int 1, .int 0]]) ++ vs.drop (k + 1))) = true := by
    rw [allT_of, len3]
    · exact dn1
    · intro d m
      rcases List.mem_append.mp m with m | m
      · rcases List.mem_append.mp m with m | m
        · exact cpd_price (hv d (List.mem_of_mem_take m))
        · rw [List.mem_singleton.mp m]; exact price10
      · exact cpd_price (hv d (List.mem_of_mem_drop m))
  have r2 : allT (n : Int) isQuot (.tup ((vs.take k ++ [D.tup [.int 1, .int 0]]) ++ vs.drop (k + 1))) = false := allT_no (mem3 _) quot10 _
  have eat : vs[k]? = some vs[k] := List.getElem?_eq_getElem hk
  obtain ⟨t, b, et, c1, c2, c3⟩ := hv vs[k] (List.getElem_mem hk)
  obtain ⟨os, l3, e7, f3, ho⟩ := noprices_ok f2 R c1 c2 c3
  have hS3 := f3.sl hR
  rw [← et] at e7
  have D8 : ∀ d ∈ os, ∀ (x5 x8 : Option D), rowC [some (.ref 0), some (.int (n : Int)), some (.tup vs), x3, some (.tup ws), some d, x6, some (.int (k : Int)), x8, none] (l3 :: R) = .nx [some (.ref 0), some (.int (n : Int)), some (.tup vs), x3, some (.tup ws), some d, x6, some (.int (k : Int)), some (.tup ((vs.take k ++ [d]) ++ vs.drop (k + 1))), none] (l3 :: R) := by
    intro d hd x5 x8
    obtain ⟨q0, q1⟩ := ho d hd
    have q2 : isQuot d = false := by unfold isQuot; rw [q1]; rfl
    have s1 : allT (n : Int) isPrice (.tup ((vs.take k ++ [d]) ++ vs.drop (k + 1))) = false := allT_no (mem3 _) q1 _
    have s2 : allT (n : Int) isQuot (.tup ((vs.take k ++ [d]) ++ vs.drop (k + 1))) = false := allT_no (mem3 _) q2 _
    unfold rowC
    simp -implicitDefEqProofs only [sl_to, sl_from1, add_tup (a1 d), add_tup (a2 d), ok_row (n := (n : Int)) (pl3 d q0) hS3, ok_fill (n := (n : Int)) (pl3 d q0) hS3, s1, s2, ok_is, r_dB, bind_ok, bind_ex, r_var, vk_some, List.getD_cons_zero, List.getD_cons_succ, r_dC, r_dOp, r_dUn, r_dTst, r_tst, r_dTru, r_optB, r_trub, r_truT, r_dNotT, r_dAndT, r_dOrT, r_dNot, r_dAnd, r_dOr, r_and1, r_and0, r_or1, r_or0, r_andb, r_orb, r_iteb, r_iteb2, r_raise, ix0, ix1, r_sSetIx, fl0, fl1, fl2, fl3, fs0, fs1, fs2, fs0, r_dIf, r_aNil, r_aCons, gd_t, r_dTup, r_dLst, r_dLstM, r_dSl, r_dNoP, r_dP, r_pK, r_dCB, r_dCall, r_dCallK, r_sSeq, sq_nx, sq_rt, sq_ex, sb_ok, sb_ex, r_sNil, r_sRet, r_sExpr, r_sIf, r_sSet, r_sPar, r_sAsg, r_asg, r_sFor, fn_rt, fn_nx, fn_ex, r_dIt, it_tup, it_lst, eq_int, eq_bl, eq_str, ne_str, cmp_int, add_int, sub_int, neg_int, len_tup, len_lst, tuple_lst, list_tup, i2_int, int_int, if_t, if_f, bd_nm, bd_tp, bd_nil, bd_cons, bdk, List.set_cons_zero, List.set_cons_succ, okL0, okL1, okL2, okL3, okL4, okL5, okL6, okL7, okL8, okL9, okL10, okL11, okL12, okL13, okL14, okL15, List.length_cons, List.length_nil, Nat.reduceAdd, Nat.zero_add, Nat.reduceLeDiff, Nat.reduceEqDiff, decide_true, decide_false, Bool.not_true, Bool.not_false, Bool.and_true, Bool.true_and, eq_self, List.cons_append, List.nil_append, pickL, List.map_cons, List.map_nil, ↓reduceIte, Bool.false_eq_true]
  obtain ⟨ρ9, S9, e9, x5', x8, rfl, rfl⟩ := loop_inv (t := .nm 5) (body := rowC) (fun ρ S => ∃ x5 x8, ρ = [some (.ref 0), some (.int (n : Int)), some (.tup vs), x3, some (.tup ws), x5, x6, some (.int (k : Int)), x8, none] ∧ S = l3 :: R) os
    [some (.ref 0), some (.int (n : Int)), some (.tup vs), x3, some (.tup ws), x5, x6, some (.int (k : Int)), some (.tup ((vs.take k ++ [D.tup [.int 1, .int 0]]) ++ vs.drop (k + 1))), none] (l3 :: R) ⟨_, _, rfl, rfl⟩ (by
      intro d hd ρ S ⟨x5, x8, e1, e2⟩
      subst e1 e2
      exact ⟨_, rfl, _, _, D8 d hd x5 x8, some d, _, rfl, rfl⟩)
  simp -implicitDefEqProofs only [e6, sl_to, sl_from1, add_tup (a1 (D.tup [.int 1, .int 0])), add_tup (a2 (D.tup [.int 1, .int 0])), ok_row (n := (n : Int)) (pl3 (D.tup [.int 1, .int 0]) rfl) hS2, ok_fill (n := (n : Int)) (pl3 (D.tup [.int 1, .int 0]) rfl) hS2, r1, r2, ok_is, ix_tup eat, e7, e9, r_dB, bind_ok, bind_ex, r_var, vk_some, List.getD_cons_zero, List.getD_cons_succ, r_dC, r_dOp, r_dUn, r_dTst, r_tst, r_dTru, r_optB, r_trub, r_truT, r_dNotT, r_dAndT, r_dOrT, r_dNot, r_dAnd, r_dOr, r_and1, r_and0, r_or1, r_or0, r_andb, r_orb, r_iteb, r_iteb2, r_raise, ix0, ix1, r_sSetIx, fl0, fl1, fl2, fl3, fs0, fs1, fs2, fs0, r_dIf, r_aNil, r_aCons, gd_t, r_dTup, r_dLst, r_dLstM, r_dSl, r_dNoP, r_dP, r_pK, r_dCB, r_dCall, r_dCallK, r_sSeq, sq_nx, sq_rt, sq_ex, sb_ok, sb_ex, r_sNil, r_sRet, r_sExpr, r_sIf, r_sSet, r_sPar, r_sAsg, r_asg, r_sFor, fn_rt, fn_nx, fn_ex, r_dIt, it_tup, it_lst, eq_int, eq_bl, eq_str, ne_str, cmp_int, add_int, sub_int, neg_int, len_tup, len_lst, tuple_lst, list_tup, i2_int, int_int, if_t, if_f, bd_nm, bd_tp, bd_nil, bd_cons, bdk, List.set_cons_zero, List.set_cons_succ, okL0, okL1, okL2, okL3, okL4, okL5, okL6, okL7, okL8, okL9, okL10, okL11, okL12, okL13, okL14, okL15, List.length_cons, List.length_nil, Nat.reduceAdd, Nat.zero_add, Nat.reduceLeDiff, Nat.reduceEqDiff, decide_true, decide_false, Bool.not_true, Bool.not_false, Bool.and_true, Bool.true_and, eq_self, List.cons_append, List.nil_append, pickL, List.map_cons, List.map_nil, ↓reduceIte, Bool.false_eq_true]
  exact ⟨l3, rfl, f3⟩
theorem rows_true {l : List D} (h : Fl l) {R : Sto} (hR : SL R) : ∃ l', F__law_rows_hold [.ref 0] (l :: R) = .ok (.bl true) (l' :: R) ∧ Fl l' := by
  show ∃ l', fnRes (b__law_rows_hold [some (.ref 0), none, none, none, none, none, none, none, none, none] (l :: R)) = _ ∧ _
  rw [rows_split]
  obtain ⟨r, l1, e1, f1, a1, a2⟩ := draw_ok h (m := 7) (by decide) (by decide) R
  obtain ⟨s, l2, e2, f2, b1, b2⟩ := draw_ok f1 (m := 8) (by decide) (by decide) R
  simp -implicitDefEqProofs only [e1, e2, r_dB, bind_ok, bind_ex, r_var, vk_some, List.getD_cons_zero, List.getD_cons_succ, r_dC, r_dOp, r_dUn, r_dTst, r_tst, r_dTru, r_optB, r_trub, r_truT, r_dNotT, r_dAndT, r_dOrT, r_dNot, r_dAnd, r_dOr, r_and1, r_and0, r_or1, r_or0, r_andb, r_orb, r_iteb, r_iteb2, r_raise, ix0, ix1, r_sSetIx, fl0, fl1, fl2, fl3, fs0, fs1, fs2, fs0, r_dIf, r_aNil, r_aCons, gd_t, r_dTup, r_dLst, r_dLstM, r_dSl, r_dNoP, r_dP, r_pK, r_dCB, r_dCall, r_dCallK, r_sSeq, sq_nx, sq_rt, sq_ex, sb_ok, sb_ex, r_sNil, r_sRet, r_sExpr, r_sIf, r_sSet, r_sPar, r_sAsg, r_asg, r_sFor, fn_rt, fn_nx, fn_ex, r_dIt, it_tup, it_lst, eq_int, eq_bl, eq_str, ne_str, cmp_int, add_int, sub_int, neg_int, len_tup, len_lst, tuple_lst, list_tup, i2_int, int_int, if_t, if_f, bd_nm, bd_tp, bd_nil, bd_cons, bdk, List.set_cons_zero, List.set_cons_succ, okL0, okL1, okL2, okL3, okL4, okL5, okL6, okL7, okL8, okL9, okL10, okL11, okL12, okL13, okL14, okL15, List.length_cons, List.length_nil, Nat.reduceAdd, Nat.zero_add, Nat.reduceLeDiff, Nat.reduceEqDiff, decide_true, decide_false, Bool.not_true, Bool.not_false, Bool.and_true, Bool.true_and, eq_self, List.cons_append, List.nil_append, pickL, List.map_cons, List.map_nil, ↓reduceIte, Bool.false_eq_true]
  cases decide (s = 5) with
  | true =>
    obtain ⟨k, l3, e3, f3, c1, c2⟩ := draw_ok f2 (m := 3) (by decide) (by decide) R
    simp -implicitDefEqProofs only [e3, r_dB, bind_ok, bind_ex, r_var, vk_some, List.getD_cons_zero, List.getD_cons_succ, r_dC, r_dOp, r_dUn, r_dTst, r_tst, r_dTru, r_optB, r_trub, r_truT, r_dNotT, r_dAndT, r_dOrT, r_dNot, r_dAnd, r_dOr, r_and1, r_and0, r_or1, r_or0, r_andb, r_orb, r_iteb, r_iteb2, r_raise, ix0, ix1, r_sSetIx, fl0, fl1, fl2, fl3, fs0, fs1, fs2, fs0, r_dIf, r_aNil, r_aCons, gd_t, r_dTup, r_dLst, r_dLstM, r_dSl, r_dNoP, r_dP, r_pK, r_dCB, r_dCall, r_dCallK, r_sSeq, sq_nx, sq_rt, sq_ex, sb_ok, sb_ex, r_sNil, r_sRet, r_sExpr, r_sIf, r_sSet, r_sPar, r_sAsg, r_asg, r_sFor, fn_rt, fn_nx, fn_ex, r_dIt, it_tup, it_lst, eq_int, eq_bl, eq_str, ne_str, cmp_int, add_int, sub_int, neg_int, len_tup, len_lst, tuple_lst, list_tup, i2_int, int_int, if_t, if_f, bd_nm, bd_tp, bd_nil, bd_cons, bdk, List.set_cons_zero, List.set_cons_succ, okL0, okL1, okL2, okL3, okL4, okL5, okL6, okL7, okL8, okL9, okL10, okL11, okL12, okL13, okL14, okL15, List.length_cons, List.length_nil, Nat.reduceAdd, Nat.zero_add, Nat.reduceLeDiff, Nat.reduceEqDiff, decide_true, decide_false, Bool.not_true, Bool.not_false, Bool.and_true, Bool.true_and, eq_self, List.cons_append, List.nil_append, pickL, List.map_cons, List.map_nil, ↓reduceIte, Bool.false_eq_true]
    obtain ⟨k, rfl⟩ := Int.eq_ofNat_of_zero_le c1
    exact rows_core f3 hR (n := 17 + k) (by omega)
  | false =>
    simp -implicitDefEqProofs only [r_dB, bind_ok, bind_ex, r_var, vk_some, List.getD_cons_zero, List.getD_cons_succ, r_dC, r_dOp, r_dUn, r_dTst, r_tst, r_dTru, r_optB, r_trub, r_truT, r_dNotT, r_dAndT, r_dOrT, r_dNot, r_dAnd, r_dOr, r_and1, r_and0, r_or1, r_or0, r_andb, r_orb, r_iteb, r_iteb2, r_raise, ix0, ix1, r_sSetIx, fl0, fl1, fl2, fl3, fs0, fs1, fs2, fs0, r_dIf, r_aNil, r_aCons, gd_t, r_dTup, r_dLst, r_dLstM, r_dSl, r_dNoP, r_dP, r_pK, r_dCB, r_dCall, r_dCallK, r_sSeq, sq_nx, sq_rt, sq_ex, sb_ok, sb_ex, r_sNil, r_sRet, r_sExpr, r_sIf, r_sSet, r_sPar, r_sAsg, r_asg, r_sFor, fn_rt, fn_nx, fn_ex, r_dIt, it_tup, it_lst, eq_int, eq_bl, eq_str, ne_str, cmp_int, add_int, sub_int, neg_int, len_tup, len_lst, tuple_lst, list_tup, i2_int, int_int, if_t, if_f, bd_nm, bd_tp, bd_nil, bd_cons, bdk, List.set_cons_zero, List.set_cons_succ, okL0, okL1, okL2, okL3, okL4, okL5, okL6, okL7, okL8, okL9, okL10, okL11, okL12, okL13, okL14, okL15, List.length_cons, List.length_nil, Nat.reduceAdd, Nat.zero_add, Nat.reduceLeDiff, Nat.reduceEqDiff, decide_true, decide_false, Bool.not_true, Bool.not_false, Bool.and_true, Bool.true_and, eq_self, List.cons_append, List.nil_append, pickL, List.map_cons, List.map_nil, ↓reduceIte, Bool.false_eq_true]
    obtain ⟨k, rfl⟩ := Int.eq_ofNat_of_zero_le a1
    exact rows_core f2 hR (n := k) (by omega)
end k00

set_option Elab.async false
set_option linter.all false
set_option maxRecDepth 100000
set_option maxHeartbeats 1000000
namespace k00
open PySem DE
noncomputable def badB : Dn := (sExpr (dApp (dV 3) (dOp oAdd (dOp oAdd (dSl (dV 1) dNoP (dP (dV 2))) (dTup (aCons (dV 4) aNil))) (dSl (dV 1) (dP (dOp oAdd (dV 2) (dC (.int 1)))) dNoP))))
noncomputable def deeA : Dn := (sIf (dNotT (dAndT (dTru (dCall 2 F__law_is (aCons (dCall 2 F_is_deed (aCons (dV 1) (aCons (dTup (aCons (dV 5) (aCons (dV 3) aNil))) aNil))) (aCons (dC (.bl false)) aNil)))) (dTru (dCall 2 F__law_is (aCons (dCall 2 F_is_deed (aCons (dV 1) (aCons (dTup (aCons (dV 2) (aCons (dV 5) aNil))) aNil))) (aCons (dC (.bl false)) aNil)))))) (sRet (dC (.bl false))) sNil)
noncomputable def deeB : Dn := (sIf (dNotT (dTru (dCall 2 F__law_is (aCons (dCallK 0 2 [1, 0] F_is_deed aNil (aCons (dV 5) (aCons (dV 1) aNil))) (aCons (dC (.bl false)) aNil))))) (sRet (dC (.bl false))) sNil)
theorem bad_split : b__law_bad_numbers = (sSeq (sSet 2 (dCall 2 F__law_draw (aCons (dV 0) (aCons (dCB oLen (aCons (dV 1) aNil)) aNil))))
  (sSeq (sSet 3 (dLstM (aCons (dCB oList (aCons (dV 1) aNil)) (aCons (dOp oAdd (dV 1) (dTup (aCons (dC (.int 0)) aNil))) (aCons (dSl (dV 1) dNoP (dP (dOp oSub (dCB oLen (aCons (dV 1) aNil)) (dC (.int 1))))) (aCons (dC .non) (aCons (dOp oRepS (dC (.str "0")) (dCB oLen (aCons (dV 1) aNil))) (aCons (dC (.int 0)) (aCons (dOp oAdd (dTup (aCons (dV 1) aNil)) (dV 1)) aNil)))))))))
  (sSeq (sFor (dIt (dLst (aCons (dUn oNeg (dC (.int 1))) (aCons (dC (.bl true)) (aCons (dC (.bl false)) (aCons (dC .non) (aCons (dC (.str "1")) (aCons (dTup (aCons (dC (.int 0)) aNil)) (aCons (dLst (aCons (dC (.int 1)) aNil)) aNil))))))))) (.nm 4) badB)
  (sRet (dV 3))))) := rfl
theorem dee_split : b__law_deeds_hold = (sSeq (sSet 1 (dOp oAdd (dC (.int 1)) (dCall 2 F__law_draw (aCons (dV 0) (aCons (dC (.int 6)) aNil)))))
  (sSeq (sSet 2 (dCall 2 F__law_numbers (aCons (dV 0) (aCons (dV 1) aNil))))
  (sSeq (sSet 3 (dCall 2 F__law_numbers (aCons (dV 0) (aCons (dV 1) aNil))))
  (sSeq (sIf (dNotT (dAndT (dTru (dCall 2 F__law_is (aCons (dCall 2 F_is_deed (aCons (dV 1) (aCons (dTup (aCons (dV 2) (aCons (dV 3) aNil))) aNil))) (aCons (dC (.bl true)) aNil)))) (dTru (dCall 2 F__law_is (aCons (dCall 2 F_is_deed (aCons (dOp oAdd (dV 1) (dC (.int 1))) (aCons (dTup (aCons (dV 2) (aCons (dV 3) aNil))) aNil))) (aCons (dC (.bl false)) aNil)))))) (sRet (dC (.bl false))) sNil)
  (sSeq (sSet 4 (dCB oTuple (aCons (dLc finI (dRng1 (aCons (dV 1) aNil)) (.nm 6) dYes (dC (.int 0)) [6]) aNil)))
  (sSeq (sIf (dNotT (dAndT (dTru (dCall 2 F__law_is (aCons (dCallK 0 2 [0, 1] F_is_deed aNil (aCons (dV 1) (aCons (dTup (aCons (dV 4) (aCons (dV 4) aNil))) aNil))) (aCons (dC (.bl true)) aNil)))) (dTru (dCall 2 F__law_is (aCons (dCall 2 F_is_deed (aCons (dV 1) (aCons (dV 4) aNil))) (aCons (dC (.bl false)) aNil)))))) (sRet (dC (.bl false))) sNil)
  (sSeq (sFor (dIt (dCall 2 F__law_bad_numbers (aCons (dV 0) (aCons (dV 2) aNil)))) (.nm 5) deeA)
  (sSeq (sFor (dIt (dCall 2 F__law_no_pairs (aCons (dV 2) (aCons (dV 3) aNil)))) (.nm 5) deeB)
  (sRet (dC (.bl true))))))))))) := rfl

def repX (n : Int) : Str := if n < 1 then Str.empty else if (n == 1 || ("0" : Str).length == 0) = true then "0" else repS "0" n.toNat
theorem rep_ok {n : Int} {S : Sto} (h : 0 ≤ n) (h2 : n < 1000) : oRepS (.str "0") (.int n) S = .ok (.str (repX n)) S := by
  show guard (decide (("0" : Str).length ≤ 1000) && decide (-1000 < n) && decide (n < 1000)) _ = _
  rw [r_guard]
  · rfl
  · rw [decide_eq_true (show -1000 < n by omega), decide_eq_true h2]; decide
theorem sl_tom1 {l : List D} {S : Sto} (h : 1 ≤ l.length) : oSl (.tup l) none (some ((l.length : Int) - 1)) S = .ok (.tup (l.take (l.length - 1))) S := by
  rw [show (l.length : Int) - 1 = ((l.length - 1 : Nat) : Int) by omega]
  exact sl_to
/-- no amounts at size n -/
def BN (n : Nat) (d : D) : Prop := Pl d = true ∧ allT (n : Int) isN d = false
theorem gn_all {l : List D} (h : ∀ d ∈ l, GN d) (n : Int) : allT n isN (.tup l) = decide ((l.length : Int) = n) := allT_of (fun d m => (h d m).isN) n
theorem gn_tup {l : List D} (h : ∀ d ∈ l, GN d) (hl : l.length ≤ 1000) : Pl (.tup l) = true := pl_tup_of (fun d m => (h d m).pl) hl
theorem allT_len {l : List D} {n : Int} {p : D → Bool} (h : (l.length : Int) ≠ n) : allT n p (.tup l) = false := by
  show (decide ((l.length : Int) = n) && l.all p) = _
  rw [decide_eq_false h]; rfl
theorem bad_ok {l : List D} (h : Fl l) {R : Sto} (hR : SL R) {vs : List D} (hv : ∀ d ∈ vs, GN d) {n : Nat} (hl : vs.length = n) (h1 : 1 ≤ n) (h2 : n ≤ 20) : ∃ os l', F__law_bad_numbers [.ref 0, .tup vs] (l :: R) = .ok (.lst os) (l' :: R) ∧ Fl l' ∧ os.length = 14 ∧ ∀ d ∈ os, BN n d := by
  show ∃ os l', cutRes (l :: R).length (fnRes (b__law_bad_numbers [some (.ref 0), some (.tup vs), none, none, none] (l :: R))) = _ ∧ _
  rw [bad_split]
  obtain ⟨k, l1, e1, f1, k1, k2⟩ := draw_ok h (m := (vs.length : Int)) (by omega) (by omega) R
  obtain ⟨k, rfl⟩ := Int.eq_ofNat_of_zero_le k1
  have hk : k < vs.length := by omega
  have a0 : vs.length + [D.int 0].length ≤ 16777216 := by rw [hl, List.length_cons, List.length_nil]; omega
  have a1 : [D.tup vs].length + vs.length ≤ 16777216 := by rw [hl, List.length_cons, List.length_nil]; omega
  simp -implicitDefEqProofs only [e1, add_tup a0, add_tup a1, sl_tom1 (l := vs) (by omega), rep_ok (n := (vs.length : Int)) (by omega) (by omega), r_dB, bind_ok, bind_ex, r_var, vk_some, List.getD_cons_zero, List.getD_cons_succ, r_dC, r_dOp, r_dUn, r_dTst, r_tst, r_dTru, r_optB, r_trub, r_truT, r_dNotT, r_dAndT, r_dOrT, r_dNot, r_dAnd, r_dOr, r_and1, r_and0, r_or1, r_or0, r_andb, r_orb, r_iteb, r_iteb2, r_raise, ix0, ix1, r_sSetIx, fl0, fl1, fl2, fl3, fs0, fs1, fs2, fs0, r_dIf, r_aNil, r_aCons, gd_t, r_dTup, r_dLst, r_dLstM, r_dSl, r_dNoP, r_dP, r_pK, r_dCB, r_dCall, r_dCallK, r_sSeq, sq_nx, sq_rt, sq_ex, sb_ok, sb_ex, r_sNil, r_sRet, r_sExpr, r_sIf, r_sSet, r_sPar, r_sAsg, r_asg, r_sFor, fn_rt, fn_nx, fn_ex, r_dIt, it_tup, it_lst, eq_int, eq_bl, eq_str, ne_str, cmp_int, add_int, sub_int, neg_int, len_tup, len_lst, tuple_lst, list_tup, i2_int, int_int, if_t, if_f, bd_nm, bd_tp, bd_nil, bd_cons, bdk, List.set_cons_zero, List.set_cons_succ, okL0, okL1, okL2, okL3, okL4, okL5, okL6, okL7, okL8, okL9, okL10, okL11, okL12, okL13, okL14, okL15, List.length_cons, List.length_nil, Nat.reduceAdd, Nat.zero_add, Nat.reduceLeDiff, Nat.reduceEqDiff, decide_true, decide_false, Bool.not_true, Bool.not_false, Bool.and_true, Bool.true_and, eq_self, List.cons_append, List.nil_append, pickL, List.map_cons, List.map_nil, ↓reduceIte, Bool.false_eq_true]
  have pv : ∀ d ∈ vs, Pl d = true := fun d m => (hv d m).pl
  -- the seven ready ones
  have base : ∀ d ∈ [D.lst vs, .tup (vs ++ [.int 0]), .tup (vs.take (vs.length - 1)), .non, .str (repX (vs.length : Int)), .int 0, .tup ([D.tup vs] ++ vs)], BN n d := by
    intro d hd
    simp only [List.mem_cons, List.not_mem_nil, or_false] at hd
    rcases hd with rfl | rfl | rfl | rfl | rfl | rfl | rfl
    · exact ⟨pl_lst_of pv (by omega), rfl⟩
    · refine ⟨pl_tup_of (fun d m => ?_) (by rw [List.length_append, hl, List.length_cons, List.length_nil]; omega), allT_len (by rw [List.length_append, hl, List.length_cons, List.length_nil]; omega)⟩
      rcases List.mem_append.mp m with m | m
      · exact pv d m
      · rw [List.mem_singleton.mp m]; rfl
    · exact ⟨pl_tup_of (fun d m => pv d (List.mem_of_mem_take m)) (by rw [List.length_take]; omega), allT_len (by rw [List.length_take]; omega)⟩
    · exact ⟨rfl, rfl⟩
    · exact ⟨rfl, rfl⟩
    · exact ⟨rfl, rfl⟩
    · refine ⟨pl_tup_of (fun d m => ?_) (by rw [List.length_append, hl, List.length_cons, List.length_nil]; omega), allT_len (by rw [List.length_append, hl, List.length_cons, List.length_nil]; omega)⟩
      rcases List.mem_append.mp m with m | m
      · rw [List.mem_singleton.mp m]; exact gn_tup hv (by omega)
      · exact pv d m
  have len3 : ∀ x : D, ((vs.take k ++ [x]) ++ vs.drop (k + 1)).length = n := fun x => by simp; omega
  have b1 : ∀ x : D, (vs.take k).length + [x].length ≤ 16777216 := fun x => by simp; omega
  have b2 : ∀ x : D, (vs.take k ++ [x]).length + (vs.drop (k + 1)).length ≤ 16777216 := fun x => by
    have := len3 x
    rw [List.length_append] at this
    omega
  have rep : ∀ x : D, Pl x = true → isN x = false → BN n (.tup ((vs.take k ++ [x]) ++ vs.drop (k + 1))) := fun x hx hn => ⟨pl_tup_of (fun d m => by
    rcases List.mem_append.mp m with m | m
    · rcases List.mem_append.mp m with m | m
      · exact pv d (List.mem_of_mem_take m)
      · rw [List.mem_singleton.mp m]; exact hx
    · exact pv d (List.mem_of_mem_drop m)) (by rw [len3]; omega), allT_no (d := x) (by simp) hn _⟩
  generalize hos : [D.lst vs, .tup (vs ++ [.int 0]), .tup (vs.take (vs.length - 1)), .non, .str (repX (vs.length : Int)), .int 0, .tup ([D.tup vs] ++ vs)] = os0 at base
  have hos' : [D.lst vs, .tup (vs ++ [.int 0]), .tup (vs.take (vs.length - 1)), .non, .str (repX (vs.length : Int)), .int 0, .tup (D.tup vs :: vs)] = os0 := hos
  have lo : os0.length = 7 := by rw [← hos]; rfl
  rw [hos']
  obtain ⟨ρ2, S2, e2, os, x4, rfl, rfl, hlo, ho⟩ := loop_num (t := .nm 4) (body := badB) (fun j ρ S => ∃ os x4, ρ = [some (.ref 0), some (.tup vs), some (.int (k : Int)), some (.ref (R.length + 1)), x4] ∧ S = l1 :: (R ++ [os]) ∧ os.length = 7 + j ∧ ∀ d ∈ os, BN n d)
    [.int (-1), .bl true, .bl false, .non, .str "1", .tup [.int 0], .lst [.int 1]] [.int (-1), .bl true, .bl false, .non, .str "1", .tup [.int 0], .lst [.int 1]] 0 [some (.ref 0), some (.tup vs), some (.int (k : Int)), some (.ref (R.length + 1)), none] (l1 :: (R ++ [os0])) ⟨os0, none, rfl, rfl, lo, base⟩ (by
      intro i d hd ρ S ⟨os, x4, e1, e2, q1, q2⟩
      subst e1 e2
      have hx : Pl d = true ∧ isN d = false := by
        have m := List.mem_of_getElem? hd
        simp only [List.mem_cons, List.not_mem_nil, or_false] at m
        rcases m with rfl | rfl | rfl | rfl | rfl | rfl | rfl <;> exact ⟨rfl, rfl⟩
      have hi : i < 7 := by
        have := (List.getElem?_eq_some_iff.mp hd).1
        simpa using this
      refine ⟨_, rfl, _, _, ?_, os ++ [.tup ((vs.take k ++ [d]) ++ vs.drop (k + 1))], some d, rfl, rfl, by rw [List.length_append, q1, List.length_cons, List.length_nil]; omega, fun w hw => ?_⟩
      · show badB [some (.ref 0), some (.tup vs), some (.int (k : Int)), some (.ref (R.length + 1)), some d] (l1 :: (R ++ [os])) = _
        unfold badB
        rw [r_sExpr, r_dApp]
        simp -implicitDefEqProofs only [r_dB, bind_ok, bind_ex, r_var, vk_some, List.getD_cons_zero, List.getD_cons_succ, r_dC, r_dOp, r_dUn, r_dTst, r_tst, r_dTru, r_optB, r_trub, r_truT, r_dNotT, r_dAndT, r_dOrT, r_dNot, r_dAnd, r_dOr, r_and1, r_and0, r_or1, r_or0, r_andb, r_orb, r_iteb, r_iteb2, r_raise, ix0, ix1, r_sSetIx, fl0, fl1, fl2, fl3, fs0, fs1, fs2, fs0, r_dIf, r_aNil, r_aCons, gd_t, r_dTup, r_dLst, r_dLstM, r_dSl, r_dNoP, r_dP, r_pK, r_dCB, r_dCall, r_dCallK, r_sSeq, sq_nx, sq_rt, sq_ex, sb_ok, sb_ex, r_sNil, r_sRet, r_sExpr, r_sIf, r_sSet, r_sPar, r_sAsg, r_asg, r_sFor, fn_rt, fn_nx, fn_ex, r_dIt, it_tup, it_lst, eq_int, eq_bl, eq_str, ne_str, cmp_int, add_int, sub_int, neg_int, len_tup, len_lst, tuple_lst, list_tup, i2_int, int_int, if_t, if_f, bd_nm, bd_tp, bd_nil, bd_cons, bdk, List.set_cons_zero, List.set_cons_succ, okL0, okL1, okL2, okL3, okL4, okL5, okL6, okL7, okL8, okL9, okL10, okL11, okL12, okL13, okL14, okL15, List.length_cons, List.length_nil, Nat.reduceAdd, Nat.zero_add, Nat.reduceLeDiff, Nat.reduceEqDiff, decide_true, decide_false, Bool.not_true, Bool.not_false, Bool.and_true, Bool.true_and, eq_self, List.cons_append, List.nil_append, pickL, List.map_cons, List.map_nil, ↓reduceIte, Bool.false_eq_true]
        rw [app_ok (d := .tup ((vs.take k ++ [d]) ++ vs.drop (k + 1))) (S2 := l1 :: (R ++ [os])) (by simp -implicitDefEqProofs only [sl_to, sl_from1, add_tup (b1 d), add_tup (b2 d), r_dB, bind_ok, bind_ex, r_var, vk_some, List.getD_cons_zero, List.getD_cons_succ, r_dC, r_dOp, r_dUn, r_dTst, r_tst, r_dTru, r_optB, r_trub, r_truT, r_dNotT, r_dAndT, r_dOrT, r_dNot, r_dAnd, r_dOr, r_and1, r_and0, r_or1, r_or0, r_andb, r_orb, r_iteb, r_iteb2, r_raise, ix0, ix1, r_sSetIx, fl0, fl1, fl2, fl3, fs0, fs1, fs2, fs0, r_dIf, r_aNil, r_aCons, gd_t, r_dTup, r_dLst, r_dLstM, r_dSl, r_dNoP, r_dP, r_pK, r_dCB, r_dCall, r_dCallK, r_sSeq, sq_nx, sq_rt, sq_ex, sb_ok, sb_ex, r_sNil, r_sRet, r_sExpr, r_sIf, r_sSet, r_sPar, r_sAsg, r_asg, r_sFor, fn_rt, fn_nx, fn_ex, r_dIt, it_tup, it_lst, eq_int, eq_bl, eq_str, ne_str, cmp_int, add_int, sub_int, neg_int, len_tup, len_lst, tuple_lst, list_tup, i2_int, int_int, if_t, if_f, bd_nm, bd_tp, bd_nil, bd_cons, bdk, List.set_cons_zero, List.set_cons_succ, okL0, okL1, okL2, okL3, okL4, okL5, okL6, okL7, okL8, okL9, okL10, okL11, okL12, okL13, okL14, okL15, List.length_cons, List.length_nil, Nat.reduceAdd, Nat.zero_add, Nat.reduceLeDiff, Nat.reduceEqDiff, decide_true, decide_false, Bool.not_true, Bool.not_false, Bool.and_true, Bool.true_and, eq_self, List.cons_append, List.nil_append, pickL, List.map_cons, List.map_nil, ↓reduceIte, Bool.false_eq_true]) (by simp) snoc_get (by omega), snoc_set]
        rfl
      · rcases List.mem_append.mp hw with hw | hw
        · exact q2 w hw
        · rw [List.mem_singleton.mp hw]; exact rep d hx.1 hx.2)
  simp -implicitDefEqProofs only [e2, r_dB, bind_ok, bind_ex, r_var, vk_some, List.getD_cons_zero, List.getD_cons_succ, r_dC, r_dOp, r_dUn, r_dTst, r_tst, r_dTru, r_optB, r_trub, r_truT, r_dNotT, r_dAndT, r_dOrT, r_dNot, r_dAnd, r_dOr, r_and1, r_and0, r_or1, r_or0, r_andb, r_orb, r_iteb, r_iteb2, r_raise, ix0, ix1, r_sSetIx, fl0, fl1, fl2, fl3, fs0, fs1, fs2, fs0, r_dIf, r_aNil, r_aCons, gd_t, r_dTup, r_dLst, r_dLstM, r_dSl, r_dNoP, r_dP, r_pK, r_dCB, r_dCall, r_dCallK, r_sSeq, sq_nx, sq_rt, sq_ex, sb_ok, sb_ex, r_sNil, r_sRet, r_sExpr, r_sIf, r_sSet, r_sPar, r_sAsg, r_asg, r_sFor, fn_rt, fn_nx, fn_ex, r_dIt, it_tup, it_lst, eq_int, eq_bl, eq_str, ne_str, cmp_int, add_int, sub_int, neg_int, len_tup, len_lst, tuple_lst, list_tup, i2_int, int_int, if_t, if_f, bd_nm, bd_tp, bd_nil, bd_cons, bdk, List.set_cons_zero, List.set_cons_succ, okL0, okL1, okL2, okL3, okL4, okL5, okL6, okL7, okL8, okL9, okL10, okL11, okL12, okL13, okL14, okL15, List.length_cons, List.length_nil, Nat.reduceAdd, Nat.zero_add, Nat.reduceLeDiff, Nat.reduceEqDiff, decide_true, decide_false, Bool.not_true, Bool.not_false, Bool.and_true, Bool.true_and, eq_self, List.cons_append, List.nil_append, pickL, List.map_cons, List.map_nil, ↓reduceIte, Bool.false_eq_true]
  have ek : (l1 :: (R ++ [os])).take (R.length + 1) = l1 :: R := by simp
  rw [cut_ref (k := R.length + 1) (n := R.length + 1) (by omega) snoc_get (pls_of fun d m => (ho d m).1) (by rw [ek]; exact f1.sl hR), ek]
  exact ⟨os, l1, rfl, f1, hlo, ho⟩
end k00

set_option Elab.async false
set_option linter.all false
set_option maxRecDepth 100000
set_option maxHeartbeats 1000000
namespace k00
open PySem DE
def noPs (t g : D) : List D := [.lst [t, g], .tup [t], .tup [t, g, t], .non, .str "ab", .tup [], .int 2, .lst [.tup [t, g]], .str "0 > 1"]
theorem nopairs_ok {t g : D} {S : Sto} : F__law_no_pairs [t, g] S = .ok (.lst (noPs t g)) S := by
  show fnRes (b__law_no_pairs [some t, some g] S) = _
  unfold b__law_no_pairs
  simp -implicitDefEqProofs only [r_dB, bind_ok, bind_ex, r_var, vk_some, List.getD_cons_zero, List.getD_cons_succ, r_dC, r_dOp, r_dUn, r_dTst, r_tst, r_dTru, r_optB, r_trub, r_truT, r_dNotT, r_dAndT, r_dOrT, r_dNot, r_dAnd, r_dOr, r_and1, r_and0, r_or1, r_or0, r_andb, r_orb, r_iteb, r_iteb2, r_raise, ix0, ix1, r_sSetIx, fl0, fl1, fl2, fl3, fs0, fs1, fs2, fs0, r_dIf, r_aNil, r_aCons, gd_t, r_dTup, r_dLst, r_dLstM, r_dSl, r_dNoP, r_dP, r_pK, r_dCB, r_dCall, r_dCallK, r_sSeq, sq_nx, sq_rt, sq_ex, sb_ok, sb_ex, r_sNil, r_sRet, r_sExpr, r_sIf, r_sSet, r_sPar, r_sAsg, r_asg, r_sFor, fn_rt, fn_nx, fn_ex, r_dIt, it_tup, it_lst, eq_int, eq_bl, eq_str, ne_str, cmp_int, add_int, sub_int, neg_int, len_tup, len_lst, tuple_lst, list_tup, i2_int, int_int, if_t, if_f, bd_nm, bd_tp, bd_nil, bd_cons, bdk, List.set_cons_zero, List.set_cons_succ, okL0, okL1, okL2, okL3, okL4, okL5, okL6, okL7, okL8, okL9, okL10, okL11, okL12, okL13, okL14, okL15, List.length_cons, List.length_nil, Nat.reduceAdd, Nat.zero_add, Nat.reduceLeDiff, Nat.reduceEqDiff, decide_true, decide_false, Bool.not_true, Bool.not_false, Bool.and_true, Bool.true_and, eq_self, List.cons_append, List.nil_append, pickL, List.map_cons, List.map_nil, ↓reduceIte, Bool.false_eq_true]
  rfl
theorem nopairs_bad {t g : D} (ht : Pl t = true) (hg : Pl g = true) : ∀ d ∈ noPs t g, Pl d = true ∧ isPair d = false := by
  intro d hd
  unfold noPs at hd
  simp only [List.mem_cons, List.not_mem_nil, or_false] at hd
  rcases hd with rfl | rfl | rfl | rfl | rfl | rfl | rfl | rfl | rfl
  all_goals first | exact ⟨rfl, rfl⟩ | (refine ⟨?_, rfl⟩; simp [Pl, Pls, ht, hg])
theorem notPair_deed {n : Int} {d : D} (h : isPair d = false) : isDeed n d = false := by
  cases d with
  | tup l =>
    match l, h with
    | [], _ => rfl
    | [a], _ => rfl
    | [a, b], h => cases h
    | a :: b :: c :: r, _ => rfl
  | _ => rfl
theorem deeds_true {l : List D} (h : Fl l) {R : Sto} (hR : SL R) : ∃ l', F__law_deeds_hold [.ref 0] (l :: R) = .ok (.bl true) (l' :: R) ∧ Fl l' := by
  show ∃ l', fnRes (b__law_deeds_hold [some (.ref 0), none, none, none, none, none, none] (l :: R)) = _ ∧ _
  rw [dee_split]
  obtain ⟨r, l1, e1, f1, a1, a2⟩ := draw_ok h (m := 6) (by decide) (by decide) R
  obtain ⟨r, rfl⟩ := Int.eq_ofNat_of_zero_le a1
  have hr : r < 6 := by omega
  obtain ⟨n, hn⟩ : ∃ n : Nat, n = 1 + r := ⟨_, rfl⟩
  have en : (1 : Int) + (r : Int) = (n : Int) := by omega
  obtain ⟨vs, l2, e2, f2, hl2, hv⟩ := numbers_ok f1 (n := n) (by omega) hR
  obtain ⟨ws, l3, e3, f3, hl3, hw⟩ := numbers_ok f2 (n := n) (by omega) hR
  have hS := f3.sl hR
  have pv := gn_tup hv (by omega)
  have pw := gn_tup hw (by omega)
  have tv : ∀ m : Int, allT m isN (.tup vs) = decide ((n : Int) = m) := fun m => by rw [gn_all hv, hl2]
  have tw : ∀ m : Int, allT m isN (.tup ws) = decide ((n : Int) = m) := fun m => by rw [gn_all hw, hl3]
  have pd : ∀ {x y : D}, Pl x = true → Pl y = true → Pl (.tup [x, y]) = true := fun hx hy => by simp [Pl, Pls, hx, hy]
  have d1 : isDeed (n : Int) (.tup [.tup vs, .tup ws]) = true := by
    show (allT (n : Int) isN (.tup vs) && allT (n : Int) isN (.tup ws)) = true
    rw [tv, tw, decide_eq_true rfl]; rfl
  have d2 : isDeed ((n : Int) + 1) (.tup [.tup vs, .tup ws]) = false := by
    show (allT ((n : Int) + 1) isN (.tup vs) && allT ((n : Int) + 1) isN (.tup ws)) = false
    rw [tv, decide_eq_false (by omega)]; rfl
  simp -implicitDefEqProofs only [e1, en, e2, e3, ok_deed (n := (n : Int)) (pd pv pw) hS, ok_deed (n := (n : Int) + 1) (pd pv pw) hS, d1, d2, ok_is, r_dB, bind_ok, bind_ex, r_var, vk_some, List.getD_cons_zero, List.getD_cons_succ, r_dC, r_dOp, r_dUn, r_dTst, r_tst, r_dTru, r_optB, r_trub, r_truT, r_dNotT, r_dAndT, r_dOrT, r_dNot, r_dAnd, r_dOr, r_and1, r_and0, r_or1, r_or0, r_andb, r_orb, r_iteb, r_iteb2, r_raise, ix0, ix1, r_sSetIx, fl0, fl1, fl2, fl3, fs0, fs1, fs2, fs0, r_dIf, r_aNil, r_aCons, gd_t, r_dTup, r_dLst, r_dLstM, r_dSl, r_dNoP, r_dP, r_pK, r_dCB, r_dCall, r_dCallK, r_sSeq, sq_nx, sq_rt, sq_ex, sb_ok, sb_ex, r_sNil, r_sRet, r_sExpr, r_sIf, r_sSet, r_sPar, r_sAsg, r_asg, r_sFor, fn_rt, fn_nx, fn_ex, r_dIt, it_tup, it_lst, eq_int, eq_bl, eq_str, ne_str, cmp_int, add_int, sub_int, neg_int, len_tup, len_lst, tuple_lst, list_tup, i2_int, int_int, if_t, if_f, bd_nm, bd_tp, bd_nil, bd_cons, bdk, List.set_cons_zero, List.set_cons_succ, okL0, okL1, okL2, okL3, okL4, okL5, okL6, okL7, okL8, okL9, okL10, okL11, okL12, okL13, okL14, okL15, List.length_cons, List.length_nil, Nat.reduceAdd, Nat.zero_add, Nat.reduceLeDiff, Nat.reduceEqDiff, decide_true, decide_false, Bool.not_true, Bool.not_false, Bool.and_true, Bool.true_and, eq_self, List.cons_append, List.nil_append, pickL, List.map_cons, List.map_nil, ↓reduceIte, Bool.false_eq_true]
  -- nothing
  have er : dRng1 (aCons (dV 1) aNil) [some (.ref 0), some (.int (n : Int)), some (.tup vs), some (.tup ws), none, none, none] (l3 :: R) = .ok (rngD 0 (n : Int), none) (l3 :: R) := rng_run rfl (by omega)
  have e4 := dLc_map (t := .nm 6) (fe := dC (.int 0)) (fi := dRng1 (aCons (dV 1) aNil)) (own := [6]) (fun _ => D.int 0) er (by rw [rng_len]; omega) (hS.low _) (fun _ _ => rfl) (fun d _ => ⟨_, rfl, fun acc _ => rfl⟩)
  generalize hz : (rngD 0 (n : Int)).map (fun _ => D.int 0) = zs at e4
  have hzs : ∀ d ∈ zs, GN d := fun d m => by
    rw [← hz] at m
    obtain ⟨_, _, rfl⟩ := List.mem_map.mp m
    exact ⟨0, rfl, by decide, by decide⟩
  have lz : zs.length = n := by rw [← hz, List.length_map, rng_len]
  have pz := gn_tup hzs (by omega)
  have tz : ∀ m : Int, allT m isN (.tup zs) = decide ((n : Int) = m) := fun m => by rw [gn_all hzs, lz]
  have d3 : isDeed (n : Int) (.tup [.tup zs, .tup zs]) = true := by
    show (allT (n : Int) isN (.tup zs) && allT (n : Int) isN (.tup zs)) = true
    rw [tz, decide_eq_true rfl]; rfl
  have d4 : isDeed (n : Int) (.tup zs) = false := by
    match zs, hzs with
    | [], _ => rfl
    | [a], _ => rfl
    | [a, b], h =>
      obtain ⟨i, rfl, _⟩ := h a (by simp)
      rfl
    | a :: b :: c :: r, _ => rfl
  simp -implicitDefEqProofs only [e4, ok_deed (n := (n : Int)) (pd pz pz) hS, ok_deed (n := (n : Int)) pz hS, d3, d4, ok_is, r_dB, bind_ok, bind_ex, r_var, vk_some, List.getD_cons_zero, List.getD_cons_succ, r_dC, r_dOp, r_dUn, r_dTst, r_tst, r_dTru, r_optB, r_trub, r_truT, r_dNotT, r_dAndT, r_dOrT, r_dNot, r_dAnd, r_dOr, r_and1, r_and0, r_or1, r_or0, r_andb, r_orb, r_iteb, r_iteb2, r_raise, ix0, ix1, r_sSetIx, fl0, fl1, fl2, fl3, fs0, fs1, fs2, fs0, r_dIf, r_aNil, r_aCons, gd_t, r_dTup, r_dLst, r_dLstM, r_dSl, r_dNoP, r_dP, r_pK, r_dCB, r_dCall, r_dCallK, r_sSeq, sq_nx, sq_rt, sq_ex, sb_ok, sb_ex, r_sNil, r_sRet, r_sExpr, r_sIf, r_sSet, r_sPar, r_sAsg, r_asg, r_sFor, fn_rt, fn_nx, fn_ex, r_dIt, it_tup, it_lst, eq_int, eq_bl, eq_str, ne_str, cmp_int, add_int, sub_int, neg_int, len_tup, len_lst, tuple_lst, list_tup, i2_int, int_int, if_t, if_f, bd_nm, bd_tp, bd_nil, bd_cons, bdk, List.set_cons_zero, List.set_cons_succ, okL0, okL1, okL2, okL3, okL4, okL5, okL6, okL7, okL8, okL9, okL10, okL11, okL12, okL13, okL14, okL15, List.length_cons, List.length_nil, Nat.reduceAdd, Nat.zero_add, Nat.reduceLeDiff, Nat.reduceEqDiff, decide_true, decide_false, Bool.not_true, Bool.not_false, Bool.and_true, Bool.true_and, eq_self, List.cons_append, List.nil_append, pickL, List.map_cons, List.map_nil, ↓reduceIte, Bool.false_eq_true]
  -- bad amounts
  obtain ⟨os, l4, e5, f4, lo, ho⟩ := bad_ok f3 hR hv hl2 (by omega) (by omega)
  have hS4 := f4.sl hR
  simp -implicitDefEqProofs only [e5, r_dB, bind_ok, bind_ex, r_var, vk_some, List.getD_cons_zero, List.getD_cons_succ, r_dC, r_dOp, r_dUn, r_dTst, r_tst, r_dTru, r_optB, r_trub, r_truT, r_dNotT, r_dAndT, r_dOrT, r_dNot, r_dAnd, r_dOr, r_and1, r_and0, r_or1, r_or0, r_andb, r_orb, r_iteb, r_iteb2, r_raise, ix0, ix1, r_sSetIx, fl0, fl1, fl2, fl3, fs0, fs1, fs2, fs0, r_dIf, r_aNil, r_aCons, gd_t, r_dTup, r_dLst, r_dLstM, r_dSl, r_dNoP, r_dP, r_pK, r_dCB, r_dCall, r_dCallK, r_sSeq, sq_nx, sq_rt, sq_ex, sb_ok, sb_ex, r_sNil, r_sRet, r_sExpr, r_sIf, r_sSet, r_sPar, r_sAsg, r_asg, r_sFor, fn_rt, fn_nx, fn_ex, r_dIt, it_tup, it_lst, eq_int, eq_bl, eq_str, ne_str, cmp_int, add_int, sub_int, neg_int, len_tup, len_lst, tuple_lst, list_tup, i2_int, int_int, if_t, if_f, bd_nm, bd_tp, bd_nil, bd_cons, bdk, List.set_cons_zero, List.set_cons_succ, okL0, okL1, okL2, okL3, okL4, okL5, okL6, okL7, okL8, okL9, okL10, okL11, okL12, okL13, okL14, okL15, List.length_cons, List.length_nil, Nat.reduceAdd, Nat.zero_add, Nat.reduceLeDiff, Nat.reduceEqDiff, decide_true, decide_false, Bool.not_true, Bool.not_false, Bool.and_true, Bool.true_and, eq_self, List.cons_append, List.nil_append, pickL, List.map_cons, List.map_nil, ↓reduceIte, Bool.false_eq_true]
  obtain ⟨x5, e6⟩ := loop_same' (j := 5) (ds := os) (ρ := [some (.ref 0), some (.int (n : Int)), some (.tup vs), some (.tup ws), some (.tup zs), none, none]) (S := l4 :: R) (body := deeA) (by
    intro d hd
    obtain ⟨q0, q1⟩ := ho d hd
    have s1 : isDeed (n : Int) (.tup [d, .tup ws]) = false := by
      show (allT (n : Int) isN d && _) = false
      rw [q1]; rfl
    have s2 : isDeed (n : Int) (.tup [.tup vs, d]) = false := by
      show (_ && allT (n : Int) isN d) = false
      rw [q1, Bool.and_false]
    unfold deeA
    simp -implicitDefEqProofs only [ok_deed (n := (n : Int)) (pd q0 pw) hS4, ok_deed (n := (n : Int)) (pd pv q0) hS4, s1, s2, ok_is, r_dB, bind_ok, bind_ex, r_var, vk_some, List.getD_cons_zero, List.getD_cons_succ, r_dC, r_dOp, r_dUn, r_dTst, r_tst, r_dTru, r_optB, r_trub, r_truT, r_dNotT, r_dAndT, r_dOrT, r_dNot, r_dAnd, r_dOr, r_and1, r_and0, r_or1, r_or0, r_andb, r_orb, r_iteb, r_iteb2, r_raise, ix0, ix1, r_sSetIx, fl0, fl1, fl2, fl3, fs0, fs1, fs2, fs0, r_dIf, r_aNil, r_aCons, gd_t, r_dTup, r_dLst, r_dLstM, r_dSl, r_dNoP, r_dP, r_pK, r_dCB, r_dCall, r_dCallK, r_sSeq, sq_nx, sq_rt, sq_ex, sb_ok, sb_ex, r_sNil, r_sRet, r_sExpr, r_sIf, r_sSet, r_sPar, r_sAsg, r_asg, r_sFor, fn_rt, fn_nx, fn_ex, r_dIt, it_tup, it_lst, eq_int, eq_bl, eq_str, ne_str, cmp_int, add_int, sub_int, neg_int, len_tup, len_lst, tuple_lst, list_tup, i2_int, int_int, if_t, if_f, bd_nm, bd_tp, bd_nil, bd_cons, bdk, List.set_cons_zero, List.set_cons_succ, okL0, okL1, okL2, okL3, okL4, okL5, okL6, okL7, okL8, okL9, okL10, okL11, okL12, okL13, okL14, okL15, List.length_cons, List.length_nil, Nat.reduceAdd, Nat.zero_add, Nat.reduceLeDiff, Nat.reduceEqDiff, decide_true, decide_false, Bool.not_true, Bool.not_false, Bool.and_true, Bool.true_and, eq_self, List.cons_append, List.nil_append, pickL, List.map_cons, List.map_nil, ↓reduceIte, Bool.false_eq_true]) rfl (by simp only [List.length_cons, List.length_nil]; decide)
  simp -implicitDefEqProofs only [e6, nopairs_ok, r_dB, bind_ok, bind_ex, r_var, vk_some, List.getD_cons_zero, List.getD_cons_succ, r_dC, r_dOp, r_dUn, r_dTst, r_tst, r_dTru, r_optB, r_trub, r_truT, r_dNotT, r_dAndT, r_dOrT, r_dNot, r_dAnd, r_dOr, r_and1, r_and0, r_or1, r_or0, r_andb, r_orb, r_iteb, r_iteb2, r_raise, ix0, ix1, r_sSetIx, fl0, fl1, fl2, fl3, fs0, fs1, fs2, fs0, r_dIf, r_aNil, r_aCons, gd_t, r_dTup, r_dLst, r_dLstM, r_dSl, r_dNoP, r_dP, r_pK, r_dCB, r_dCall, r_dCallK, r_sSeq, sq_nx, sq_rt, sq_ex, sb_ok, sb_ex, r_sNil, r_sRet, r_sExpr, r_sIf, r_sSet, r_sPar, r_sAsg, r_asg, r_sFor, fn_rt, fn_nx, fn_ex, r_dIt, it_tup, it_lst, eq_int, eq_bl, eq_str, ne_str, cmp_int, add_int, sub_int, neg_int, len_tup, len_lst, tuple_lst, list_tup, i2_int, int_int, if_t, if_f, bd_nm, bd_tp, bd_nil, bd_cons, bdk, List.set_cons_zero, List.set_cons_succ, okL0, okL1, okL2, okL3, okL4, okL5, okL6, okL7, okL8, okL9, okL10, okL11, okL12, okL13, okL14, okL15, List.length_cons, List.length_nil, Nat.reduceAdd, Nat.zero_add, Nat.reduceLeDiff, Nat.reduceEqDiff, decide_true, decide_false, Bool.not_true, Bool.not_false, Bool.and_true, Bool.true_and, eq_self, List.cons_append, List.nil_append, pickL, List.map_cons, List.map_nil, ↓reduceIte, Bool.false_eq_true]
  obtain ⟨y5, e7⟩ := loop_same' (j := 5) (ds := noPs (.tup vs) (.tup ws)) (ρ := [some (.ref 0), some (.int (n : Int)), some (.tup vs), some (.tup ws), some (.tup zs), x5, none]) (S := l4 :: R) (body := deeB) (by
    intro d hd
    obtain ⟨q0, q1⟩ := nopairs_bad pv pw d hd
    unfold deeB
    simp -implicitDefEqProofs only [ok_deed (n := (n : Int)) q0 hS4, notPair_deed q1, ok_is, r_dB, bind_ok, bind_ex, r_var, vk_some, List.getD_cons_zero, List.getD_cons_succ, r_dC, r_dOp, r_dUn, r_dTst, r_tst, r_dTru, r_optB, r_trub, r_truT, r_dNotT, r_dAndT, r_dOrT, r_dNot, r_dAnd, r_dOr, r_and1, r_and0, r_or1, r_or0, r_andb, r_orb, r_iteb, r_iteb2, r_raise, ix0, ix1, r_sSetIx, fl0, fl1, fl2, fl3, fs0, fs1, fs2, fs0, r_dIf, r_aNil, r_aCons, gd_t, r_dTup, r_dLst, r_dLstM, r_dSl, r_dNoP, r_dP, r_pK, r_dCB, r_dCall, r_dCallK, r_sSeq, sq_nx, sq_rt, sq_ex, sb_ok, sb_ex, r_sNil, r_sRet, r_sExpr, r_sIf, r_sSet, r_sPar, r_sAsg, r_asg, r_sFor, fn_rt, fn_nx, fn_ex, r_dIt, it_tup, it_lst, eq_int, eq_bl, eq_str, ne_str, cmp_int, add_int, sub_int, neg_int, len_tup, len_lst, tuple_lst, list_tup, i2_int, int_int, if_t, if_f, bd_nm, bd_tp, bd_nil, bd_cons, bdk, List.set_cons_zero, List.set_cons_succ, okL0, okL1, okL2, okL3, okL4, okL5, okL6, okL7, okL8, okL9, okL10, okL11, okL12, okL13, okL14, okL15, List.length_cons, List.length_nil, Nat.reduceAdd, Nat.zero_add, Nat.reduceLeDiff, Nat.reduceEqDiff, decide_true, decide_false, Bool.not_true, Bool.not_false, Bool.and_true, Bool.true_and, eq_self, List.cons_append, List.nil_append, pickL, List.map_cons, List.map_nil, ↓reduceIte, Bool.false_eq_true]) rfl (by simp only [List.length_cons, List.length_nil]; decide)
  simp -implicitDefEqProofs only [e7, r_dB, bind_ok, bind_ex, r_var, vk_some, List.getD_cons_zero, List.getD_cons_succ, r_dC, r_dOp, r_dUn, r_dTst, r_tst, r_dTru, r_optB, r_trub, r_truT, r_dNotT, r_dAndT, r_dOrT, r_dNot, r_dAnd, r_dOr, r_and1, r_and0, r_or1, r_or0, r_andb, r_orb, r_iteb, r_iteb2, r_raise, ix0, ix1, r_sSetIx, fl0, fl1, fl2, fl3, fs0, fs1, fs2, fs0, r_dIf, r_aNil, r_aCons, gd_t, r_dTup, r_dLst, r_dLstM, r_dSl, r_dNoP, r_dP, r_pK, r_dCB, r_dCall, r_dCallK, r_sSeq, sq_nx, sq_rt, sq_ex, sb_ok, sb_ex, r_sNil, r_sRet, r_sExpr, r_sIf, r_sSet, r_sPar, r_sAsg, r_asg, r_sFor, fn_rt, fn_nx, fn_ex, r_dIt, it_tup, it_lst, eq_int, eq_bl, eq_str, ne_str, cmp_int, add_int, sub_int, neg_int, len_tup, len_lst, tuple_lst, list_tup, i2_int, int_int, if_t, if_f, bd_nm, bd_tp, bd_nil, bd_cons, bdk, List.set_cons_zero, List.set_cons_succ, okL0, okL1, okL2, okL3, okL4, okL5, okL6, okL7, okL8, okL9, okL10, okL11, okL12, okL13, okL14, okL15, List.length_cons, List.length_nil, Nat.reduceAdd, Nat.zero_add, Nat.reduceLeDiff, Nat.reduceEqDiff, decide_true, decide_false, Bool.not_true, Bool.not_false, Bool.and_true, Bool.true_and, eq_self, List.cons_append, List.nil_append, pickL, List.map_cons, List.map_nil, ↓reduceIte, Bool.false_eq_true]
  exact ⟨l4, rfl, f4⟩
end k00

set_option Elab.async false
set_option linter.all false
set_option maxRecDepth 100000
set_option maxHeartbeats 1000000
namespace k00
open PySem DE
theorem sl_1 {l : List D} {S : Sto} : oSl (.tup l) (some 1) none S = .ok (.tup (l.drop 1)) S := sl_from (k := 1)
theorem ix_neg1 {l : List D} {d : D} {S : Sto} (h : l.getLast? = some d) : oIx (.tup l) (.int (-1)) S = .ok d S := by
  unfold oIx
  simp only [D.seq, at_neg1 h]
def ltB : D → Bool
  | .tup [.int a, .int b] => decide (a < b)
  | _ => false
def chainB : List D → Bool
  | x :: y :: r => ltB (.tup [x, y]) && chainB (y :: r)
  | _ => true
theorem chain_zip : ∀ l : List D, (zipD l (l.drop 1)).all ltB = chainB l
  | [] => rfl
  | [x] => rfl
  | x :: y :: r => by
    have := chain_zip (y :: r)
    show (ltB (.tup [x, y]) && (zipD (y :: r) ((y :: r).drop 1)).all ltB) = _
    rw [this]; rfl
theorem chain_no : ∀ {a b : List D} {x y : D}, ltB (.tup [x, y]) = false → chainB (a ++ x :: y :: b) = false
  | [], b, x, y, h => by
    show (ltB (.tup [x, y]) && _) = false
    rw [h]; rfl
  | [z], b, x, y, h => by
    show (_ && (ltB (.tup [x, y]) && _)) = false
    rw [h, Bool.false_and, Bool.and_false]
  | z :: w :: a, b, x, y, h => by
    show (_ && chainB ((w :: a) ++ x :: y :: b)) = false
    rw [chain_no (a := w :: a) h, Bool.and_false]
def lastB (n : Int) (l : List D) : Bool := match l.getLast? with
  | some (.int a) => decide (a < n)
  | _ => false
def isLot (n : Int) : D → Bool
  | .tup l => l.all isN && (chainB l && (l.isEmpty || lastB n l))
  | _ => false
theorem r_dZip {fs : Rho → Sto → Res (List D)} {ρ : Rho} {S : Sto} {a b : List D} (h : fs ρ S = .ok [.tup a, .tup b] S) : dZip fs ρ S = .ok (zipD a b, none) S := by
  unfold dZip
  rw [r_dB, h]; rfl
theorem ok_ascending {d : D} {S : Sto} (h : Pl d = true) (hS : SL S) : F_is_ascending [d] S = .ok (.bl (match d with | .tup l => l.all isN && chainB l | _ => false)) S := by
  show fnRes (b_is_ascending [some d, none, none, none] S) = _
  unfold b_is_ascending
  simp -implicitDefEqProofs only [isi_tuple h, r_dB, bind_ok, bind_ex, r_var, vk_some, List.getD_cons_zero, List.getD_cons_succ, r_dC, r_dOp, r_dUn, r_dTst, r_tst, r_dTru, r_optB, r_trub, r_truT, r_dNotT, r_dAndT, r_dOrT, r_dNot, r_dAnd, r_dOr, r_and1, r_and0, r_or1, r_or0, r_andb, r_orb, r_iteb, r_iteb2, r_raise, ix0, ix1, r_sSetIx, fl0, fl1, fl2, fl3, fs0, fs1, fs2, fs0, r_dIf, r_aNil, r_aCons, gd_t, r_dTup, r_dLst, r_dLstM, r_dSl, r_dNoP, r_dP, r_pK, r_dCB, r_dCall, r_dCallK, r_sSeq, sq_nx, sq_rt, sq_ex, sb_ok, sb_ex, r_sNil, r_sRet, r_sExpr, r_sIf, r_sSet, r_sPar, r_sAsg, r_asg, r_sFor, fn_rt, fn_nx, fn_ex, r_dIt, it_tup, it_lst, eq_int, eq_bl, eq_str, ne_str, cmp_int, add_int, sub_int, neg_int, len_tup, len_lst, tuple_lst, list_tup, i2_int, int_int, if_t, if_f, bd_nm, bd_tp, bd_nil, bd_cons, bdk, List.set_cons_zero, List.set_cons_succ, okL0, okL1, okL2, okL3, okL4, okL5, okL6, okL7, okL8, okL9, okL10, okL11, okL12, okL13, okL14, okL15, List.length_cons, List.length_nil, Nat.reduceAdd, Nat.zero_add, Nat.reduceLeDiff, Nat.reduceEqDiff, decide_true, decide_false, Bool.not_true, Bool.not_false, Bool.and_true, Bool.true_and, eq_self, List.cons_append, List.nil_append, pickL, List.map_cons, List.map_nil, ↓reduceIte, Bool.false_eq_true]
  cases d with
  | tup l =>
    obtain ⟨hl, hp⟩ := pl_tup h
    have e := all_run (p := isN) (F := F_is_number) (fe := dV 0) (l := l) (S := S) (j := 3) (ρ := [some (.tup l), none, none, none]) rfl hS hl (by simp only [List.length_cons, List.length_nil]; decide) fun d m S' _ => ok_number (hp d m)
    simp -implicitDefEqProofs only [isTup, e, bools_all, r_dB, bind_ok, bind_ex, r_var, vk_some, List.getD_cons_zero, List.getD_cons_succ, r_dC, r_dOp, r_dUn, r_dTst, r_tst, r_dTru, r_optB, r_trub, r_truT, r_dNotT, r_dAndT, r_dOrT, r_dNot, r_dAnd, r_dOr, r_and1, r_and0, r_or1, r_or0, r_andb, r_orb, r_iteb, r_iteb2, r_raise, ix0, ix1, r_sSetIx, fl0, fl1, fl2, fl3, fs0, fs1, fs2, fs0, r_dIf, r_aNil, r_aCons, gd_t, r_dTup, r_dLst, r_dLstM, r_dSl, r_dNoP, r_dP, r_pK, r_dCB, r_dCall, r_dCallK, r_sSeq, sq_nx, sq_rt, sq_ex, sb_ok, sb_ex, r_sNil, r_sRet, r_sExpr, r_sIf, r_sSet, r_sPar, r_sAsg, r_asg, r_sFor, fn_rt, fn_nx, fn_ex, r_dIt, it_tup, it_lst, eq_int, eq_bl, eq_str, ne_str, cmp_int, add_int, sub_int, neg_int, len_tup, len_lst, tuple_lst, list_tup, i2_int, int_int, if_t, if_f, bd_nm, bd_tp, bd_nil, bd_cons, bdk, List.set_cons_zero, List.set_cons_succ, okL0, okL1, okL2, okL3, okL4, okL5, okL6, okL7, okL8, okL9, okL10, okL11, okL12, okL13, okL14, okL15, List.length_cons, List.length_nil, Nat.reduceAdd, Nat.zero_add, Nat.reduceLeDiff, Nat.reduceEqDiff, decide_true, decide_false, Bool.not_true, Bool.not_false, Bool.and_true, Bool.true_and, eq_self, List.cons_append, List.nil_append, pickL, List.map_cons, List.map_nil, ↓reduceIte, Bool.false_eq_true]
    cases e0 : l.all isN with
    | false => simp -implicitDefEqProofs only [Bool.false_and, r_dB, bind_ok, bind_ex, r_var, vk_some, List.getD_cons_zero, List.getD_cons_succ, r_dC, r_dOp, r_dUn, r_dTst, r_tst, r_dTru, r_optB, r_trub, r_truT, r_dNotT, r_dAndT, r_dOrT, r_dNot, r_dAnd, r_dOr, r_and1, r_and0, r_or1, r_or0, r_andb, r_orb, r_iteb, r_iteb2, r_raise, ix0, ix1, r_sSetIx, fl0, fl1, fl2, fl3, fs0, fs1, fs2, fs0, r_dIf, r_aNil, r_aCons, gd_t, r_dTup, r_dLst, r_dLstM, r_dSl, r_dNoP, r_dP, r_pK, r_dCB, r_dCall, r_dCallK, r_sSeq, sq_nx, sq_rt, sq_ex, sb_ok, sb_ex, r_sNil, r_sRet, r_sExpr, r_sIf, r_sSet, r_sPar, r_sAsg, r_asg, r_sFor, fn_rt, fn_nx, fn_ex, r_dIt, it_tup, it_lst, eq_int, eq_bl, eq_str, ne_str, cmp_int, add_int, sub_int, neg_int, len_tup, len_lst, tuple_lst, list_tup, i2_int, int_int, if_t, if_f, bd_nm, bd_tp, bd_nil, bd_cons, bdk, List.set_cons_zero, List.set_cons_succ, okL0, okL1, okL2, okL3, okL4, okL5, okL6, okL7, okL8, okL9, okL10, okL11, okL12, okL13, okL14, okL15, List.length_cons, List.length_nil, Nat.reduceAdd, Nat.zero_add, Nat.reduceLeDiff, Nat.reduceEqDiff, decide_true, decide_false, Bool.not_true, Bool.not_false, Bool.and_true, Bool.true_and, eq_self, List.cons_append, List.nil_append, pickL, List.map_cons, List.map_nil, ↓reduceIte, Bool.false_eq_true]
    | true =>
      have hints : ∀ d ∈ l, ∃ i : Int, d = .int i := fun d m => by
        have := List.all_eq_true.mp e0 d m
        cases d <;> first | exact ⟨_, rfl⟩ | (simp [isN] at this; done)
      have ez : dZip (aCons (dV 0) (aCons (dSl (dV 0) (dP (dC (.int 1))) dNoP) aNil)) [some (.tup l), none, none, none] S = .ok (zipD l (l.drop 1), none) S := r_dZip (by simp -implicitDefEqProofs only [sl_1, r_dB, bind_ok, bind_ex, r_var, vk_some, List.getD_cons_zero, List.getD_cons_succ, r_dC, r_dOp, r_dUn, r_dTst, r_tst, r_dTru, r_optB, r_trub, r_truT, r_dNotT, r_dAndT, r_dOrT, r_dNot, r_dAnd, r_dOr, r_and1, r_and0, r_or1, r_or0, r_andb, r_orb, r_iteb, r_iteb2, r_raise, ix0, ix1, r_sSetIx, fl0, fl1, fl2, fl3, fs0, fs1, fs2, fs0, r_dIf, r_aNil, r_aCons, gd_t, r_dTup, r_dLst, r_dLstM, r_dSl, r_dNoP, r_dP, r_pK, r_dCB, r_dCall, r_dCallK, r_sSeq, sq_nx, sq_rt, sq_ex, sb_ok, sb_ex, r_sNil, r_sRet, r_sExpr, r_sIf, r_sSet, r_sPar, r_sAsg, r_asg, r_sFor, fn_rt, fn_nx, fn_ex, r_dIt, it_tup, it_lst, eq_int, eq_bl, eq_str, ne_str, cmp_int, add_int, sub_int, neg_int, len_tup, len_lst, tuple_lst, list_tup, i2_int, int_int, if_t, if_f, bd_nm, bd_tp, bd_nil, bd_cons, bdk, List.set_cons_zero, List.set_cons_succ, okL0, okL1, okL2, okL3, okL4, okL5, okL6, okL7, okL8, okL9, okL10, okL11, okL12, okL13, okL14, okL15, List.length_cons, List.length_nil, Nat.reduceAdd, Nat.zero_add, Nat.reduceLeDiff, Nat.reduceEqDiff, decide_true, decide_false, Bool.not_true, Bool.not_false, Bool.and_true, Bool.true_and, eq_self, List.cons_append, List.nil_append, pickL, List.map_cons, List.map_nil, ↓reduceIte, Bool.false_eq_true])
      have lz : (zipD l (l.drop 1)).length ≤ 1000 := by unfold zipD; rw [List.length_map, List.length_zip]; omega
      have e2 := dLc_map (t := .tp [.nm 1, .nm 2]) (fe := dOp (oCmp fun i j => decide (i < j)) (dV 1) (dV 2)) (fi := dZip (aCons (dV 0) (aCons (dSl (dV 0) (dP (dC (.int 1))) dNoP) aNil))) (own := [1, 2]) (ρ := [some (.tup l), none, none, none]) (S := S) (ds := zipD l (l.drop 1)) (fun d => .bl (ltB d)) ez (by omega) (hS.low _) (fun _ _ => rfl) (by
        intro d hd
        unfold zipD at hd
        obtain ⟨⟨x, y⟩, m, rfl⟩ := List.mem_map.mp hd
        have m2 := List.of_mem_zip m
        obtain ⟨i, rfl⟩ := hints x m2.1
        obtain ⟨j, rfl⟩ := hints y (List.mem_of_mem_drop m2.2)
        exact ⟨_, rfl, fun acc _ => rfl⟩)
      simp -implicitDefEqProofs only [e2, bools_all, r_dB, bind_ok, bind_ex, r_var, vk_some, List.getD_cons_zero, List.getD_cons_succ, r_dC, r_dOp, r_dUn, r_dTst, r_tst, r_dTru, r_optB, r_trub, r_truT, r_dNotT, r_dAndT, r_dOrT, r_dNot, r_dAnd, r_dOr, r_and1, r_and0, r_or1, r_or0, r_andb, r_orb, r_iteb, r_iteb2, r_raise, ix0, ix1, r_sSetIx, fl0, fl1, fl2, fl3, fs0, fs1, fs2, fs0, r_dIf, r_aNil, r_aCons, gd_t, r_dTup, r_dLst, r_dLstM, r_dSl, r_dNoP, r_dP, r_pK, r_dCB, r_dCall, r_dCallK, r_sSeq, sq_nx, sq_rt, sq_ex, sb_ok, sb_ex, r_sNil, r_sRet, r_sExpr, r_sIf, r_sSet, r_sPar, r_sAsg, r_asg, r_sFor, fn_rt, fn_nx, fn_ex, r_dIt, it_tup, it_lst, eq_int, eq_bl, eq_str, ne_str, cmp_int, add_int, sub_int, neg_int, len_tup, len_lst, tuple_lst, list_tup, i2_int, int_int, if_t, if_f, bd_nm, bd_tp, bd_nil, bd_cons, bdk, List.set_cons_zero, List.set_cons_succ, okL0, okL1, okL2, okL3, okL4, okL5, okL6, okL7, okL8, okL9, okL10, okL11, okL12, okL13, okL14, okL15, List.length_cons, List.length_nil, Nat.reduceAdd, Nat.zero_add, Nat.reduceLeDiff, Nat.reduceEqDiff, decide_true, decide_false, Bool.not_true, Bool.not_false, Bool.and_true, Bool.true_and, eq_self, List.cons_append, List.nil_append, pickL, List.map_cons, List.map_nil, ↓reduceIte, Bool.false_eq_true]
      rw [chain_zip]
  | _ => first | rfl | (simp [Pl] at h; done)
theorem ints_of {l : List D} (h : ∀ d ∈ l, ∃ i : Int, d = .int i) : ∃ ns : List Int, l = ns.map D.int := by
  induction l with
  | nil => exact ⟨[], rfl⟩
  | cons d l ih =>
    obtain ⟨i, rfl⟩ := h d List.mem_cons_self
    obtain ⟨ns, rfl⟩ := ih fun e m => h e (List.mem_cons_of_mem _ m)
    exact ⟨i :: ns, rfl⟩
theorem py_ints (ns : List Int) : D.py0s (ns.map D.int) = some (ns.map PyData.int) := by
  induction ns with
  | nil => rfl
  | cons n ns ih => rw [List.map_cons]; unfold D.py0s; rw [ih]; rfl
theorem shaped_tints (ns : List Int) : SeqAt.shaped (.tuple (ns.map PyData.int)) = true := by
  simp [SeqAt.shaped, PyData.canLay0, PyData.depth, W.ke_canLayAll0, W.ke_depthAll]
theorem eq_empty {l : List D} {S : Sto} (h : ∀ d ∈ l, ∃ i : Int, d = .int i) : oEq (.tup l) (.tup []) S = .ok (.bl l.isEmpty) S := by
  obtain ⟨ns, rfl⟩ := ints_of h
  have e1 : D.py S (.tup (ns.map D.int)) = some (PyData.tuple (ns.map PyData.int)) := by
    show (D.py0s (ns.map D.int)).map PyData.tuple = _
    rw [py_ints]; rfl
  have e2 : D.py S (.tup []) = some (PyData.tuple []) := rfl
  have e3 : D.eq S (.tup (ns.map D.int)) (.tup []) = some (ns.map D.int).isEmpty := by
    show (match D.py S (.tup (ns.map D.int)), D.py S (.tup []) with | some p, some q => if (SeqAt.shaped p && SeqAt.shaped q) = true then some (PyData.eqv p q) else none | _, _ => none) = _
    rw [e1, e2]
    dsimp only
    rw [shaped_tints, show SeqAt.shaped (PyData.tuple []) = true from shaped_tints []]
    cases ns <;> rfl
  unfold oEq
  rw [e3]
theorem ok_lot {n : Int} {d : D} {S : Sto} (h : Pl d = true) (hS : SL S) : F_is_lot [.int n, d] S = .ok (.bl (isLot n d)) S := by
  show fnRes (b_is_lot [some (.int n), some d] S) = _
  unfold b_is_lot
  simp -implicitDefEqProofs only [ok_ascending h hS, r_dB, bind_ok, bind_ex, r_var, vk_some, List.getD_cons_zero, List.getD_cons_succ, r_dC, r_dOp, r_dUn, r_dTst, r_tst, r_dTru, r_optB, r_trub, r_truT, r_dNotT, r_dAndT, r_dOrT, r_dNot, r_dAnd, r_dOr, r_and1, r_and0, r_or1, r_or0, r_andb, r_orb, r_iteb, r_iteb2, r_raise, ix0, ix1, r_sSetIx, fl0, fl1, fl2, fl3, fs0, fs1, fs2, fs0, r_dIf, r_aNil, r_aCons, gd_t, r_dTup, r_dLst, r_dLstM, r_dSl, r_dNoP, r_dP, r_pK, r_dCB, r_dCall, r_dCallK, r_sSeq, sq_nx, sq_rt, sq_ex, sb_ok, sb_ex, r_sNil, r_sRet, r_sExpr, r_sIf, r_sSet, r_sPar, r_sAsg, r_asg, r_sFor, fn_rt, fn_nx, fn_ex, r_dIt, it_tup, it_lst, eq_int, eq_bl, eq_str, ne_str, cmp_int, add_int, sub_int, neg_int, len_tup, len_lst, tuple_lst, list_tup, i2_int, int_int, if_t, if_f, bd_nm, bd_tp, bd_nil, bd_cons, bdk, List.set_cons_zero, List.set_cons_succ, okL0, okL1, okL2, okL3, okL4, okL5, okL6, okL7, okL8, okL9, okL10, okL11, okL12, okL13, okL14, okL15, List.length_cons, List.length_nil, Nat.reduceAdd, Nat.zero_add, Nat.reduceLeDiff, Nat.reduceEqDiff, decide_true, decide_false, Bool.not_true, Bool.not_false, Bool.and_true, Bool.true_and, eq_self, List.cons_append, List.nil_append, pickL, List.map_cons, List.map_nil, ↓reduceIte, Bool.false_eq_true]
  cases d with
  | tup l =>
    cases e0 : (l.all isN && chainB l) with
    | false =>
      simp -implicitDefEqProofs only [e0, r_dB, bind_ok, bind_ex, r_var, vk_some, List.getD_cons_zero, List.getD_cons_succ, r_dC, r_dOp, r_dUn, r_dTst, r_tst, r_dTru, r_optB, r_trub, r_truT, r_dNotT, r_dAndT, r_dOrT, r_dNot, r_dAnd, r_dOr, r_and1, r_and0, r_or1, r_or0, r_andb, r_orb, r_iteb, r_iteb2, r_raise, ix0, ix1, r_sSetIx, fl0, fl1, fl2, fl3, fs0, fs1, fs2, fs0, r_dIf, r_aNil, r_aCons, gd_t, r_dTup, r_dLst, r_dLstM, r_dSl, r_dNoP, r_dP, r_pK, r_dCB, r_dCall, r_dCallK, r_sSeq, sq_nx, sq_rt, sq_ex, sb_ok, sb_ex, r_sNil, r_sRet, r_sExpr, r_sIf, r_sSet, r_sPar, r_sAsg, r_asg, r_sFor, fn_rt, fn_nx, fn_ex, r_dIt, it_tup, it_lst, eq_int, eq_bl, eq_str, ne_str, cmp_int, add_int, sub_int, neg_int, len_tup, len_lst, tuple_lst, list_tup, i2_int, int_int, if_t, if_f, bd_nm, bd_tp, bd_nil, bd_cons, bdk, List.set_cons_zero, List.set_cons_succ, okL0, okL1, okL2, okL3, okL4, okL5, okL6, okL7, okL8, okL9, okL10, okL11, okL12, okL13, okL14, okL15, List.length_cons, List.length_nil, Nat.reduceAdd, Nat.zero_add, Nat.reduceLeDiff, Nat.reduceEqDiff, decide_true, decide_false, Bool.not_true, Bool.not_false, Bool.and_true, Bool.true_and, eq_self, List.cons_append, List.nil_append, pickL, List.map_cons, List.map_nil, ↓reduceIte, Bool.false_eq_true]
      have : isLot n (.tup l) = false := by
        show (l.all isN && (chainB l && (l.isEmpty || lastB n l))) = _
        rw [← Bool.and_assoc, e0]; rfl
      rw [this]
    | true =>
      have e1 : l.all isN = true := (Bool.and_eq_true_iff.mp e0).1
      have hints : ∀ d ∈ l, ∃ i : Int, d = .int i := fun d m => by
        have := List.all_eq_true.mp e1 d m
        cases d <;> first | exact ⟨_, rfl⟩ | (simp [isN] at this; done)
      have eL : isLot n (.tup l) = (l.isEmpty || lastB n l) := by
        show (l.all isN && (chainB l && (l.isEmpty || lastB n l))) = _
        rw [← Bool.and_assoc, e0]; rfl
      rw [eL]
      simp -implicitDefEqProofs only [eq_empty hints, r_dB, bind_ok, bind_ex, r_var, vk_some, List.getD_cons_zero, List.getD_cons_succ, r_dC, r_dOp, r_dUn, r_dTst, r_tst, r_dTru, r_optB, r_trub, r_truT, r_dNotT, r_dAndT, r_dOrT, r_dNot, r_dAnd, r_dOr, r_and1, r_and0, r_or1, r_or0, r_andb, r_orb, r_iteb, r_iteb2, r_raise, ix0, ix1, r_sSetIx, fl0, fl1, fl2, fl3, fs0, fs1, fs2, fs0, r_dIf, r_aNil, r_aCons, gd_t, r_dTup, r_dLst, r_dLstM, r_dSl, r_dNoP, r_dP, r_pK, r_dCB, r_dCall, r_dCallK, r_sSeq, sq_nx, sq_rt, sq_ex, sb_ok, sb_ex, r_sNil, r_sRet, r_sExpr, r_sIf, r_sSet, r_sPar, r_sAsg, r_asg, r_sFor, fn_rt, fn_nx, fn_ex, r_dIt, it_tup, it_lst, eq_int, eq_bl, eq_str, ne_str, cmp_int, add_int, sub_int, neg_int, len_tup, len_lst, tuple_lst, list_tup, i2_int, int_int, if_t, if_f, bd_nm, bd_tp, bd_nil, bd_cons, bdk, List.set_cons_zero, List.set_cons_succ, okL0, okL1, okL2, okL3, okL4, okL5, okL6, okL7, okL8, okL9, okL10, okL11, okL12, okL13, okL14, okL15, List.length_cons, List.length_nil, Nat.reduceAdd, Nat.zero_add, Nat.reduceLeDiff, Nat.reduceEqDiff, decide_true, decide_false, Bool.not_true, Bool.not_false, Bool.and_true, Bool.true_and, eq_self, List.cons_append, List.nil_append, pickL, List.map_cons, List.map_nil, ↓reduceIte, Bool.false_eq_true]
      cases hL : l.getLast? with
      | none =>
        have : l = [] := List.getLast?_eq_none_iff.mp hL
        subst this
        rfl
      | some x =>
        obtain ⟨i, rfl⟩ := hints x (List.mem_of_getLast? hL)
        have hne : l.isEmpty = false := by
          cases l with
          | nil => cases hL
          | cons a r => rfl
        have lb : lastB n l = decide (i < n) := by unfold lastB; rw [hL]
        simp -implicitDefEqProofs only [ix_neg1 hL, hne, lb, e0, r_dB, bind_ok, bind_ex, r_var, vk_some, List.getD_cons_zero, List.getD_cons_succ, r_dC, r_dOp, r_dUn, r_dTst, r_tst, r_dTru, r_optB, r_trub, r_truT, r_dNotT, r_dAndT, r_dOrT, r_dNot, r_dAnd, r_dOr, r_and1, r_and0, r_or1, r_or0, r_andb, r_orb, r_iteb, r_iteb2, r_raise, ix0, ix1, r_sSetIx, fl0, fl1, fl2, fl3, fs0, fs1, fs2, fs0, r_dIf, r_aNil, r_aCons, gd_t, r_dTup, r_dLst, r_dLstM, r_dSl, r_dNoP, r_dP, r_pK, r_dCB, r_dCall, r_dCallK, r_sSeq, sq_nx, sq_rt, sq_ex, sb_ok, sb_ex, r_sNil, r_sRet, r_sExpr, r_sIf, r_sSet, r_sPar, r_sAsg, r_asg, r_sFor, fn_rt, fn_nx, fn_ex, r_dIt, it_tup, it_lst, eq_int, eq_bl, eq_str, ne_str, cmp_int, add_int, sub_int, neg_int, len_tup, len_lst, tuple_lst, list_tup, i2_int, int_int, if_t, if_f, bd_nm, bd_tp, bd_nil, bd_cons, bdk, List.set_cons_zero, List.set_cons_succ, okL0, okL1, okL2, okL3, okL4, okL5, okL6, okL7, okL8, okL9, okL10, okL11, okL12, okL13, okL14, okL15, List.length_cons, List.length_nil, Nat.reduceAdd, Nat.zero_add, Nat.reduceLeDiff, Nat.reduceEqDiff, decide_true, decide_false, Bool.not_true, Bool.not_false, Bool.and_true, Bool.true_and, eq_self, List.cons_append, List.nil_append, pickL, List.map_cons, List.map_nil, ↓reduceIte, Bool.false_eq_true]
  | _ => first | rfl | (simp [Pl] at h; done)
end k00

set_option Elab.async false
set_option linter.all false
set_option maxRecDepth 100000
set_option maxHeartbeats 1000000
namespace k00
open PySem DE
noncomputable def lotB : Dn := (sIf (dNotT (dTru (dCall 2 F__law_is (aCons (dCall 2 F_is_lot (aCons (dV 1) (aCons (dV 6) aNil))) (aCons (dC (.bl false)) aNil))))) (sRet (dC (.bl false))) sNil)
noncomputable def lotE : Dn := (sSeq (sFor (dIt (dV 3)) (.nm 6) lotB)
  (sRet (dAnd (dCall 2 F__law_is (aCons (dCall 2 F_is_lot (aCons (dC (.int 0)) (aCons (dTup aNil) aNil))) (aCons (dC (.bl true)) aNil))) (dAnd (dCall 2 F__law_is (aCons (dCall 2 F_is_lot (aCons (dC (.int 0)) (aCons (dTup (aCons (dC (.int 0)) aNil)) aNil))) (aCons (dC (.bl false)) aNil))) (dCall 2 F__law_is (aCons (dCall 2 F_is_lot (aCons (dC (.int 20)) (aCons (dTup aNil) aNil))) (aCons (dC (.bl true)) aNil)))))))
noncomputable def lot1 : Dn := (sSeq (sIf (dTst (dOp (oCmp fun i j => decide (j < i)) (dCB oLen (aCons (dV 2) aNil)) (dC (.int 1)))) (sSeq (sSet 5 (dCall 2 F__law_draw (aCons (dV 0) (aCons (dOp oSub (dCB oLen (aCons (dV 2) aNil)) (dC (.int 1))) aNil))))
  (sSet 3 (dOp oAdd (dV 3) (dLst (aCons (dOp oAdd (dOp oAdd (dSl (dV 2) dNoP (dP (dV 5))) (dTup (aCons (dOp oIx (dV 2) (dOp oAdd (dV 5) (dC (.int 1)))) (aCons (dOp oIx (dV 2) (dV 5)) aNil)))) (dSl (dV 2) (dP (dOp oAdd (dV 5) (dC (.int 2)))) dNoP)) (aCons (dOp oAdd (dSl (dV 2) (dP (dC (.int 1))) dNoP) (dSl (dV 2) dNoP (dP (dC (.int 1))))) aNil)))))) sNil)
  lotE)
noncomputable def lot0 : Dn := (sSeq (sIf (dTst (dOp (oCmp fun i j => decide (j < i)) (dCB oLen (aCons (dV 2) aNil)) (dC (.int 0)))) (sSeq (sSet 4 (dOp oIx (dV 2) (dOp oSub (dCB oLen (aCons (dV 2) aNil)) (dC (.int 1)))))
  (sSeq (sSet 5 (dCall 2 F__law_draw (aCons (dV 0) (aCons (dCB oLen (aCons (dV 2) aNil)) aNil))))
  (sSeq (sIf (dNotT (dAndT (dTru (dCall 2 F__law_is (aCons (dCall 2 F_is_lot (aCons (dOp oAdd (dV 4) (dC (.int 1))) (aCons (dV 2) aNil))) (aCons (dC (.bl true)) aNil)))) (dTru (dCall 2 F__law_is (aCons (dCall 2 F_is_lot (aCons (dV 4) (aCons (dV 2) aNil))) (aCons (dC (.bl false)) aNil)))))) (sRet (dC (.bl false))) sNil)
  (sSet 3 (dOp oAdd (dV 3) (dLst (aCons (dOp oAdd (dSl (dV 2) dNoP (dP (dOp oAdd (dV 5) (dC (.int 1))))) (dSl (dV 2) (dP (dV 5)) dNoP)) (aCons (dOp oAdd (dOp oAdd (dSl (dV 2) dNoP (dP (dV 5))) (dTup (aCons (dCB oBool (aCons (dV 5) aNil)) aNil))) (dSl (dV 2) (dP (dOp oAdd (dV 5) (dC (.int 1)))) dNoP)) (aCons (dOp oIx (dV 2) (dV 5)) (aCons (dLst (aCons (dOp oIx (dV 2) (dV 5)) aNil)) (aCons (dTup (aCons (dV 2) aNil)) aNil))))))))))) sNil)
  lot1)
theorem lot_split : b__law_lots_hold = (sSeq (sSet 1 (dCall 2 F__law_draw (aCons (dV 0) (aCons (dC (.int 20)) aNil))))
  (sSeq (sSet 2 (dCB oTuple (aCons (dLc finI (dRng1 (aCons (dV 1) aNil)) (.nm 7) (dTst (dOp (oCmp fun i j => decide (j < i)) (dCall 2 F__law_draw (aCons (dV 0) (aCons (dC (.int 3)) aNil))) (dC (.int 0)))) (dV 7) [7]) aNil)))
  (sSeq (sIf (dNotT (dAndT (dTru (dCall 2 F__law_is (aCons (dCall 2 F_is_lot (aCons (dV 1) (aCons (dV 2) aNil))) (aCons (dC (.bl true)) aNil)))) (dTru (dCall 2 F__law_is (aCons (dCallK 0 2 [1, 0] F_is_lot aNil (aCons (dV 2) (aCons (dOp oAdd (dV 1) (dC (.int 1))) aNil))) (aCons (dC (.bl true)) aNil)))))) (sRet (dC (.bl false))) sNil)
  (sSeq (sSet 3 (dLst (aCons (dOp oAdd (dV 2) (dTup (aCons (dV 1) aNil))) (aCons (dOp oAdd (dTup (aCons (dUn oNeg (dC (.int 1))) aNil)) (dV 2)) (aCons (dCB oList (aCons (dV 2) aNil)) (aCons (dOp oAdd (dTup (aCons (dC .non) aNil)) (dV 2)) (aCons (dOp oAdd (dV 2) (dTup (aCons (dC (.str "1")) aNil))) (aCons (dTup (aCons (dC (.bl false)) aNil)) (aCons (dTup (aCons (dC (.int 0)) (aCons (dC (.bl true)) aNil))) (aCons (dTup (aCons (dC (.bl false)) (aCons (dC (.int 1)) aNil))) (aCons (dTup (aCons (dTup aNil) aNil)) aNil)))))))))))
  (sSeq (sSet 3 (dOp oAdd (dV 3) (dLst (aCons (dC .non) (aCons (dC (.int 0)) (aCons (dC (.str "")) (aCons (dC (.str "01")) (aCons (dOp oAdd (dV 2) (dTup (aCons (dOp oPow (dC (.int 10)) (dC (.int 59))) aNil))) aNil))))))))
  lot0))))) := rfl

theorem lc_flt {t : Tg} {ft : Rho → Sto → Res Bool} {fe : Rho → Sto → Res D} {ρ : Rho} (P : Sto → Prop) (n : Nat) (hn : ∀ S, P S → S.length = n) : ∀ (l0 ds : List D) (S : Sto) (acc : List D), P S → acc.length + ds.length ≤ 16777216 →
    (∀ d ∈ ds, ∀ S acc, P S → ∃ ρ1, t.bind d ρ = some ρ1 ∧ ∃ b S', ft ρ1 (S ++ [acc]) = .ok b (S' ++ [acc]) ∧ P S' ∧ fe ρ1 (S' ++ [acc]) = .ok d (S' ++ [acc])) →
    ∃ vs S', lcD (gdOk none l0) t ft fe ρ n ds (S ++ [acc]) = .ok () (S' ++ [acc ++ vs]) ∧ P S' ∧ vs.Sublist ds := by
  intro l0 ds
  induction ds with
  | nil =>
    intro S acc h _ _
    exact ⟨[], S, by unfold lcD; rw [if_pos gdOk_none, List.append_nil], h, List.Sublist.refl _⟩
  | cons d ds ih =>
    intro S acc h hl k
    obtain ⟨ρ1, h1, b, S', h2, h3, h4⟩ := k d List.mem_cons_self S acc h
    simp only [List.length_cons] at hl
    cases b with
    | true =>
      obtain ⟨vs, S2, h5, h6, h7⟩ := ih S' (acc ++ [d]) h3 (by simp only [List.length_append, List.length_cons, List.length_nil]; omega) fun d m => k d (List.mem_cons_of_mem _ m)
      refine ⟨d :: vs, S2, ?_, h6, h7.cons_cons d⟩
      unfold lcD
      rw [if_pos gdOk_none, h1]
      dsimp only
      rw [h2]
      dsimp only
      rw [h4]
      dsimp only
      have e : (S' ++ [acc])[n]? = some acc := by rw [← hn S' h3]; simp
      rw [e]
      dsimp only
      rw [r_guard (by apply decide_eq_true; omega)]
      have e2 : (S' ++ [acc]).set n (acc ++ [d]) = S' ++ [acc ++ [d]] := by rw [← hn S' h3]; simp
      rw [e2, h5]
      simp
    | false =>
      obtain ⟨vs, S2, h5, h6, h7⟩ := ih S' acc h3 (by omega) fun d m => k d (List.mem_cons_of_mem _ m)
      refine ⟨vs, S2, ?_, h6, h7.cons d⟩
      unfold lcD
      rw [if_pos gdOk_none, h1]
      dsimp only
      rw [h2]
      exact h5
/-- a lot of wares below n: ints that grow -/
structure Lot (n : Nat) (vs : List D) : Prop where
  hi : ∀ d ∈ vs, ∃ k : Nat, d = .int (k : Int) ∧ k < n
  ch : chainB vs = true
  fs : ∀ x r, vs = x :: r → ∀ y ∈ r, ltB (.tup [y, x]) = false
theorem lot_of {n : Nat} {vs : List D} (h : vs.Sublist (rngD 0 (n : Int))) : Lot n vs := by
  unfold rngD at h
  obtain ⟨ms, h1, h2⟩ := List.sublist_map_iff.mp h
  subst h2
  have pw : ms.Pairwise (· < ·) := List.Pairwise.sublist h1 List.pairwise_lt_range
  refine ⟨fun d m => ?_, ?_, fun x r e y hy => ?_⟩
  · obtain ⟨k, hk, rfl⟩ := List.mem_map.mp m
    have := List.mem_range.mp (h1.subset hk)
    exact ⟨k, by rw [Int.zero_add], by omega⟩
  · clear h1 h
    induction ms with
    | nil => rfl
    | cons a r ih =>
      cases r with
      | nil => rfl
      | cons b r =>
        have h1 := List.pairwise_cons.mp pw
        show (decide ((0 : Int) + (a : Int) < 0 + (b : Int)) && chainB _) = true
        rw [decide_eq_true (by have := h1.1 b List.mem_cons_self; omega)]
        exact ih h1.2
  · cases ms with
    | nil => cases e
    | cons a q =>
      rw [List.map_cons] at e
      injection e with e1 e2
      subst e1 e2
      obtain ⟨b, hb, rfl⟩ := List.mem_map.mp hy
      have := (List.pairwise_cons.mp pw).1 b hb
      exact decide_eq_false (by omega)
theorem Lot.pl {n : Nat} {vs : List D} (h : Lot n vs) : ∀ d ∈ vs, Pl d = true := fun d m => by obtain ⟨k, rfl, _⟩ := h.hi d m; rfl
theorem Lot.isN {n : Nat} {vs : List D} (h : Lot n vs) : vs.all isN = true := all_of fun d m => by
  obtain ⟨k, rfl, _⟩ := h.hi d m
  exact (show decide (0 ≤ (k : Int)) = true from decide_eq_true (by omega))
theorem Lot.at {n m : Nat} {vs : List D} (h : Lot n vs) (hm : n ≤ m) : isLot (m : Int) (.tup vs) = true := by
  show (vs.all k00.isN && (chainB vs && (vs.isEmpty || lastB (m : Int) vs))) = true
  rw [h.isN, h.ch]
  cases hL : vs.getLast? with
  | none =>
    have : vs = [] := List.getLast?_eq_none_iff.mp hL
    subst this; rfl
  | some x =>
    obtain ⟨k, rfl, hk⟩ := h.hi x (List.mem_of_getLast? hL)
    have : lastB (m : Int) vs = true := by unfold lastB; rw [hL]; exact decide_eq_true (by omega)
    rw [this, Bool.or_true]; rfl
theorem lot_noN {n : Int} {vs : List D} {d : D} (m : d ∈ vs) (h : isN d = false) : isLot n (.tup vs) = false := by
  show (vs.all isN && _) = false
  have : vs.all isN = false := by
    cases e : vs.all isN with
    | false => rfl
    | true => rw [List.all_eq_true.mp e d m] at h; cases h
  rw [this]; rfl
theorem lot_noC {n : Int} {vs : List D} (h : chainB vs = false) : isLot n (.tup vs) = false := by
  show (_ && (chainB vs && _)) = false
  rw [h, Bool.false_and, Bool.and_false]
theorem lot_noL {n i : Int} {vs : List D} (h : vs.getLast? = some (.int i)) (hi : n ≤ i) : isLot n (.tup vs) = false := by
  show (_ && (_ && (vs.isEmpty || lastB n vs))) = false
  have : lastB n vs = false := by unfold lastB; rw [h]; exact decide_eq_false (by omega)
  have hne : vs.isEmpty = false := by
    cases vs with
    | nil => cases h
    | cons a r => rfl
  rw [this, hne, Bool.or_false, Bool.and_false, Bool.and_false]
/-- no lot of n wares -/
def NL (n : Nat) (d : D) : Prop := Pl d = true ∧ isLot (n : Int) d = false
end k00

set_option Elab.async false
set_option linter.all false
set_option maxRecDepth 100000
set_option maxHeartbeats 1000000
namespace k00
open PySem DE
theorem lotE_ok {l : List D} (h : Fl l) {R : Sto} (hR : SL R) {n : Nat} {vs os : List D} {x4 x5 x6 x7 : Option D} (ho : ∀ d ∈ os, NL n d) : fnRes (lotE [some (.ref 0), some (.int (n : Int)), some (.tup vs), some (.lst os), x4, x5, x6, x7] (l :: R)) = .ok (.bl true) (l :: R) := by
  have hS := h.sl hR
  unfold lotE
  obtain ⟨y6, e⟩ := loop_same' (j := 6) (ds := os) (ρ := [some (.ref 0), some (.int (n : Int)), some (.tup vs), some (.lst os), x4, x5, x6, x7]) (S := l :: R) (body := lotB) (by
    intro d hd
    obtain ⟨q0, q1⟩ := ho d hd
    unfold lotB
    simp -implicitDefEqProofs only [ok_lot (n := (n : Int)) q0 hS, q1, ok_is, r_dB, bind_ok, bind_ex, r_var, vk_some, List.getD_cons_zero, List.getD_cons_succ, r_dC, r_dOp, r_dUn, r_dTst, r_tst, r_dTru, r_optB, r_trub, r_truT, r_dNotT, r_dAndT, r_dOrT, r_dNot, r_dAnd, r_dOr, r_and1, r_and0, r_or1, r_or0, r_andb, r_orb, r_iteb, r_iteb2, r_raise, ix0, ix1, r_sSetIx, fl0, fl1, fl2, fl3, fs0, fs1, fs2, fs0, r_dIf, r_aNil, r_aCons, gd_t, r_dTup, r_dLst, r_dLstM, r_dSl, r_dNoP, r_dP, r_pK, r_dCB, r_dCall, r_dCallK, r_sSeq, sq_nx, sq_rt, sq_ex, sb_ok, sb_ex, r_sNil, r_sRet, r_sExpr, r_sIf, r_sSet, r_sPar, r_sAsg, r_asg, r_sFor, fn_rt, fn_nx, fn_ex, r_dIt, it_tup, it_lst, eq_int, eq_bl, eq_str, ne_str, cmp_int, add_int, sub_int, neg_int, len_tup, len_lst, tuple_lst, list_tup, i2_int, int_int, if_t, if_f, bd_nm, bd_tp, bd_nil, bd_cons, bdk, List.set_cons_zero, List.set_cons_succ, okL0, okL1, okL2, okL3, okL4, okL5, okL6, okL7, okL8, okL9, okL10, okL11, okL12, okL13, okL14, okL15, List.length_cons, List.length_nil, Nat.reduceAdd, Nat.zero_add, Nat.reduceLeDiff, Nat.reduceEqDiff, decide_true, decide_false, Bool.not_true, Bool.not_false, Bool.and_true, Bool.true_and, eq_self, List.cons_append, List.nil_append, pickL, List.map_cons, List.map_nil, ↓reduceIte, Bool.false_eq_true]) rfl (by simp only [List.length_cons, List.length_nil]; decide)
  have t1 : isLot 0 (.tup []) = true := rfl
  have t2 : isLot 0 (.tup [.int 0]) = false := rfl
  have t3 : isLot 20 (.tup []) = true := rfl
  simp -implicitDefEqProofs only [e, ok_lot (n := 0) (d := .tup []) rfl hS, ok_lot (n := 0) (d := .tup [.int 0]) rfl hS, ok_lot (n := 20) (d := .tup []) rfl hS, t1, t2, t3, ok_is, r_dB, bind_ok, bind_ex, r_var, vk_some, List.getD_cons_zero, List.getD_cons_succ, r_dC, r_dOp, r_dUn, r_dTst, r_tst, r_dTru, r_optB, r_trub, r_truT, r_dNotT, r_dAndT, r_dOrT, r_dNot, r_dAnd, r_dOr, r_and1, r_and0, r_or1, r_or0, r_andb, r_orb, r_iteb, r_iteb2, r_raise, ix0, ix1, r_sSetIx, fl0, fl1, fl2, fl3, fs0, fs1, fs2, fs0, r_dIf, r_aNil, r_aCons, gd_t, r_dTup, r_dLst, r_dLstM, r_dSl, r_dNoP, r_dP, r_pK, r_dCB, r_dCall, r_dCallK, r_sSeq, sq_nx, sq_rt, sq_ex, sb_ok, sb_ex, r_sNil, r_sRet, r_sExpr, r_sIf, r_sSet, r_sPar, r_sAsg, r_asg, r_sFor, fn_rt, fn_nx, fn_ex, r_dIt, it_tup, it_lst, eq_int, eq_bl, eq_str, ne_str, cmp_int, add_int, sub_int, neg_int, len_tup, len_lst, tuple_lst, list_tup, i2_int, int_int, if_t, if_f, bd_nm, bd_tp, bd_nil, bd_cons, bdk, List.set_cons_zero, List.set_cons_succ, okL0, okL1, okL2, okL3, okL4, okL5, okL6, okL7, okL8, okL9, okL10, okL11, okL12, okL13, okL14, okL15, List.length_cons, List.length_nil, Nat.reduceAdd, Nat.zero_add, Nat.reduceLeDiff, Nat.reduceEqDiff, decide_true, decide_false, Bool.not_true, Bool.not_false, Bool.and_true, Bool.true_and, eq_self, List.cons_append, List.nil_append, pickL, List.map_cons, List.map_nil, ↓reduceIte, Bool.false_eq_true]
theorem ix_at {l : List D} {k : Nat} {d : D} {S : Sto} (h : l[k + 1]? = some d) : oIx (.tup l) (.int ((k : Int) + 1)) S = .ok d S := ix_tup (i := k + 1) h
theorem sl_from2 {l : List D} {k : Nat} {S : Sto} : oSl (.tup l) (some ((k : Int) + 2)) none S = .ok (.tup (l.drop (k + 2))) S := sl_from (k := k + 2)
theorem sl_to1 {l : List D} {k : Nat} {S : Sto} : oSl (.tup l) none (some ((k : Int) + 1)) S = .ok (.tup (l.take (k + 1))) S := sl_to (k := k + 1)
theorem sl_t1 {l : List D} {S : Sto} : oSl (.tup l) none (some 1) S = .ok (.tup (l.take 1)) S := sl_to (k := 1)
theorem lot_pl {n : Nat} {vs : List D} (h : Lot n vs) (hl : vs.length ≤ 20) {ws : List D} (hw : ∀ d ∈ ws, d ∈ vs ∨ Pl d = true) (hwl : ws.length ≤ 1000) : Pl (.tup ws) = true := pl_tup_of (fun d m => (hw d m).elim (h.pl d) id) hwl
theorem bool_int {i : Int} {S : Sto} : oBool [.int i] S = .ok (.bl (i != 0)) S := rfl
theorem lot1_ok {l : List D} (h : Fl l) {R : Sto} (hR : SL R) {n : Nat} {vs os : List D} {x4 x5 x6 x7 : Option D} (hv : Lot n vs) (hl : vs.length ≤ 20) (hol : os.length ≤ 100) (ho : ∀ d ∈ os, NL n d) : ∃ l', fnRes (lot1 [some (.ref 0), some (.int (n : Int)), some (.tup vs), some (.lst os), x4, x5, x6, x7] (l :: R)) = .ok (.bl true) (l' :: R) ∧ Fl l' := by
  unfold lot1
  simp -implicitDefEqProofs only [r_dB, bind_ok, bind_ex, r_var, vk_some, List.getD_cons_zero, List.getD_cons_succ, r_dC, r_dOp, r_dUn, r_dTst, r_tst, r_dTru, r_optB, r_trub, r_truT, r_dNotT, r_dAndT, r_dOrT, r_dNot, r_dAnd, r_dOr, r_and1, r_and0, r_or1, r_or0, r_andb, r_orb, r_iteb, r_iteb2, r_raise, ix0, ix1, r_sSetIx, fl0, fl1, fl2, fl3, fs0, fs1, fs2, fs0, r_dIf, r_aNil, r_aCons, gd_t, r_dTup, r_dLst, r_dLstM, r_dSl, r_dNoP, r_dP, r_pK, r_dCB, r_dCall, r_dCallK, r_sSeq, sq_nx, sq_rt, sq_ex, sb_ok, sb_ex, r_sNil, r_sRet, r_sExpr, r_sIf, r_sSet, r_sPar, r_sAsg, r_asg, r_sFor, fn_rt, fn_nx, fn_ex, r_dIt, it_tup, it_lst, eq_int, eq_bl, eq_str, ne_str, cmp_int, add_int, sub_int, neg_int, len_tup, len_lst, tuple_lst, list_tup, i2_int, int_int, if_t, if_f, bd_nm, bd_tp, bd_nil, bd_cons, bdk, List.set_cons_zero, List.set_cons_succ, okL0, okL1, okL2, okL3, okL4, okL5, okL6, okL7, okL8, okL9, okL10, okL11, okL12, okL13, okL14, okL15, List.length_cons, List.length_nil, Nat.reduceAdd, Nat.zero_add, Nat.reduceLeDiff, Nat.reduceEqDiff, decide_true, decide_false, Bool.not_true, Bool.not_false, Bool.and_true, Bool.true_and, eq_self, List.cons_append, List.nil_append, pickL, List.map_cons, List.map_nil, ↓reduceIte, Bool.false_eq_true]
  by_cases h1 : (1 : Int) < (vs.length : Int)
  · rw [decide_eq_true h1]
    obtain ⟨k, l1, e1, f1, k1, k2⟩ := draw_ok h (m := (vs.length : Int) - 1) (by omega) (by omega) R
    obtain ⟨k, rfl⟩ := Int.eq_ofNat_of_zero_le k1
    have hk : k + 1 < vs.length := by omega
    have g0 : vs[k]? = some vs[k] := List.getElem?_eq_getElem (by omega)
    have g1 : vs[k + 1]? = some vs[k + 1] := List.getElem?_eq_getElem hk
    -- vs = take k ++ a :: b :: drop (k+2)
    have sp : vs = vs.take k ++ vs[k] :: vs[k + 1] :: vs.drop (k + 2) := by
      rw [List.getElem_cons_drop, List.getElem_cons_drop, List.take_append_drop]
    have lt : ltB (.tup [vs[k], vs[k + 1]]) = true := by
      cases e : ltB (.tup [vs[k], vs[k + 1]]) with
      | true => rfl
      | false =>
        have := hv.ch
        rw [sp, chain_no e] at this
        cases this
    obtain ⟨a, ea, _⟩ := hv.hi vs[k] (List.getElem_mem _)
    obtain ⟨b, eb, _⟩ := hv.hi vs[k + 1] (List.getElem_mem _)
    have lt2 : ltB (.tup [vs[k + 1], vs[k]]) = false := by
      rw [ea, eb] at lt ⊢
      have : (a : Int) < (b : Int) := of_decide_eq_true lt
      exact decide_eq_false (by omega)
    have n1 : NL n (.tup ((vs.take k ++ [vs[k + 1], vs[k]]) ++ vs.drop (k + 2))) := by
      refine ⟨lot_pl hv hl (fun d m => ?_) (by simp; omega), lot_noC (by rw [List.append_assoc]; exact chain_no lt2)⟩
      left
      rcases List.mem_append.mp m with m | m
      · rcases List.mem_append.mp m with m | m
        · exact List.mem_of_mem_take m
        · simp only [List.mem_cons, List.not_mem_nil, or_false] at m
          rcases m with rfl | rfl <;> exact List.getElem_mem _
      · exact List.mem_of_mem_drop m
    have n2 : NL n (.tup (vs.drop 1 ++ vs.take 1)) := by
      refine ⟨lot_pl hv hl (fun d m => ?_) (by simp; omega), ?_⟩
      · left
        rcases List.mem_append.mp m with m | m
        · exact List.mem_of_mem_drop m
        · exact List.mem_of_mem_take m
      · -- the last of the rest, then the first: all behind the first are greater
        apply lot_noC
        cases vs with
        | nil => simp at hk
        | cons x r =>
          have hr : r ≠ [] := fun e => by subst e; simp at hk
          have hl := List.dropLast_concat_getLast hr
          show chainB (r ++ [x]) = false
          rw [← hl, List.append_assoc]
          exact chain_no (hv.fs x r rfl _ (List.getLast_mem hr))
    have b1 : (vs.take k).length + [vs[k + 1], vs[k]].length ≤ 16777216 := by simp; omega
    have b2 : (vs.take k ++ [vs[k + 1], vs[k]]).length + (vs.drop (k + 2)).length ≤ 16777216 := by simp; omega
    have b3 : (vs.drop 1).length + (vs.take 1).length ≤ 16777216 := by simp; omega
    have b4 : os.length + [D.tup ((vs.take k ++ [vs[k + 1], vs[k]]) ++ vs.drop (k + 2)), D.tup (vs.drop 1 ++ vs.take 1)].length ≤ 16777216 := by rw [List.length_cons, List.length_cons, List.length_nil]; omega
    refine ⟨l1, ?_, f1⟩
    simp -implicitDefEqProofs only [e1, sl_to, sl_from2, ix_at g1, ix_tup g0, add_tup b1, add_tup b2, sl_1, sl_t1, add_tup b3, add_lst b4, r_dB, bind_ok, bind_ex, r_var, vk_some, List.getD_cons_zero, List.getD_cons_succ, r_dC, r_dOp, r_dUn, r_dTst, r_tst, r_dTru, r_optB, r_trub, r_truT, r_dNotT, r_dAndT, r_dOrT, r_dNot, r_dAnd, r_dOr, r_and1, r_and0, r_or1, r_or0, r_andb, r_orb, r_iteb, r_iteb2, r_raise, ix0, ix1, r_sSetIx, fl0, fl1, fl2, fl3, fs0, fs1, fs2, fs0, r_dIf, r_aNil, r_aCons, gd_t, r_dTup, r_dLst, r_dLstM, r_dSl, r_dNoP, r_dP, r_pK, r_dCB, r_dCall, r_dCallK, r_sSeq, sq_nx, sq_rt, sq_ex, sb_ok, sb_ex, r_sNil, r_sRet, r_sExpr, r_sIf, r_sSet, r_sPar, r_sAsg, r_asg, r_sFor, fn_rt, fn_nx, fn_ex, r_dIt, it_tup, it_lst, eq_int, eq_bl, eq_str, ne_str, cmp_int, add_int, sub_int, neg_int, len_tup, len_lst, tuple_lst, list_tup, i2_int, int_int, if_t, if_f, bd_nm, bd_tp, bd_nil, bd_cons, bdk, List.set_cons_zero, List.set_cons_succ, okL0, okL1, okL2, okL3, okL4, okL5, okL6, okL7, okL8, okL9, okL10, okL11, okL12, okL13, okL14, okL15, List.length_cons, List.length_nil, Nat.reduceAdd, Nat.zero_add, Nat.reduceLeDiff, Nat.reduceEqDiff, decide_true, decide_false, Bool.not_true, Bool.not_false, Bool.and_true, Bool.true_and, eq_self, List.cons_append, List.nil_append, pickL, List.map_cons, List.map_nil, ↓reduceIte, Bool.false_eq_true]
    exact lotE_ok f1 hR fun d m => by
      rcases List.mem_append.mp m with m | m
      · exact ho d m
      · simp only [List.mem_cons, List.not_mem_nil, or_false] at m
        rcases m with rfl | rfl
        · exact n1
        · exact n2
  · rw [decide_eq_false h1]
    simp -implicitDefEqProofs only [r_dB, bind_ok, bind_ex, r_var, vk_some, List.getD_cons_zero, List.getD_cons_succ, r_dC, r_dOp, r_dUn, r_dTst, r_tst, r_dTru, r_optB, r_trub, r_truT, r_dNotT, r_dAndT, r_dOrT, r_dNot, r_dAnd, r_dOr, r_and1, r_and0, r_or1, r_or0, r_andb, r_orb, r_iteb, r_iteb2, r_raise, ix0, ix1, r_sSetIx, fl0, fl1, fl2, fl3, fs0, fs1, fs2, fs0, r_dIf, r_aNil, r_aCons, gd_t, r_dTup, r_dLst, r_dLstM, r_dSl, r_dNoP, r_dP, r_pK, r_dCB, r_dCall, r_dCallK, r_sSeq, sq_nx, sq_rt, sq_ex, sb_ok, sb_ex, r_sNil, r_sRet, r_sExpr, r_sIf, r_sSet, r_sPar, r_sAsg, r_asg, r_sFor, fn_rt, fn_nx, fn_ex, r_dIt, it_tup, it_lst, eq_int, eq_bl, eq_str, ne_str, cmp_int, add_int, sub_int, neg_int, len_tup, len_lst, tuple_lst, list_tup, i2_int, int_int, if_t, if_f, bd_nm, bd_tp, bd_nil, bd_cons, bdk, List.set_cons_zero, List.set_cons_succ, okL0, okL1, okL2, okL3, okL4, okL5, okL6, okL7, okL8, okL9, okL10, okL11, okL12, okL13, okL14, okL15, List.length_cons, List.length_nil, Nat.reduceAdd, Nat.zero_add, Nat.reduceLeDiff, Nat.reduceEqDiff, decide_true, decide_false, Bool.not_true, Bool.not_false, Bool.and_true, Bool.true_and, eq_self, List.cons_append, List.nil_append, pickL, List.map_cons, List.map_nil, ↓reduceIte, Bool.false_eq_true]
    exact ⟨l, lotE_ok h hR ho, h⟩
theorem lot0_ok {l : List D} (h : Fl l) {R : Sto} (hR : SL R) {n : Nat} {vs os : List D} {x4 x5 x6 x7 : Option D} (hv : Lot n vs) (hl : vs.length ≤ 20) (hol : os.length ≤ 50) (ho : ∀ d ∈ os, NL n d) : ∃ l', fnRes (lot0 [some (.ref 0), some (.int (n : Int)), some (.tup vs), some (.lst os), x4, x5, x6, x7] (l :: R)) = .ok (.bl true) (l' :: R) ∧ Fl l' := by
  unfold lot0
  simp -implicitDefEqProofs only [r_dB, bind_ok, bind_ex, r_var, vk_some, List.getD_cons_zero, List.getD_cons_succ, r_dC, r_dOp, r_dUn, r_dTst, r_tst, r_dTru, r_optB, r_trub, r_truT, r_dNotT, r_dAndT, r_dOrT, r_dNot, r_dAnd, r_dOr, r_and1, r_and0, r_or1, r_or0, r_andb, r_orb, r_iteb, r_iteb2, r_raise, ix0, ix1, r_sSetIx, fl0, fl1, fl2, fl3, fs0, fs1, fs2, fs0, r_dIf, r_aNil, r_aCons, gd_t, r_dTup, r_dLst, r_dLstM, r_dSl, r_dNoP, r_dP, r_pK, r_dCB, r_dCall, r_dCallK, r_sSeq, sq_nx, sq_rt, sq_ex, sb_ok, sb_ex, r_sNil, r_sRet, r_sExpr, r_sIf, r_sSet, r_sPar, r_sAsg, r_asg, r_sFor, fn_rt, fn_nx, fn_ex, r_dIt, it_tup, it_lst, eq_int, eq_bl, eq_str, ne_str, cmp_int, add_int, sub_int, neg_int, len_tup, len_lst, tuple_lst, list_tup, i2_int, int_int, if_t, if_f, bd_nm, bd_tp, bd_nil, bd_cons, bdk, List.set_cons_zero, List.set_cons_succ, okL0, okL1, okL2, okL3, okL4, okL5, okL6, okL7, okL8, okL9, okL10, okL11, okL12, okL13, okL14, okL15, List.length_cons, List.length_nil, Nat.reduceAdd, Nat.zero_add, Nat.reduceLeDiff, Nat.reduceEqDiff, decide_true, decide_false, Bool.not_true, Bool.not_false, Bool.and_true, Bool.true_and, eq_self, List.cons_append, List.nil_append, pickL, List.map_cons, List.map_nil, ↓reduceIte, Bool.false_eq_true]
  by_cases h1 : (0 : Int) < (vs.length : Int)
  · rw [decide_eq_true h1]
    have hne : vs ≠ [] := fun e => by rw [e] at h1; simp at h1
    have hL := List.getLast?_eq_some_getLast hne
    obtain ⟨z, ez, hz⟩ := hv.hi _ (List.getLast_mem hne)
    rw [ez] at hL
    have gl : vs[vs.length - 1]? = some (.int (z : Int)) := by rw [← List.getLast?_eq_getElem?]; exact hL
    have il : ∀ S : Sto, oIx (.tup vs) (.int ((vs.length : Int) - 1)) S = .ok (.int (z : Int)) S := fun S => by
      rw [show (vs.length : Int) - 1 = ((vs.length - 1 : Nat) : Int) by omega]
      exact ix_tup gl
    obtain ⟨k, l1, e1, f1, k1, k2⟩ := draw_ok h (m := (vs.length : Int)) (by omega) (by omega) R
    obtain ⟨k, rfl⟩ := Int.eq_ofNat_of_zero_le k1
    have hk : k < vs.length := by omega
    have g0 : vs[k]? = some vs[k] := List.getElem?_eq_getElem hk
    have hS := f1.sl hR
    have pv : Pl (.tup vs) = true := pl_tup_of hv.pl (by omega)
    have t1 : isLot ((z : Int) + 1) (.tup vs) = true := by
      show (vs.all isN && (chainB vs && (vs.isEmpty || lastB ((z : Int) + 1) vs))) = true
      have : lastB ((z : Int) + 1) vs = true := by unfold lastB; rw [hL]; exact decide_eq_true (by omega)
      rw [hv.isN, hv.ch, this, Bool.or_true]; rfl
    have t2 : isLot (z : Int) (.tup vs) = false := lot_noL hL (by omega)
    have sp : vs = vs.take k ++ vs[k] :: vs.drop (k + 1) := by
      rw [List.getElem_cons_drop, List.take_append_drop]
    obtain ⟨a, ea, _⟩ := hv.hi vs[k] (List.getElem_mem _)
    have n1 : NL n (.tup (vs.take (k + 1) ++ vs.drop k)) := by
      refine ⟨lot_pl hv hl (fun d m => ?_) (by simp; omega), ?_⟩
      · left
        rcases List.mem_append.mp m with m | m
        · exact List.mem_of_mem_take m
        · exact List.mem_of_mem_drop m
      · apply lot_noC
        rw [List.take_succ_eq_append_getElem hk, List.append_assoc, ← List.getElem_cons_drop hk]
        exact chain_no (by rw [ea]; exact decide_eq_false (by omega))
    have n2 : ∀ b : Bool, NL n (.tup ((vs.take k ++ [D.bl b]) ++ vs.drop (k + 1))) := fun b => by
      refine ⟨lot_pl hv hl (fun d m => ?_) (by simp; omega), lot_noN (d := .bl b) (by simp) rfl⟩
      rcases List.mem_append.mp m with m | m
      · rcases List.mem_append.mp m with m | m
        · exact .inl (List.mem_of_mem_take m)
        · rw [List.mem_singleton.mp m]; exact .inr rfl
      · exact .inl (List.mem_of_mem_drop m)
    have n3 : NL n vs[k] := by rw [ea]; exact ⟨rfl, rfl⟩
    have n4 : NL n (.lst [vs[k]]) := by rw [ea]; exact ⟨rfl, rfl⟩
    have n5 : NL n (.tup [.tup vs]) := ⟨pl_tup_of (fun d m => by rw [List.mem_singleton.mp m]; exact pv) (by simp), lot_noN List.mem_cons_self rfl⟩
    have b1 : (vs.take (k + 1)).length + (vs.drop k).length ≤ 16777216 := by simp; omega
    have b2 : ∀ b : Bool, (vs.take k).length + [D.bl b].length ≤ 16777216 := fun b => by simp; omega
    have b3 : ∀ b : Bool, (vs.take k ++ [D.bl b]).length + (vs.drop (k + 1)).length ≤ 16777216 := fun b => by simp; omega
    have b4 : ∀ b : Bool, os.length + [D.tup (vs.take (k + 1) ++ vs.drop k), D.tup ((vs.take k ++ [D.bl b]) ++ vs.drop (k + 1)), vs[k], D.lst [vs[k]], D.tup [D.tup vs]].length ≤ 16777216 := fun b => by simp only [List.length_cons, List.length_nil]; omega
    simp -implicitDefEqProofs only [il, e1, ok_lot (n := (z : Int) + 1) pv hS, ok_lot (n := (z : Int)) pv hS, t1, t2, ok_is, sl_to, sl_to1, sl_from, sl_from1, add_tup b1, bool_int, add_tup (b2 _), add_tup (b3 _), ix_tup g0, add_lst (b4 _), r_dB, bind_ok, bind_ex, r_var, vk_some, List.getD_cons_zero, List.getD_cons_succ, r_dC, r_dOp, r_dUn, r_dTst, r_tst, r_dTru, r_optB, r_trub, r_truT, r_dNotT, r_dAndT, r_dOrT, r_dNot, r_dAnd, r_dOr, r_and1, r_and0, r_or1, r_or0, r_andb, r_orb, r_iteb, r_iteb2, r_raise, ix0, ix1, r_sSetIx, fl0, fl1, fl2, fl3, fs0, fs1, fs2, fs0, r_dIf, r_aNil, r_aCons, gd_t, r_dTup, r_dLst, r_dLstM, r_dSl, r_dNoP, r_dP, r_pK, r_dCB, r_dCall, r_dCallK, r_sSeq, sq_nx, sq_rt, sq_ex, sb_ok, sb_ex, r_sNil, r_sRet, r_sExpr, r_sIf, r_sSet, r_sPar, r_sAsg, r_asg, r_sFor, fn_rt, fn_nx, fn_ex, r_dIt, it_tup, it_lst, eq_int, eq_bl, eq_str, ne_str, cmp_int, add_int, sub_int, neg_int, len_tup, len_lst, tuple_lst, list_tup, i2_int, int_int, if_t, if_f, bd_nm, bd_tp, bd_nil, bd_cons, bdk, List.set_cons_zero, List.set_cons_succ, okL0, okL1, okL2, okL3, okL4, okL5, okL6, okL7, okL8, okL9, okL10, okL11, okL12, okL13, okL14, okL15, List.length_cons, List.length_nil, Nat.reduceAdd, Nat.zero_add, Nat.reduceLeDiff, Nat.reduceEqDiff, decide_true, decide_false, Bool.not_true, Bool.not_false, Bool.and_true, Bool.true_and, eq_self, List.cons_append, List.nil_append, pickL, List.map_cons, List.map_nil, ↓reduceIte, Bool.false_eq_true]
    refine lot1_ok f1 hR hv hl ?_ fun d m => ?_
    · rw [List.length_append]; simp only [List.length_cons, List.length_nil]; omega
    · rcases List.mem_append.mp m with m | m
      · exact ho d m
      · simp only [List.mem_cons, List.not_mem_nil, or_false] at m
        rcases m with rfl | rfl | rfl | rfl | rfl
        · exact n1
        · exact n2 _
        · exact n3
        · exact n4
        · exact n5
  · rw [decide_eq_false h1]
    simp -implicitDefEqProofs only [r_dB, bind_ok, bind_ex, r_var, vk_some, List.getD_cons_zero, List.getD_cons_succ, r_dC, r_dOp, r_dUn, r_dTst, r_tst, r_dTru, r_optB, r_trub, r_truT, r_dNotT, r_dAndT, r_dOrT, r_dNot, r_dAnd, r_dOr, r_and1, r_and0, r_or1, r_or0, r_andb, r_orb, r_iteb, r_iteb2, r_raise, ix0, ix1, r_sSetIx, fl0, fl1, fl2, fl3, fs0, fs1, fs2, fs0, r_dIf, r_aNil, r_aCons, gd_t, r_dTup, r_dLst, r_dLstM, r_dSl, r_dNoP, r_dP, r_pK, r_dCB, r_dCall, r_dCallK, r_sSeq, sq_nx, sq_rt, sq_ex, sb_ok, sb_ex, r_sNil, r_sRet, r_sExpr, r_sIf, r_sSet, r_sPar, r_sAsg, r_asg, r_sFor, fn_rt, fn_nx, fn_ex, r_dIt, it_tup, it_lst, eq_int, eq_bl, eq_str, ne_str, cmp_int, add_int, sub_int, neg_int, len_tup, len_lst, tuple_lst, list_tup, i2_int, int_int, if_t, if_f, bd_nm, bd_tp, bd_nil, bd_cons, bdk, List.set_cons_zero, List.set_cons_succ, okL0, okL1, okL2, okL3, okL4, okL5, okL6, okL7, okL8, okL9, okL10, okL11, okL12, okL13, okL14, okL15, List.length_cons, List.length_nil, Nat.reduceAdd, Nat.zero_add, Nat.reduceLeDiff, Nat.reduceEqDiff, decide_true, decide_false, Bool.not_true, Bool.not_false, Bool.and_true, Bool.true_and, eq_self, List.cons_append, List.nil_append, pickL, List.map_cons, List.map_nil, ↓reduceIte, Bool.false_eq_true]
    exact lot1_ok h hR hv hl (by omega) ho
theorem lots_true {l : List D} (h : Fl l) {R : Sto} (hR : SL R) : ∃ l', F__law_lots_hold [.ref 0] (l :: R) = .ok (.bl true) (l' :: R) ∧ Fl l' := by
  show ∃ l', fnRes (b__law_lots_hold [some (.ref 0), none, none, none, none, none, none, none] (l :: R)) = _ ∧ _
  rw [lot_split]
  obtain ⟨r, l1, e1, f1, a1, a2⟩ := draw_ok h (m := 20) (by decide) (by decide) R
  obtain ⟨n, rfl⟩ := Int.eq_ofNat_of_zero_le a1
  have hn : n < 20 := by omega
  have er : dRng1 (aCons (dV 1) aNil) [some (.ref 0), some (.int (n : Int)), none, none, none, none, none, none] (l1 :: R) = .ok (rngD 0 (n : Int), none) (l1 :: R) := rng_run rfl (by omega)
  obtain ⟨vs, S', e2, ⟨l2, rfl, f2⟩, sub⟩ := lc_flt (t := .nm 7) (ft := (dTst (dOp (oCmp fun i j => decide (j < i)) (dCall 2 F__law_draw (aCons (dV 0) (aCons (dC (.int 3)) aNil))) (dC (.int 0))))) (fe := dV 7) (ρ := wipeR [some (.ref 0), some (.int (n : Int)), none, none, none, none, none, none] [7])
    (fun S => ∃ l', S = l' :: R ∧ Fl l') (R.length + 1) (fun S ⟨l', e, _⟩ => by rw [e]; rfl) (rngD 0 (n : Int)) (rngD 0 (n : Int)) (l1 :: R) [] ⟨l1, rfl, f1⟩ (by rw [rng_len, List.length_nil]; omega) (by
      intro d hd S acc ⟨l3, e, f3⟩
      subst e
      obtain ⟨r, l4, e4, f4, _, _⟩ := draw_ok f3 (m := 3) (by decide) (by decide) (R ++ [acc])
      refine ⟨[some (.ref 0), some (.int (n : Int)), none, none, none, none, none, some d], rfl, decide (0 < r), l4 :: R, ?_, ⟨l4, rfl, f4⟩, rfl⟩
      simp -implicitDefEqProofs only [e4, r_dB, bind_ok, bind_ex, r_var, vk_some, List.getD_cons_zero, List.getD_cons_succ, r_dC, r_dOp, r_dUn, r_dTst, r_tst, r_dTru, r_optB, r_trub, r_truT, r_dNotT, r_dAndT, r_dOrT, r_dNot, r_dAnd, r_dOr, r_and1, r_and0, r_or1, r_or0, r_andb, r_orb, r_iteb, r_iteb2, r_raise, ix0, ix1, r_sSetIx, fl0, fl1, fl2, fl3, fs0, fs1, fs2, fs0, r_dIf, r_aNil, r_aCons, gd_t, r_dTup, r_dLst, r_dLstM, r_dSl, r_dNoP, r_dP, r_pK, r_dCB, r_dCall, r_dCallK, r_sSeq, sq_nx, sq_rt, sq_ex, sb_ok, sb_ex, r_sNil, r_sRet, r_sExpr, r_sIf, r_sSet, r_sPar, r_sAsg, r_asg, r_sFor, fn_rt, fn_nx, fn_ex, r_dIt, it_tup, it_lst, eq_int, eq_bl, eq_str, ne_str, cmp_int, add_int, sub_int, neg_int, len_tup, len_lst, tuple_lst, list_tup, i2_int, int_int, if_t, if_f, bd_nm, bd_tp, bd_nil, bd_cons, bdk, List.set_cons_zero, List.set_cons_succ, okL0, okL1, okL2, okL3, okL4, okL5, okL6, okL7, okL8, okL9, okL10, okL11, okL12, okL13, okL14, okL15, List.length_cons, List.length_nil, Nat.reduceAdd, Nat.zero_add, Nat.reduceLeDiff, Nat.reduceEqDiff, decide_true, decide_false, Bool.not_true, Bool.not_false, Bool.and_true, Bool.true_and, eq_self, List.cons_append, List.nil_append, pickL, List.map_cons, List.map_nil, ↓reduceIte, Bool.false_eq_true])
  have hv := lot_of sub
  have hl : vs.length ≤ 20 := by
    have := sub.length_le
    rw [rng_len] at this
    omega
  have hS := f2.sl hR
  have pv : Pl (.tup vs) = true := pl_tup_of hv.pl (by omega)
  have e3 : dLc finI (dRng1 (aCons (dV 1) aNil)) (.nm 7) (dTst (dOp (oCmp fun i j => decide (j < i)) (dCall 2 F__law_draw (aCons (dV 0) (aCons (dC (.int 3)) aNil))) (dC (.int 0)))) (dV 7) [7] [some (.ref 0), some (.int (n : Int)), none, none, none, none, none, none] (l1 :: R) = .ok (.lst vs) (l2 :: R) := by
    unfold dLc
    rw [r_dB, er, bind_ok]
    dsimp only
    rw [show (l1 :: R).length = R.length + 1 from rfl, e2, bind_ok]
    unfold finI
    have e5 : ((l2 :: R) ++ [[] ++ vs])[R.length + 1]? = some vs := by simp
    have e6 : ((l2 :: R) ++ [[] ++ vs]).take (R.length + 1) = l2 :: R := by simp
    simp only [e5, e6]
    rw [r_guard (by rw [pls_low _ (pls_of hv.pl), hS.low]; rfl)]
  have t1 : isLot (n : Int) (.tup vs) = true := hv.at (Nat.le_refl n)
  have t2 : isLot ((n : Int) + 1) (.tup vs) = true := hv.at (m := n + 1) (Nat.le_succ n)
  have plw : ∀ {ws : List D}, (∀ d ∈ ws, d ∈ vs ∨ Pl d = true) → ws.length ≤ 1000 → Pl (.tup ws) = true := fun hw hl' => lot_pl hv hl hw hl'
  have c1 : ∀ x : D, vs.length + [x].length ≤ 16777216 := fun x => by rw [List.length_cons, List.length_nil]; omega
  have c2 : ∀ x : D, [x].length + vs.length ≤ 16777216 := fun x => by rw [List.length_cons, List.length_nil]; omega
  have pa : ∀ x : D, Pl x = true → Pl (.tup (vs ++ [x])) = true := fun x hx => plw (fun d m => by
    rcases List.mem_append.mp m with m | m
    · exact .inl m
    · rw [List.mem_singleton.mp m]; exact .inr hx) (by rw [List.length_append, List.length_cons, List.length_nil]; omega)
  have pb : ∀ x : D, Pl x = true → Pl (.tup (x :: vs)) = true := fun x hx => plw (fun d m => by
    rcases List.mem_cons.mp m with rfl | m
    · exact .inr hx
    · exact .inl m) (by rw [List.length_cons]; omega)
  simp -implicitDefEqProofs only [e1, e3, ok_lot (n := (n : Int)) pv hS, ok_lot (n := (n : Int) + 1) pv hS, t1, t2, ok_is, add_tup (c1 _), add_tup (c2 _), pow59, add_lst, r_dB, bind_ok, bind_ex, r_var, vk_some, List.getD_cons_zero, List.getD_cons_succ, r_dC, r_dOp, r_dUn, r_dTst, r_tst, r_dTru, r_optB, r_trub, r_truT, r_dNotT, r_dAndT, r_dOrT, r_dNot, r_dAnd, r_dOr, r_and1, r_and0, r_or1, r_or0, r_andb, r_orb, r_iteb, r_iteb2, r_raise, ix0, ix1, r_sSetIx, fl0, fl1, fl2, fl3, fs0, fs1, fs2, fs0, r_dIf, r_aNil, r_aCons, gd_t, r_dTup, r_dLst, r_dLstM, r_dSl, r_dNoP, r_dP, r_pK, r_dCB, r_dCall, r_dCallK, r_sSeq, sq_nx, sq_rt, sq_ex, sb_ok, sb_ex, r_sNil, r_sRet, r_sExpr, r_sIf, r_sSet, r_sPar, r_sAsg, r_asg, r_sFor, fn_rt, fn_nx, fn_ex, r_dIt, it_tup, it_lst, eq_int, eq_bl, eq_str, ne_str, cmp_int, add_int, sub_int, neg_int, len_tup, len_lst, tuple_lst, list_tup, i2_int, int_int, if_t, if_f, bd_nm, bd_tp, bd_nil, bd_cons, bdk, List.set_cons_zero, List.set_cons_succ, okL0, okL1, okL2, okL3, okL4, okL5, okL6, okL7, okL8, okL9, okL10, okL11, okL12, okL13, okL14, okL15, List.length_cons, List.length_nil, Nat.reduceAdd, Nat.zero_add, Nat.reduceLeDiff, Nat.reduceEqDiff, decide_true, decide_false, Bool.not_true, Bool.not_false, Bool.and_true, Bool.true_and, eq_self, List.cons_append, List.nil_append, pickL, List.map_cons, List.map_nil, ↓reduceIte, Bool.false_eq_true]
  refine lot0_ok f2 hR hv hl (by simp only [List.length_cons, List.length_nil]; decide) fun d m => ?_
  have last : ∀ i : Int, (vs ++ [D.int i]).getLast? = some (.int i) := fun i => by simp
  simp only [List.mem_cons, List.not_mem_nil, or_false] at m
  rcases m with rfl | rfl | rfl | rfl | rfl | rfl | rfl | rfl | rfl | rfl | rfl | rfl | rfl | rfl
  · exact ⟨pa _ rfl, lot_noL (last _) (by omega)⟩
  · exact ⟨pb _ rfl, lot_noN List.mem_cons_self rfl⟩
  · exact ⟨pl_lst_of hv.pl (by omega), rfl⟩
  · exact ⟨pb _ rfl, lot_noN List.mem_cons_self rfl⟩
  · exact ⟨pa _ rfl, lot_noN (d := .str "1") (by simp) rfl⟩
  · exact ⟨rfl, rfl⟩
  · exact ⟨rfl, rfl⟩
  · exact ⟨rfl, rfl⟩
  · exact ⟨rfl, rfl⟩
  · exact ⟨rfl, rfl⟩
  · exact ⟨rfl, rfl⟩
  · exact ⟨rfl, rfl⟩
  · exact ⟨rfl, rfl⟩
  · exact ⟨pa _ rfl, lot_noL (last _) (by omega)⟩
end k00

set_option Elab.async false
set_option linter.all false
set_option maxRecDepth 100000
set_option maxHeartbeats 1000000
namespace k00
open PySem DE
mutual
/-- short numbers and texts throughout -/
def Sm : D → Bool
  | .non => true
  | .bl _ => true
  | .int i => decide (i.natAbs < 10 ^ 61)
  | .str x => decide (x.cps.size ≤ 20) && x.cps.toList.all fun c => decide (c < 16 ^ 8)
  | .tup l => Sms l
  | .lst l => Sms l
  | _ => false
def Sms : List D → Bool
  | [] => true
  | d :: ds => Sm d && Sms ds
end
mutual
/-- how many knots -/
def nD : D → Nat
  | .tup l => nDs l + 1
  | .lst l => nDs l + 1
  | _ => 1
def nDs : List D → Nat
  | [] => 0
  | d :: ds => nD d + nDs ds
end
mutual
/-- how deep -/
def hD : D → Nat
  | .tup l => hDs l + 1
  | .lst l => hDs l + 1
  | _ => 0
def hDs : List D → Nat
  | [] => 0
  | d :: ds => max (hD d) (hDs ds)
end
structure Fine0 (d : D) (p : PyData) : Prop where
  py : d.py0 = some p
  sh : p.showable = true
  nd : p.hasDict = false
  lf : p.leavesShort 70 = true
  wt : p.weight + 1 ≤ 250 * nD d
  dp : p.depth ≤ hD d
structure Fines (ds : List D) (ps : List PyData) : Prop where
  py : D.py0s ds = some ps
  sh : PyData.showableAll ps = true
  nd : PyData.hasDictAll ps = false
  lf : PyData.leavesShortAll 70 ps = true
  wt : PyData.weightAll ps ≤ 250 * nDs ds
  dp : PyData.depthAll ps ≤ hDs ds
theorem int_len {i : Int} (h : i.natAbs < 10 ^ 61) : (PyData.shown (.int i)).length ≤ 70 := by
  have e := int_text_length_le10 (k := 61) (by decide) h
  show (Str.ofString (toString i)).length ≤ 70
  rw [ofString_length]; omega
theorem int_log {i : Int} (h : i.natAbs < 10 ^ 61) (h0 : i.natAbs ≠ 0) : i.natAbs.log2 < 204 := by
  refine (Nat.log2_lt h0).mpr (Nat.lt_of_lt_of_le h ?_)
  decide
mutual
theorem fine0 : ∀ {d : D}, Sm d = true → ∃ p, Fine0 d p
  | .non, _ => ⟨_, rfl, rfl, rfl, rfl, by decide, Nat.le_refl _⟩
  | .bl b, _ => ⟨_, rfl, rfl, rfl, rfl, by show 0 + 1 ≤ 250 * 1; decide, Nat.le_refl _⟩
  | .int i, h => by
    have hi : i.natAbs < 10 ^ 61 := of_decide_eq_true h
    refine ⟨.int i, rfl, ?_, rfl, ?_, ?_, Nat.le_refl _⟩
    · show decide (i.natAbs.log2 < 1920) = true
      apply decide_eq_true
      by_cases h0 : i.natAbs = 0
      · rw [h0]; decide
      · have := int_log hi h0; omega
    · exact decide_eq_true (int_len hi)
    · show (if (i == 0) = true then 0 else i.natAbs.log2 + 1) + 1 ≤ 250 * 1
      split
      · decide
      · rename_i h0
        have := int_log hi (by simp at h0; omega)
        omega
  | .str x, h => by
    have h' : x.cps.size ≤ 20 ∧ (x.cps.toList.all fun c => decide (c < 16 ^ 8)) = true := by
      unfold Sm at h
      rw [Bool.and_eq_true] at h
      exact ⟨of_decide_eq_true h.1, h.2⟩
    exact ⟨.str x, rfl, rfl, rfl, h'.2, by show x.cps.size + 1 ≤ 250 * 1; omega, Nat.le_refl _⟩
  | .tup l, h => by
    have h' : Sms l = true := by unfold Sm at h; exact h
    obtain ⟨ps, q⟩ := fines h'
    refine ⟨.tuple ps, ?_, q.sh, q.nd, q.lf, ?_, ?_⟩
    · show (D.py0s l).map PyData.tuple = _
      rw [q.py]; rfl
    · have := q.wt
      show PyData.weightAll ps + 1 ≤ 250 * (nDs l + 1)
      omega
    · have := q.dp
      show PyData.depthAll ps + 1 ≤ hDs l + 1
      omega
  | .lst l, h => by
    have h' : Sms l = true := by unfold Sm at h; exact h
    obtain ⟨ps, q⟩ := fines h'
    refine ⟨.list ps, ?_, q.sh, q.nd, q.lf, ?_, ?_⟩
    · show (D.py0s l).map PyData.list = _
      rw [q.py]; rfl
    · have := q.wt
      show PyData.weightAll ps + 1 ≤ 250 * (nDs l + 1)
      omega
    · have := q.dp
      show PyData.depthAll ps + 1 ≤ hDs l + 1
      omega
  | .fr _, h => by simp [Sm] at h
  | .ref _, h => by simp [Sm] at h
  | .ty _, h => by simp [Sm] at h
  | .exo _ _ _, h => by simp [Sm] at h
theorem fines : ∀ {ds : List D}, Sms ds = true → ∃ ps, Fines ds ps
  | [], _ => ⟨[], rfl, rfl, rfl, rfl, Nat.le_refl _, Nat.le_refl _⟩
  | d :: ds, h => by
    have h' : Sm d = true ∧ Sms ds = true := by unfold Sms at h; simpa using h
    obtain ⟨p, q⟩ := fine0 h'.1
    obtain ⟨ps, r⟩ := fines h'.2
    refine ⟨p :: ps, ?_, ?_, ?_, ?_, ?_, ?_⟩
    · show (match D.py0 d, D.py0s ds with | some p, some ps => some (p :: ps) | _, _ => none) = _
      rw [q.py, r.py]
    · show (p.showable && PyData.showableAll ps) = true
      rw [q.sh, r.sh]; rfl
    · show (p.hasDict || PyData.hasDictAll ps) = false
      rw [q.nd, r.nd]; rfl
    · show (p.leavesShort 70 && PyData.leavesShortAll 70 ps) = true
      rw [q.lf, r.lf]; rfl
    · have := q.wt
      have := r.wt
      show p.weight + 1 + PyData.weightAll ps ≤ 250 * (nD d + nDs ds)
      omega
    · have := q.dp
      have := r.dp
      show max p.depth (PyData.depthAll ps) ≤ max (hD d) (hDs ds)
      omega
end
def shD (d : D) : Str := match d.py0 with
  | some p => p.shown
  | none => ""
theorem fine_of {d : D} {p : PyData} (q : Fine0 d p) (hd : PyProof.Rows.isDisplay p = true) (hn : nD d ≤ 900) (hh : hD d ≤ 60) : PyData.fine p = true := by
  have h := PyData.shown_le 70 (by decide) p q.lf
  have h1 := q.wt
  have h2 := q.dp
  unfold PyData.fine
  rw [q.sh, q.nd, hd, decide_eq_true (show p.depth ≤ 60 by omega)]
  show okLen p.shown.length = true
  exact decide_eq_true (by omega)
/-- repr of small data -/
theorem repr_ok {d : D} {S : Sto} (hs : Sm d = true) (hn : nD d ≤ 900) (hh : hD d ≤ 60) (ht : isTup d = true) : oRepr [d] S = .ok (.str (shD d)) S := by
  obtain ⟨p, q⟩ := fine0 hs
  cases d with
  | tup l =>
    unfold oRepr
    show (match (D.tup l).py0 with | some p => DE.guard (DE.PyData.fine p) (Res.ok (D.str p.shown) S) | none => Res.bad) = _
    unfold shD
    rw [q.py]
    have hd : PyProof.Rows.isDisplay p = true := by
      have := q.py
      change (D.py0s l).map PyData.tuple = some p at this
      cases e : D.py0s l with
      | none => rw [e] at this; cases this
      | some ps => rw [e] at this; cases this; rfl
    exact r_guard (fine_of q hd hn hh)
  | _ => cases ht
theorem repr_any {d : D} (hs : Sm d = true) (hn : nD d ≤ 900) (hh : hD d ≤ 60) (hb : isBl d = false) : ∃ x : Str, ∀ S, oRepr [d] S = .ok (.str x) S := by
  cases d with
  | tup l => exact ⟨_, fun S => repr_ok hs hn hh rfl⟩
  | lst l =>
    obtain ⟨p, q⟩ := fine0 hs
    refine ⟨shD (.lst l), fun S => ?_⟩
    unfold oRepr
    show (match (D.lst l).py0 with | some p => DE.guard (DE.PyData.fine p) (Res.ok (D.str p.shown) S) | none => Res.bad) = _
    unfold shD
    rw [q.py]
    have hd : PyProof.Rows.isDisplay p = true := by
      have := q.py
      change (D.py0s l).map PyData.list = some p at this
      cases e : D.py0s l with
      | none => rw [e] at this; cases this
      | some ps => rw [e] at this; cases this; rfl
    exact r_guard (fine_of q hd hn hh)
  | non => exact ⟨_, fun S => rfl⟩
  | bl b => cases hb
  | int i =>
    have hi : i.natAbs < 10 ^ 61 := of_decide_eq_true hs
    refine ⟨Str.ofString (toString i), fun S => ?_⟩
    show DE.guard (decide (i.natAbs.log2 < 1920)) _ = _
    rw [r_guard]
    by_cases h0 : i.natAbs = 0
    · rw [h0]; decide
    · exact decide_eq_true (by have := int_log hi h0; omega)
  | str x =>
    refine ⟨reprText x, fun S => ?_⟩
    have h' : x.cps.size ≤ 20 ∧ (x.cps.toList.all fun c => decide (c < 16 ^ 8)) = true := by
      unfold Sm at hs
      rw [Bool.and_eq_true] at hs
      exact ⟨of_decide_eq_true hs.1, hs.2⟩
    have e := PyData.shown_le 70 (by decide) (.str x) h'.2
    have e2 : (PyData.str x).weight = x.cps.size := rfl
    have e3 : (PyData.str x).shown = reprText x := rfl
    rw [e2, e3] at e
    show DE.guard (okLen (reprText x).length) _ = _
    exact r_guard (b := okLen (reprText x).length) (decide_eq_true (by omega))
  | _ => simp [Sm] at hs
end k00

set_option Elab.async false
set_option linter.all false
set_option maxRecDepth 100000
set_option maxHeartbeats 1000000
namespace k00
open PySem DE
def T2 (n : Int) : Str := shD (.tup [.str "told", .int n])
def T3 (w : Str) (i : Int) : Str := shD (.tup [.str "refused", .str w, .int i])
def toldS (o : Option (Str × Int)) (n : Int) : Str := match o with
  | none => T2 n
  | some (w, i) => T3 w i
def wordsV : List Str := ["shape", "take", "give", "size", "deeds"]
theorem first_w {n : Int} : ∀ {ds : List D} {i : Nat} {w : Str} {j : Int}, firstV n i ds = some (w, j) → w ∈ wordsV ∧ (i : Int) ≤ j ∧ j < (i : Int) + ds.length
  | [], i, w, j, h => by cases h
  | d :: ds, i, w, j, h => by
    unfold firstV at h
    cases e : deedV n d with
    | some w' =>
      rw [e] at h
      cases h
      refine ⟨?_, Int.le_refl _, by rw [List.length_cons]; omega⟩
      unfold deedV at e
      unfold wordsV
      split at e
      · split at e
        · split at e
          · cases e
          · cases e; decide
        · cases e; decide
      · cases e; decide
    | none =>
      rw [e] at h
      obtain ⟨h1, h2, h3⟩ := first_w (i := i + 1) h
      exact ⟨h1, by omega, by rw [List.length_cons]; omega⟩
theorem book_w {d : D} (h : Pl d = true) {w : Str} {j : Int} (e : bookV d = some (w, j)) : w ∈ wordsV ∧ -1 ≤ j ∧ j < 1000 := by
  have W : ∀ {w : Str}, w ∈ wordsV → w ∈ wordsV ∧ -1 ≤ (-1 : Int) ∧ (-1 : Int) < 1000 := fun h => ⟨h, by decide, by decide⟩
  unfold bookV at e
  split at e
  · rename_i a b
    have hp := (pl_tup h).2
    unfold bookV2 at e
    split at e
    · split at e
      · rename_i ds
        obtain ⟨hl, _⟩ := pl_tup (hp (.tup ds) (by simp))
        obtain ⟨h1, h2, h3⟩ := first_w e
        exact ⟨h1, by omega, by omega⟩
      · cases e; exact W (by decide)
    · cases e; exact W (by decide)
  · cases e; exact W (by decide)
mutual
theorem pl_noX : ∀ {d : D}, Pl d = true → d.noX = true
  | .non, _ => rfl
  | .bl _, _ => rfl
  | .int _, _ => rfl
  | .str _, _ => rfl
  | .tup l, h => by unfold Pl at h; rw [Bool.and_eq_true] at h; unfold D.noX; exact pls_noX h.2
  | .lst l, h => by unfold Pl at h; rw [Bool.and_eq_true] at h; unfold D.noX; exact pls_noX h.2
  | .fr _, h => by simp [Pl] at h
  | .ref _, h => by simp [Pl] at h
  | .ty _, h => by simp [Pl] at h
  | .exo _ _ _, h => by simp [Pl] at h
theorem pls_noX : ∀ {ds : List D}, Pls ds = true → D.noXs ds = true
  | [], _ => by unfold D.noXs; rfl
  | d :: ds, h => by
    unfold Pls at h
    rw [Bool.and_eq_true] at h
    unfold D.noXs
    rw [pl_noX h.1, pls_noX h.2]; rfl
end
theorem sm_words : ∀ w ∈ wordsV, Sm (.str w) = true := by decide
theorem repr_T2 {n : Int} {S : Sto} (h : 0 ≤ n) (h2 : n ≤ 1000) : oRepr [.tup [.str "told", .int n]] S = .ok (.str (T2 n)) S := repr_ok (by
  have a : Sm (.str "told") = true := by decide
  have b : Sm (.int n) = true := decide_eq_true (by omega)
  unfold Sm Sms Sms Sms
  rw [a, b]; rfl) (by show 1 + (1 + 0) + 1 ≤ 900; decide) (by show max 0 (max 0 0) + 1 ≤ 60; decide) rfl
theorem repr_T3 {w : Str} {i : Int} {S : Sto} (hw : w ∈ wordsV) (h : -1 ≤ i) (h2 : i ≤ 1000) : oRepr [.tup [.str "refused", .str w, .int i]] S = .ok (.str (T3 w i)) S := repr_ok (by
  have a : Sm (.str "refused") = true := by decide
  have b : Sm (.int i) = true := decide_eq_true (by omega)
  unfold Sm Sms Sms Sms Sms
  rw [a, b, sm_words w hw]; rfl) (by show 1 + (1 + (1 + 0)) + 1 ≤ 900; decide) (by show max 0 (max 0 (max 0 0)) + 1 ≤ 60; decide) rfl
theorem bookN_le {d : D} (h : Pl d = true) : 0 ≤ bookN d ∧ bookN d ≤ 1000 := by
  unfold bookN
  split
  · rename_i a ds
    obtain ⟨_, hp⟩ := pl_tup h
    obtain ⟨hl, _⟩ := pl_tup (hp (.tup ds) (by simp))
    omega
  · omega
noncomputable def tryB : Dn := (sSet 1 (dCall 1 F_lets_book (aCons (dV 0) aNil)))
noncomputable def tryS : Dn := (sSeq (sIf (dNotT (dAndT (dTru (oIsE itC "PaperError" (dV 2))) (dAndT (dTru (oIsE itC "HadError" (dV 2))) (dTru (oIsE itC "ValueError" (dV 2)))))) (sRet (dCB oRepr (aCons (dTup (aCons (dC (.str "refused")) (aCons (dC (.str "no family")) (aCons (dC (.int 0)) aNil)))) aNil))) sNil)
  (sSeq (sIf (dTru (oIsE itC "BookError" (dV 2))) (sRet (dCB oRepr (aCons (dTup (aCons (dC (.str "refused")) (aCons (dC (.str "a wrong family")) (aCons (dC (.int 0)) aNil)))) aNil))) sNil)
  (sRet (dCB oRepr (aCons (dTup (aCons (dC (.str "refused")) (aCons (dXfld "InvalidPaper" "word" (dV 2)) (aCons (dXfld "InvalidPaper" "at" (dV 2)) aNil)))) aNil)))))
theorem told_split : b__law_told = sSeq (sTry (ctC "InvalidPaper") 2 tryB tryS) (sRet (dCB oRepr (aCons (dTup (aCons (dC (.str "told")) (aCons (dV 1) aNil))) aNil))) := rfl
theorem r_isE {cn : Str} {ks : List Str} {ds : List D} {y : Str} {b : Bool} {fe : Rho → Sto → Res D} {ρ : Rho} {S : Sto} (h : fe ρ S = .ok (.exo cn ks ds) S) (k : itC cn y = some b) : oIsE itC y fe ρ S = .ok (.bl b) S := by
  unfold oIsE
  rw [r_dB, h, bind_ok]
  dsimp only
  rw [k]
theorem told_ok {d : D} {S : Sto} (h : Pl d = true) (hS : SL S) : F__law_told [d] S = .ok (.str (toldS (bookV d) (bookN d))) S := by
  show fnRes (b__law_told [some d, none, none] S) = _
  rw [told_split, r_sSeq]
  have hb := bookN_le h
  cases e : bookV d with
  | none =>
    have e1 : tryB [some d, none, none] S = .nx [some d, some (.int (bookN d)), none] S := by
      unfold tryB
      simp -implicitDefEqProofs only [ok_lets h hS, e, toldB, r_dB, bind_ok, bind_ex, r_var, vk_some, List.getD_cons_zero, List.getD_cons_succ, r_dC, r_dOp, r_dUn, r_dTst, r_tst, r_dTru, r_optB, r_trub, r_truT, r_dNotT, r_dAndT, r_dOrT, r_dNot, r_dAnd, r_dOr, r_and1, r_and0, r_or1, r_or0, r_andb, r_orb, r_iteb, r_iteb2, r_raise, ix0, ix1, r_sSetIx, fl0, fl1, fl2, fl3, fs0, fs1, fs2, fs0, r_dIf, r_aNil, r_aCons, gd_t, r_dTup, r_dLst, r_dLstM, r_dSl, r_dNoP, r_dP, r_pK, r_dCB, r_dCall, r_dCallK, r_sSeq, sq_nx, sq_rt, sq_ex, sb_ok, sb_ex, r_sNil, r_sRet, r_sExpr, r_sIf, r_sSet, r_sPar, r_sAsg, r_asg, r_sFor, fn_rt, fn_nx, fn_ex, r_dIt, it_tup, it_lst, eq_int, eq_bl, eq_str, ne_str, cmp_int, add_int, sub_int, neg_int, len_tup, len_lst, tuple_lst, list_tup, i2_int, int_int, if_t, if_f, bd_nm, bd_tp, bd_nil, bd_cons, bdk, List.set_cons_zero, List.set_cons_succ, okL0, okL1, okL2, okL3, okL4, okL5, okL6, okL7, okL8, okL9, okL10, okL11, okL12, okL13, okL14, okL15, List.length_cons, List.length_nil, Nat.reduceAdd, Nat.zero_add, Nat.reduceLeDiff, Nat.reduceEqDiff, decide_true, decide_false, Bool.not_true, Bool.not_false, Bool.and_true, Bool.true_and, eq_self, List.cons_append, List.nil_append, pickL, List.map_cons, List.map_nil, ↓reduceIte, Bool.false_eq_true]
    have e2 : sTry (ctC "InvalidPaper") 2 tryB tryS [some d, none, none] S = .nx [some d, some (.int (bookN d)), none] S := by
      unfold sTry
      rw [e1]
    rw [e2]
    simp -implicitDefEqProofs only [repr_T2 hb.1 hb.2, toldS, r_dB, bind_ok, bind_ex, r_var, vk_some, List.getD_cons_zero, List.getD_cons_succ, r_dC, r_dOp, r_dUn, r_dTst, r_tst, r_dTru, r_optB, r_trub, r_truT, r_dNotT, r_dAndT, r_dOrT, r_dNot, r_dAnd, r_dOr, r_and1, r_and0, r_or1, r_or0, r_andb, r_orb, r_iteb, r_iteb2, r_raise, ix0, ix1, r_sSetIx, fl0, fl1, fl2, fl3, fs0, fs1, fs2, fs0, r_dIf, r_aNil, r_aCons, gd_t, r_dTup, r_dLst, r_dLstM, r_dSl, r_dNoP, r_dP, r_pK, r_dCB, r_dCall, r_dCallK, r_sSeq, sq_nx, sq_rt, sq_ex, sb_ok, sb_ex, r_sNil, r_sRet, r_sExpr, r_sIf, r_sSet, r_sPar, r_sAsg, r_asg, r_sFor, fn_rt, fn_nx, fn_ex, r_dIt, it_tup, it_lst, eq_int, eq_bl, eq_str, ne_str, cmp_int, add_int, sub_int, neg_int, len_tup, len_lst, tuple_lst, list_tup, i2_int, int_int, if_t, if_f, bd_nm, bd_tp, bd_nil, bd_cons, bdk, List.set_cons_zero, List.set_cons_succ, okL0, okL1, okL2, okL3, okL4, okL5, okL6, okL7, okL8, okL9, okL10, okL11, okL12, okL13, okL14, okL15, List.length_cons, List.length_nil, Nat.reduceAdd, Nat.zero_add, Nat.reduceLeDiff, Nat.reduceEqDiff, decide_true, decide_false, Bool.not_true, Bool.not_false, Bool.and_true, Bool.true_and, eq_self, List.cons_append, List.nil_append, pickL, List.map_cons, List.map_nil, ↓reduceIte, Bool.false_eq_true]
  | some p =>
    obtain ⟨w, i⟩ := p
    obtain ⟨hw, h1, h2⟩ := book_w h e
    have e1 : tryB [some d, none, none] S = .ex ⟨"InvalidPaper", ["word", "at"], [.str w, .int i]⟩ [some d, none, none] S := by
      unfold tryB
      simp -implicitDefEqProofs only [ok_lets h hS, e, toldB, r_dB, bind_ok, bind_ex, r_var, vk_some, List.getD_cons_zero, List.getD_cons_succ, r_dC, r_dOp, r_dUn, r_dTst, r_tst, r_dTru, r_optB, r_trub, r_truT, r_dNotT, r_dAndT, r_dOrT, r_dNot, r_dAnd, r_dOr, r_and1, r_and0, r_or1, r_or0, r_andb, r_orb, r_iteb, r_iteb2, r_raise, ix0, ix1, r_sSetIx, fl0, fl1, fl2, fl3, fs0, fs1, fs2, fs0, r_dIf, r_aNil, r_aCons, gd_t, r_dTup, r_dLst, r_dLstM, r_dSl, r_dNoP, r_dP, r_pK, r_dCB, r_dCall, r_dCallK, r_sSeq, sq_nx, sq_rt, sq_ex, sb_ok, sb_ex, r_sNil, r_sRet, r_sExpr, r_sIf, r_sSet, r_sPar, r_sAsg, r_asg, r_sFor, fn_rt, fn_nx, fn_ex, r_dIt, it_tup, it_lst, eq_int, eq_bl, eq_str, ne_str, cmp_int, add_int, sub_int, neg_int, len_tup, len_lst, tuple_lst, list_tup, i2_int, int_int, if_t, if_f, bd_nm, bd_tp, bd_nil, bd_cons, bdk, List.set_cons_zero, List.set_cons_succ, okL0, okL1, okL2, okL3, okL4, okL5, okL6, okL7, okL8, okL9, okL10, okL11, okL12, okL13, okL14, okL15, List.length_cons, List.length_nil, Nat.reduceAdd, Nat.zero_add, Nat.reduceLeDiff, Nat.reduceEqDiff, decide_true, decide_false, Bool.not_true, Bool.not_false, Bool.and_true, Bool.true_and, eq_self, List.cons_append, List.nil_append, pickL, List.map_cons, List.map_nil, ↓reduceIte, Bool.false_eq_true]
    have e3 : tryS [some d, none, some (.exo "InvalidPaper" ["word", "at"] [.str w, .int i])] S = .rt (.str (T3 w i)) S := by
      have q : ∀ {y : Str} {b : Bool}, itC "InvalidPaper" y = some b → oIsE itC y (dV 2) [some d, none, some (.exo "InvalidPaper" ["word", "at"] [.str w, .int i])] S = .ok (.bl b) S := fun k => r_isE rfl k
      have f1 : dXfld "InvalidPaper" "word" (dV 2) [some d, none, some (.exo "InvalidPaper" ["word", "at"] [.str w, .int i])] S = .ok (.str w) S := rfl
      have f2 : dXfld "InvalidPaper" "at" (dV 2) [some d, none, some (.exo "InvalidPaper" ["word", "at"] [.str w, .int i])] S = .ok (.int i) S := rfl
      unfold tryS
      simp -implicitDefEqProofs only [q (y := "PaperError") (b := true) (by decide), q (y := "HadError") (b := true) (by decide), q (y := "ValueError") (b := true) (by decide), q (y := "BookError") (b := false) (by decide), f1, f2, repr_T3 hw h1 (by omega), r_dB, bind_ok, bind_ex, r_var, vk_some, List.getD_cons_zero, List.getD_cons_succ, r_dC, r_dOp, r_dUn, r_dTst, r_tst, r_dTru, r_optB, r_trub, r_truT, r_dNotT, r_dAndT, r_dOrT, r_dNot, r_dAnd, r_dOr, r_and1, r_and0, r_or1, r_or0, r_andb, r_orb, r_iteb, r_iteb2, r_raise, ix0, ix1, r_sSetIx, fl0, fl1, fl2, fl3, fs0, fs1, fs2, fs0, r_dIf, r_aNil, r_aCons, gd_t, r_dTup, r_dLst, r_dLstM, r_dSl, r_dNoP, r_dP, r_pK, r_dCB, r_dCall, r_dCallK, r_sSeq, sq_nx, sq_rt, sq_ex, sb_ok, sb_ex, r_sNil, r_sRet, r_sExpr, r_sIf, r_sSet, r_sPar, r_sAsg, r_asg, r_sFor, fn_rt, fn_nx, fn_ex, r_dIt, it_tup, it_lst, eq_int, eq_bl, eq_str, ne_str, cmp_int, add_int, sub_int, neg_int, len_tup, len_lst, tuple_lst, list_tup, i2_int, int_int, if_t, if_f, bd_nm, bd_tp, bd_nil, bd_cons, bdk, List.set_cons_zero, List.set_cons_succ, okL0, okL1, okL2, okL3, okL4, okL5, okL6, okL7, okL8, okL9, okL10, okL11, okL12, okL13, okL14, okL15, List.length_cons, List.length_nil, Nat.reduceAdd, Nat.zero_add, Nat.reduceLeDiff, Nat.reduceEqDiff, decide_true, decide_false, Bool.not_true, Bool.not_false, Bool.and_true, Bool.true_and, eq_self, List.cons_append, List.nil_append, pickL, List.map_cons, List.map_nil, ↓reduceIte, Bool.false_eq_true]
    have e2 : sTry (ctC "InvalidPaper") 2 tryB tryS [some d, none, none] S = .rt (.str (T3 w i)) S := by
      unfold sTry
      rw [e1]
      dsimp only
      rw [show ctC "InvalidPaper" "InvalidPaper" = some true from by decide]
      dsimp only [List.set]
      rw [e3]
      show (if (S.all D.noXs && (D.str (T3 w i)).noX) = true then Out.rt (D.str (T3 w i)) S else Out.bad) = _
      rw [if_pos]
      rw [Bool.and_eq_true]
      exact ⟨List.all_eq_true.mpr fun ds m => pls_noX (hS ds m), rfl⟩
    rw [e2]
    simp -implicitDefEqProofs only [toldS, r_dB, bind_ok, bind_ex, r_var, vk_some, List.getD_cons_zero, List.getD_cons_succ, r_dC, r_dOp, r_dUn, r_dTst, r_tst, r_dTru, r_optB, r_trub, r_truT, r_dNotT, r_dAndT, r_dOrT, r_dNot, r_dAnd, r_dOr, r_and1, r_and0, r_or1, r_or0, r_andb, r_orb, r_iteb, r_iteb2, r_raise, ix0, ix1, r_sSetIx, fl0, fl1, fl2, fl3, fs0, fs1, fs2, fs0, r_dIf, r_aNil, r_aCons, gd_t, r_dTup, r_dLst, r_dLstM, r_dSl, r_dNoP, r_dP, r_pK, r_dCB, r_dCall, r_dCallK, r_sSeq, sq_nx, sq_rt, sq_ex, sb_ok, sb_ex, r_sNil, r_sRet, r_sExpr, r_sIf, r_sSet, r_sPar, r_sAsg, r_asg, r_sFor, fn_rt, fn_nx, fn_ex, r_dIt, it_tup, it_lst, eq_int, eq_bl, eq_str, ne_str, cmp_int, add_int, sub_int, neg_int, len_tup, len_lst, tuple_lst, list_tup, i2_int, int_int, if_t, if_f, bd_nm, bd_tp, bd_nil, bd_cons, bdk, List.set_cons_zero, List.set_cons_succ, okL0, okL1, okL2, okL3, okL4, okL5, okL6, okL7, okL8, okL9, okL10, okL11, okL12, okL13, okL14, okL15, List.length_cons, List.length_nil, Nat.reduceAdd, Nat.zero_add, Nat.reduceLeDiff, Nat.reduceEqDiff, decide_true, decide_false, Bool.not_true, Bool.not_false, Bool.and_true, Bool.true_and, eq_self, List.cons_append, List.nil_append, pickL, List.map_cons, List.map_nil, ↓reduceIte, Bool.false_eq_true]
end k00

set_option Elab.async false
set_option linter.all false
set_option maxRecDepth 100000
set_option maxHeartbeats 1000000
namespace k00
open PySem DE
theorem sm_mem : ∀ {ds : List D}, Sms ds = true → ∀ d ∈ ds, Sm d = true
  | d :: ds, h, e, m => by
    unfold Sms at h
    rw [Bool.and_eq_true] at h
    rcases List.mem_cons.mp m with rfl | m
    · exact h.1
    · exact sm_mem h.2 e m
theorem sm_of : ∀ {ds : List D}, (∀ d ∈ ds, Sm d = true) → Sms ds = true
  | [], _ => rfl
  | d :: ds, h => by
    unfold Sms
    rw [h d List.mem_cons_self, sm_of fun e m => h e (List.mem_cons_of_mem _ m)]; rfl
theorem sm_app {a b : List D} (ha : Sms a = true) (hb : Sms b = true) : Sms (a ++ b) = true := sm_of fun d m => (List.mem_append.mp m).elim (sm_mem ha d) (sm_mem hb d)
theorem nDs_app : ∀ {a b : List D}, nDs (a ++ b) = nDs a + nDs b
  | [], b => by show nDs b = 0 + nDs b; omega
  | d :: a, b => by
    show nD d + nDs (a ++ b) = nD d + nDs a + nDs b
    rw [nDs_app]; omega
theorem hDs_app : ∀ {a b : List D}, hDs (a ++ b) = max (hDs a) (hDs b)
  | [], b => by show hDs b = max 0 (hDs b); omega
  | d :: a, b => by
    show max (hD d) (hDs (a ++ b)) = max (max (hD d) (hDs a)) (hDs b)
    rw [hDs_app]; omega
theorem nDs_take (a : List D) (k : Nat) : nDs (a.take k) ≤ nDs a := by
  conv => rhs; rw [← List.take_append_drop k a, nDs_app]
  omega
theorem nDs_drop (a : List D) (k : Nat) : nDs (a.drop k) ≤ nDs a := by
  conv => rhs; rw [← List.take_append_drop k a, nDs_app]
  omega
theorem hDs_take (a : List D) (k : Nat) : hDs (a.take k) ≤ hDs a := by
  conv => rhs; rw [← List.take_append_drop k a, hDs_app]
  omega
theorem hDs_drop (a : List D) (k : Nat) : hDs (a.drop k) ≤ hDs a := by
  conv => rhs; rw [← List.take_append_drop k a, hDs_app]
  omega
theorem gn_sm {d : D} (h : GN d) : Sm d = true := by
  obtain ⟨i, rfl, h1, h2⟩ := h
  exact decide_eq_true (by omega)
theorem gn_n : ∀ {l : List D}, (∀ d ∈ l, GN d) → nDs l = l.length
  | [], _ => rfl
  | d :: l, h => by
    obtain ⟨i, rfl, _⟩ := h d List.mem_cons_self
    show 1 + nDs l = l.length + 1
    rw [gn_n fun e m => h e (List.mem_cons_of_mem _ m)]; omega
theorem gn_h : ∀ {l : List D}, (∀ d ∈ l, GN d) → hDs l = 0
  | [], _ => rfl
  | d :: l, h => by
    obtain ⟨i, rfl, _⟩ := h d List.mem_cons_self
    show max 0 (hDs l) = 0
    rw [gn_h fun e m => h e (List.mem_cons_of_mem _ m)]; rfl
/-- no amounts at size n, and small -/
def BM (n : Nat) (d : D) : Prop := BN n d ∧ Sm d = true ∧ nD d ≤ 16 ∧ hD d ≤ 2
theorem repX_sm {n : Int} (h : 0 ≤ n) (h2 : n ≤ 5) : Sm (.str (repX n)) = true := by
  have : n = 0 ∨ n = 1 ∨ n = 2 ∨ n = 3 ∨ n = 4 ∨ n = 5 := by omega
  rcases this with rfl | rfl | rfl | rfl | rfl | rfl <;> decide
theorem cut_ref2 {k n : Nat} {S : Sto} {ds : List D} (hn : ¬ n < k) (h : S[n]? = some ds) (hd : Pls ds = true) (hS : (S.take k).all (D.lows k) = true) : cutRes k (.ok (.ref n) S) = .ok (.lst ds) (S.take k) := by
  unfold cutRes
  simp only [hn, h]
  rw [if_neg (by simp), r_guard (by rw [pls_low k hd, hS]; rfl)]
theorem Fl.low {l : List D} (h : Fl l) {R : Sto} {k : Nat} (hR : R.all (D.lows k) = true) : (l :: R).all (D.lows k) = true := by
  rw [List.all_cons, hR, pls_low k ((h.sl (R := []) (fun _ m => nomatch m)) l List.mem_cons_self)]; rfl
theorem bad_ok2 {l : List D} (h : Fl l) {R : Sto} (hR : R.all (D.lows (R.length + 1)) = true) {vs : List D} (hv : ∀ d ∈ vs, GN d) {n : Nat} (hl : vs.length = n) (h1 : 1 ≤ n) (h2 : n ≤ 5) : ∃ os l', F__law_bad_numbers [.ref 0, .tup vs] (l :: R) = .ok (.lst os) (l' :: R) ∧ Fl l' ∧ os.length = 14 ∧ ∀ d ∈ os, BM n d := by
  show ∃ os l', cutRes (l :: R).length (fnRes (b__law_bad_numbers [some (.ref 0), some (.tup vs), none, none, none] (l :: R))) = _ ∧ _
  rw [bad_split]
  obtain ⟨k, l1, e1, f1, k1, k2⟩ := draw_ok h (m := (vs.length : Int)) (by omega) (by omega) R
  obtain ⟨k, rfl⟩ := Int.eq_ofNat_of_zero_le k1
  have hk : k < vs.length := by omega
  have a0 : vs.length + [D.int 0].length ≤ 16777216 := by rw [hl, List.length_cons, List.length_nil]; omega
  have a1 : [D.tup vs].length + vs.length ≤ 16777216 := by rw [hl, List.length_cons, List.length_nil]; omega
  simp -implicitDefEqProofs only [e1, add_tup a0, add_tup a1, sl_tom1 (l := vs) (by omega), rep_ok (n := (vs.length : Int)) (by omega) (by omega), r_dB, bind_ok, bind_ex, r_var, vk_some, List.getD_cons_zero, List.getD_cons_succ, r_dC, r_dOp, r_dUn, r_dTst, r_tst, r_dTru, r_optB, r_trub, r_truT, r_dNotT, r_dAndT, r_dOrT, r_dNot, r_dAnd, r_dOr, r_and1, r_and0, r_or1, r_or0, r_andb, r_orb, r_iteb, r_iteb2, r_raise, ix0, ix1, r_sSetIx, fl0, fl1, fl2, fl3, fs0, fs1, fs2, fs0, r_dIf, r_aNil, r_aCons, gd_t, r_dTup, r_dLst, r_dLstM, r_dSl, r_dNoP, r_dP, r_pK, r_dCB, r_dCall, r_dCallK, r_sSeq, sq_nx, sq_rt, sq_ex, sb_ok, sb_ex, r_sNil, r_sRet, r_sExpr, r_sIf, r_sSet, r_sPar, r_sAsg, r_asg, r_sFor, fn_rt, fn_nx, fn_ex, r_dIt, it_tup, it_lst, eq_int, eq_bl, eq_str, ne_str, cmp_int, add_int, sub_int, neg_int, len_tup, len_lst, tuple_lst, list_tup, i2_int, int_int, if_t, if_f, bd_nm, bd_tp, bd_nil, bd_cons, bdk, List.set_cons_zero, List.set_cons_succ, okL0, okL1, okL2, okL3, okL4, okL5, okL6, okL7, okL8, okL9, okL10, okL11, okL12, okL13, okL14, okL15, List.length_cons, List.length_nil, Nat.reduceAdd, Nat.zero_add, Nat.reduceLeDiff, Nat.reduceEqDiff, decide_true, decide_false, Bool.not_true, Bool.not_false, Bool.and_true, Bool.true_and, eq_self, List.cons_append, List.nil_append, pickL, List.map_cons, List.map_nil, ↓reduceIte, Bool.false_eq_true]
  have pv : ∀ d ∈ vs, Pl d = true := fun d m => (hv d m).pl
  have sv : Sms vs = true := sm_of fun d m => gn_sm (hv d m)
  have nv : nDs vs ≤ 5 := by have := gn_n hv; omega
  have gv : hDs vs = 0 := gn_h hv
  -- the seven ready ones
  have base : ∀ d ∈ [D.lst vs, .tup (vs ++ [.int 0]), .tup (vs.take (vs.length - 1)), .non, .str (repX (vs.length : Int)), .int 0, .tup ([D.tup vs] ++ vs)], BM n d := by
    intro d hd
    simp only [List.mem_cons, List.not_mem_nil, or_false] at hd
    rcases hd with rfl | rfl | rfl | rfl | rfl | rfl | rfl
    · exact ⟨⟨pl_lst_of pv (by omega), rfl⟩, sv, by show nDs vs + 1 ≤ 16; omega, by show hDs vs + 1 ≤ 2; omega⟩
    · refine ⟨⟨pl_tup_of (fun d m => ?_) (by rw [List.length_append, hl, List.length_cons, List.length_nil]; omega), allT_len (by rw [List.length_append, hl, List.length_cons, List.length_nil]; omega)⟩, sm_app sv rfl, by show nDs (vs ++ [.int 0]) + 1 ≤ 16; rw [nDs_app]; show nDs vs + (1 + 0) + 1 ≤ 16; omega, by show hDs (vs ++ [.int 0]) + 1 ≤ 2; rw [hDs_app]; show max (hDs vs) (max 0 0) + 1 ≤ 2; omega⟩
      rcases List.mem_append.mp m with m | m
      · exact pv d m
      · rw [List.mem_singleton.mp m]; rfl
    · have := nDs_take vs (vs.length - 1)
      have := hDs_take vs (vs.length - 1)
      exact ⟨⟨pl_tup_of (fun d m => pv d (List.mem_of_mem_take m)) (by rw [List.length_take]; omega), allT_len (by rw [List.length_take]; omega)⟩, sm_of fun d m => sm_mem sv d (List.mem_of_mem_take m), by show nDs _ + 1 ≤ 16; omega, by show hDs _ + 1 ≤ 2; omega⟩
    · exact ⟨⟨rfl, rfl⟩, rfl, by decide, by decide⟩
    · exact ⟨⟨rfl, rfl⟩, repX_sm (by omega) (by omega), by show 1 ≤ 16; decide, by show 0 ≤ 2; decide⟩
    · exact ⟨⟨rfl, rfl⟩, by decide, by decide, by decide⟩
    · refine ⟨⟨pl_tup_of (fun d m => ?_) (by rw [List.length_append, hl, List.length_cons, List.length_nil]; omega), allT_len (by rw [List.length_append, hl, List.length_cons, List.length_nil]; omega)⟩, by show (Sm (.tup vs) && Sms vs) = true; rw [show Sm (.tup vs) = true from sv, sv]; rfl, by show (nDs vs + 1 + nDs vs) + 1 ≤ 16; omega, by show max (hDs vs + 1) (hDs vs) + 1 ≤ 2; omega⟩
      rcases List.mem_append.mp m with m | m
      · rw [List.mem_singleton.mp m]; exact gn_tup hv (by omega)
      · exact pv d m
  have len3 : ∀ x : D, ((vs.take k ++ [x]) ++ vs.drop (k + 1)).length = n := fun x => by simp; omega
  have b1 : ∀ x : D, (vs.take k).length + [x].length ≤ 16777216 := fun x => by simp; omega
  have b2 : ∀ x : D, (vs.take k ++ [x]).length + (vs.drop (k + 1)).length ≤ 16777216 := fun x => by
    have := len3 x
    rw [List.length_append] at this
    omega
  have rep : ∀ x : D, Pl x = true → isN x = false → Sm x = true → nD x ≤ 2 → hD x ≤ 1 → BM n (.tup ((vs.take k ++ [x]) ++ vs.drop (k + 1))) := fun x hx hn hs h3 h4 => ⟨⟨pl_tup_of (fun d m => by
    rcases List.mem_append.mp m with m | m
    · rcases List.mem_append.mp m with m | m
      · exact pv d (List.mem_of_mem_take m)
      · rw [List.mem_singleton.mp m]; exact hx
    · exact pv d (List.mem_of_mem_drop m)) (by rw [len3]; omega), allT_no (d := x) (by simp) hn _⟩, sm_app (sm_app (sm_of fun d m => sm_mem sv d (List.mem_of_mem_take m)) (by unfold Sms; rw [hs]; rfl)) (sm_of fun d m => sm_mem sv d (List.mem_of_mem_drop m)), by
    have q1 := nDs_take vs k
    have q2 := nDs_drop vs (k + 1)
    show nDs ((vs.take k ++ [x]) ++ vs.drop (k + 1)) + 1 ≤ 16
    rw [nDs_app, nDs_app]
    show nDs (vs.take k) + (nD x + 0) + nDs (vs.drop (k + 1)) + 1 ≤ 16
    omega, by
    have q1 := hDs_take vs k
    have q2 := hDs_drop vs (k + 1)
    show hDs ((vs.take k ++ [x]) ++ vs.drop (k + 1)) + 1 ≤ 2
    rw [hDs_app, hDs_app]
    show max (max (hDs (vs.take k)) (max (hD x) 0)) (hDs (vs.drop (k + 1))) + 1 ≤ 2
    omega⟩
  generalize hos : [D.lst vs, .tup (vs ++ [.int 0]), .tup (vs.take (vs.length - 1)), .non, .str (repX (vs.length : Int)), .int 0, .tup ([D.tup vs] ++ vs)] = os0 at base
  have hos' : [D.lst vs, .tup (vs ++ [.int 0]), .tup (vs.take (vs.length - 1)), .non, .str (repX (vs.length : Int)), .int 0, .tup (D.tup vs :: vs)] = os0 := hos
  have lo : os0.length = 7 := by rw [← hos]; rfl
  rw [hos']
  obtain ⟨ρ2, S2, e2, os, x4, rfl, rfl, hlo, ho⟩ := loop_num (t := .nm 4) (body := badB) (fun j ρ S => ∃ os x4, ρ = [some (.ref 0), some (.tup vs), some (.int (k : Int)), some (.ref (R.length + 1)), x4] ∧ S = l1 :: (R ++ [os]) ∧ os.length = 7 + j ∧ ∀ d ∈ os, BM n d)
    [.int (-1), .bl true, .bl false, .non, .str "1", .tup [.int 0], .lst [.int 1]] [.int (-1), .bl true, .bl false, .non, .str "1", .tup [.int 0], .lst [.int 1]] 0 [some (.ref 0), some (.tup vs), some (.int (k : Int)), some (.ref (R.length + 1)), none] (l1 :: (R ++ [os0])) ⟨os0, none, rfl, rfl, lo, base⟩ (by
      intro i d hd ρ S ⟨os, x4, e1, e2, q1, q2⟩
      subst e1 e2
      have hx : Pl d = true ∧ isN d = false ∧ Sm d = true ∧ nD d ≤ 2 ∧ hD d ≤ 1 := by
        have m := List.mem_of_getElem? hd
        simp only [List.mem_cons, List.not_mem_nil, or_false] at m
        rcases m with rfl | rfl | rfl | rfl | rfl | rfl | rfl <;> exact ⟨rfl, rfl, by decide, by decide, by decide⟩
      have hi : i < 7 := by
        have := (List.getElem?_eq_some_iff.mp hd).1
        simpa using this
      refine ⟨_, rfl, _, _, ?_, os ++ [.tup ((vs.take k ++ [d]) ++ vs.drop (k + 1))], some d, rfl, rfl, by rw [List.length_append, q1, List.length_cons, List.length_nil]; omega, fun w hw => ?_⟩
      · show badB [some (.ref 0), some (.tup vs), some (.int (k : Int)), some (.ref (R.length + 1)), some d] (l1 :: (R ++ [os])) = _
        unfold badB
        rw [r_sExpr, r_dApp]
        simp -implicitDefEqProofs only [r_dB, bind_ok, bind_ex, r_var, vk_some, List.getD_cons_zero, List.getD_cons_succ, r_dC, r_dOp, r_dUn, r_dTst, r_tst, r_dTru, r_optB, r_trub, r_truT, r_dNotT, r_dAndT, r_dOrT, r_dNot, r_dAnd, r_dOr, r_and1, r_and0, r_or1, r_or0, r_andb, r_orb, r_iteb, r_iteb2, r_raise, ix0, ix1, r_sSetIx, fl0, fl1, fl2, fl3, fs0, fs1, fs2, fs0, r_dIf, r_aNil, r_aCons, gd_t, r_dTup, r_dLst, r_dLstM, r_dSl, r_dNoP, r_dP, r_pK, r_dCB, r_dCall, r_dCallK, r_sSeq, sq_nx, sq_rt, sq_ex, sb_ok, sb_ex, r_sNil, r_sRet, r_sExpr, r_sIf, r_sSet, r_sPar, r_sAsg, r_asg, r_sFor, fn_rt, fn_nx, fn_ex, r_dIt, it_tup, it_lst, eq_int, eq_bl, eq_str, ne_str, cmp_int, add_int, sub_int, neg_int, len_tup, len_lst, tuple_lst, list_tup, i2_int, int_int, if_t, if_f, bd_nm, bd_tp, bd_nil, bd_cons, bdk, List.set_cons_zero, List.set_cons_succ, okL0, okL1, okL2, okL3, okL4, okL5, okL6, okL7, okL8, okL9, okL10, okL11, okL12, okL13, okL14, okL15, List.length_cons, List.length_nil, Nat.reduceAdd, Nat.zero_add, Nat.reduceLeDiff, Nat.reduceEqDiff, decide_true, decide_false, Bool.not_true, Bool.not_false, Bool.and_true, Bool.true_and, eq_self, List.cons_append, List.nil_append, pickL, List.map_cons, List.map_nil, ↓reduceIte, Bool.false_eq_true]
        rw [app_ok (d := .tup ((vs.take k ++ [d]) ++ vs.drop (k + 1))) (S2 := l1 :: (R ++ [os])) (by simp -implicitDefEqProofs only [sl_to, sl_from1, add_tup (b1 d), add_tup (b2 d), r_dB, bind_ok, bind_ex, r_var, vk_some, List.getD_cons_zero, List.getD_cons_succ, r_dC, r_dOp, r_dUn, r_dTst, r_tst, r_dTru, r_optB, r_trub, r_truT, r_dNotT, r_dAndT, r_dOrT, r_dNot, r_dAnd, r_dOr, r_and1, r_and0, r_or1, r_or0, r_andb, r_orb, r_iteb, r_iteb2, r_raise, ix0, ix1, r_sSetIx, fl0, fl1, fl2, fl3, fs0, fs1, fs2, fs0, r_dIf, r_aNil, r_aCons, gd_t, r_dTup, r_dLst, r_dLstM, r_dSl, r_dNoP, r_dP, r_pK, r_dCB, r_dCall, r_dCallK, r_sSeq, sq_nx, sq_rt, sq_ex, sb_ok, sb_ex, r_sNil, r_sRet, r_sExpr, r_sIf, r_sSet, r_sPar, r_sAsg, r_asg, r_sFor, fn_rt, fn_nx, fn_ex, r_dIt, it_tup, it_lst, eq_int, eq_bl, eq_str, ne_str, cmp_int, add_int, sub_int, neg_int, len_tup, len_lst, tuple_lst, list_tup, i2_int, int_int, if_t, if_f, bd_nm, bd_tp, bd_nil, bd_cons, bdk, List.set_cons_zero, List.set_cons_succ, okL0, okL1, okL2, okL3, okL4, okL5, okL6, okL7, okL8, okL9, okL10, okL11, okL12, okL13, okL14, okL15, List.length_cons, List.length_nil, Nat.reduceAdd, Nat.zero_add, Nat.reduceLeDiff, Nat.reduceEqDiff, decide_true, decide_false, Bool.not_true, Bool.not_false, Bool.and_true, Bool.true_and, eq_self, List.cons_append, List.nil_append, pickL, List.map_cons, List.map_nil, ↓reduceIte, Bool.false_eq_true]) (by simp) snoc_get (by omega), snoc_set]
        rfl
      · rcases List.mem_append.mp hw with hw | hw
        · exact q2 w hw
        · rw [List.mem_singleton.mp hw]; exact rep d hx.1 hx.2.1 hx.2.2.1 hx.2.2.2.1 hx.2.2.2.2)
  simp -implicitDefEqProofs only [e2, r_dB, bind_ok, bind_ex, r_var, vk_some, List.getD_cons_zero, List.getD_cons_succ, r_dC, r_dOp, r_dUn, r_dTst, r_tst, r_dTru, r_optB, r_trub, r_truT, r_dNotT, r_dAndT, r_dOrT, r_dNot, r_dAnd, r_dOr, r_and1, r_and0, r_or1, r_or0, r_andb, r_orb, r_iteb, r_iteb2, r_raise, ix0, ix1, r_sSetIx, fl0, fl1, fl2, fl3, fs0, fs1, fs2, fs0, r_dIf, r_aNil, r_aCons, gd_t, r_dTup, r_dLst, r_dLstM, r_dSl, r_dNoP, r_dP, r_pK, r_dCB, r_dCall, r_dCallK, r_sSeq, sq_nx, sq_rt, sq_ex, sb_ok, sb_ex, r_sNil, r_sRet, r_sExpr, r_sIf, r_sSet, r_sPar, r_sAsg, r_asg, r_sFor, fn_rt, fn_nx, fn_ex, r_dIt, it_tup, it_lst, eq_int, eq_bl, eq_str, ne_str, cmp_int, add_int, sub_int, neg_int, len_tup, len_lst, tuple_lst, list_tup, i2_int, int_int, if_t, if_f, bd_nm, bd_tp, bd_nil, bd_cons, bdk, List.set_cons_zero, List.set_cons_succ, okL0, okL1, okL2, okL3, okL4, okL5, okL6, okL7, okL8, okL9, okL10, okL11, okL12, okL13, okL14, okL15, List.length_cons, List.length_nil, Nat.reduceAdd, Nat.zero_add, Nat.reduceLeDiff, Nat.reduceEqDiff, decide_true, decide_false, Bool.not_true, Bool.not_false, Bool.and_true, Bool.true_and, eq_self, List.cons_append, List.nil_append, pickL, List.map_cons, List.map_nil, ↓reduceIte, Bool.false_eq_true]
  have ek : (l1 :: (R ++ [os])).take (R.length + 1) = l1 :: R := by simp
  rw [cut_ref2 (k := R.length + 1) (n := R.length + 1) (by omega) snoc_get (pls_of fun d m => (ho d m).1.1) (by rw [ek]; exact f1.low hR), ek]
  exact ⟨os, l1, rfl, f1, hlo, ho⟩
end k00

set_option Elab.async false
set_option linter.all false
set_option maxRecDepth 100000
set_option maxHeartbeats 1000000
namespace k00
open PySem DE
noncomputable def spB : Dn := (sSeq (sSet 6 (dCall 2 F__law_draw (aCons (dV 0) (aCons (dOp oAdd (dCB oLen (aCons (dV 2) aNil)) (dC (.int 1))) aNil))))
  (sIf (dTst (dOp (oCmp fun i j => decide (i < j)) (dV 6) (dCB oLen (aCons (dV 2) aNil)))) (sSeq (sSet 7 (dCall 2 F__law_draw (aCons (dV 0) (aCons (dC (.int 2)) aNil))))
  (sSeq (sSet 8 (dCall 2 F__law_bad_numbers (aCons (dV 0) (aCons (dOp oIx (dOp oIx (dV 2) (dV 6)) (dV 7)) aNil))))
  (sSeq (sSetIx (dOp oIx (dV 3) (dV 6)) (dV 7) (dOp oIx (dV 8) (dCall 2 F__law_draw (aCons (dV 0) (aCons (dCB oLen (aCons (dV 8) aNil)) aNil)))))
  (sExpr (dApp (dV 4) (dTup (aCons (dV 6) (aCons (dOp oAdd (dC (.int 1)) (dV 7)) aNil)))))))) sNil))
noncomputable def sp15 : Dn := (sSeq (sSet 13 (dTup (aCons (dV 1) (aCons (dV 12) aNil))))
  (sSeq (sIf (dTst (dOp oEq (dCall 2 F__law_draw (aCons (dV 0) (aCons (dC (.int 5)) aNil))) (dC (.int 0)))) (sSeq (sSet 8 (dCall 2 F__law_no_pairs (aCons (dV 1) (aCons (dV 12) aNil))))
  (sSeq (sSet 13 (dOp oIx (dV 8) (dCall 2 F__law_draw (aCons (dV 0) (aCons (dCB oLen (aCons (dV 8) aNil)) aNil)))))
  (sSet 10 (dTup (aCons (dC (.str "refused")) (aCons (dC (.str "shape")) (aCons (dUn oNeg (dC (.int 1))) aNil))))))) sNil)
  (sRet (dTup (aCons (dV 13) (aCons (dCB oRepr (aCons (dV 10) aNil)) aNil))))))
noncomputable def sp14 : Dn := (sSeq (sIf (dTst (dOp oEq (dCall 2 F__law_draw (aCons (dV 0) (aCons (dC (.int 5)) aNil))) (dC (.int 0)))) (sSeq (sSet 1 (dOp oIx (dLst (aCons (dC (.bl true)) (aCons (dC (.bl false)) (aCons (dC (.int 0)) (aCons (dUn oNeg (dV 1)) (aCons (dC .non) (aCons (dC (.str "3")) (aCons (dTup (aCons (dV 1) aNil)) (aCons (dLst (aCons (dV 1) aNil)) (aCons (dUn oNeg (dOp oPow (dC (.int 10)) (dC (.int 59)))) aNil)))))))))) (dCall 2 F__law_draw (aCons (dV 0) (aCons (dC (.int 9)) aNil)))))
  (sSet 10 (dTup (aCons (dC (.str "refused")) (aCons (dC (.str "size")) (aCons (dUn oNeg (dC (.int 1))) aNil)))))) sNil)
  sp15)
noncomputable def sp13 : Dn := (sSeq (sIf (dTst (dOp oEq (dCall 2 F__law_draw (aCons (dV 0) (aCons (dC (.int 5)) aNil))) (dC (.int 0)))) (sSeq (sSet 12 (dOp oIx (dLst (aCons (dCB oList (aCons (dV 9) aNil)) (aCons (dC .non) (aCons (dC (.int 0)) (aCons (dC (.str "")) (aCons (dLst aNil) (aCons (dC (.str "ab")) aNil))))))) (dCall 2 F__law_draw (aCons (dV 0) (aCons (dC (.int 6)) aNil)))))
  (sSet 10 (dTup (aCons (dC (.str "refused")) (aCons (dC (.str "deeds")) (aCons (dUn oNeg (dC (.int 1))) aNil)))))) sNil)
  sp14)
noncomputable def sp12 : Dn := (sSeq (sSet 12 (dCB oTuple (aCons (dV 9) aNil)))
  sp13)
noncomputable def sp11 : Dn := (sSeq (sSet 10 (dTup (aCons (dC (.str "told")) (aCons (dCB oLen (aCons (dV 2) aNil)) aNil))))
  (sSeq (sIf (dTst (dOp (oCmp fun i j => decide (j < i)) (dCB oLen (aCons (dV 4) aNil)) (dC (.int 0)))) (sSeq (sSet 11 (dCB oMinP (aCons (dV 4) aNil)))
  (sSet 10 (dTup (aCons (dC (.str "refused")) (aCons (dOp oIx (dLst (aCons (dC (.str "shape")) (aCons (dC (.str "take")) (aCons (dC (.str "give")) aNil)))) (dOp oIx (dV 11) (dC (.int 1)))) (aCons (dOp oIx (dV 11) (dC (.int 0))) aNil)))))) sNil)
  sp12))
noncomputable def sp10 : Dn := (sSeq (sIf (dAndT (dTst (dOp (oCmp fun i j => decide (j < i)) (dCB oLen (aCons (dV 2) aNil)) (dC (.int 0)))) (dTst (dOp oEq (dCall 2 F__law_draw (aCons (dV 0) (aCons (dC (.int 4)) aNil))) (dC (.int 0))))) (sSeq (sSet 6 (dCall 2 F__law_draw (aCons (dV 0) (aCons (dCB oLen (aCons (dV 2) aNil)) aNil))))
  (sSeq (sSet 8 (dCall 2 F__law_no_pairs (aCons (dOp oIx (dOp oIx (dV 3) (dV 6)) (dC (.int 0))) (aCons (dOp oIx (dOp oIx (dV 3) (dV 6)) (dC (.int 1))) aNil))))
  (sSeq (sSetIx (dV 9) (dV 6) (dOp oIx (dV 8) (dCall 2 F__law_draw (aCons (dV 0) (aCons (dCB oLen (aCons (dV 8) aNil)) aNil)))))
  (sExpr (dApp (dV 4) (dTup (aCons (dV 6) (aCons (dC (.int 0)) aNil)))))))) sNil)
  sp11)
noncomputable def sp9 : Dn := (sSeq (sSet 9 (dLc finM (dIt (dV 3)) (.nm 15) dYes (dTup (aCons (dOp oIx (dV 15) (dC (.int 0))) (aCons (dOp oIx (dV 15) (dC (.int 1))) aNil))) [15]))
  sp10)
theorem sp_split : b__law_spoilt = (sSeq (sSet 3 (dLc finM (dIt (dV 2)) (.nm 14) dYes (dLstM (aCons (dOp oIx (dV 14) (dC (.int 0))) (aCons (dOp oIx (dV 14) (dC (.int 1))) aNil))) [14]))
  (sSeq (sSet 4 (dLstM aNil))
  (sSeq (sFor (dRng1 (aCons (dC (.int 2)) aNil)) (.nm 5) spB)
  sp9))) := rfl

/-- fit to be shown -/
def Rp (a b : Nat) (d : D) : Prop := Pl d = true ∧ Sm d = true ∧ nD d ≤ a ∧ hD d ≤ b
/-- what is handed out: a thing and what is due of it -/
def Hand (m : Int) (thing : D) (x : Str) : Prop := Rp 800 40 thing ∧ isBl thing = false ∧ x = toldS (bookV thing) (bookN thing) ∧ (bookV thing = none → bookN thing = m)
theorem nopair_book {d : D} (h : isPair d = false) : bookV d = some (("shape" : Str), (-1 : Int)) := by
  cases d with
  | tup l =>
    match l, h with
    | [], _ => rfl
    | [a], _ => rfl
    | [a, b], h => cases h
    | a :: b :: c :: r, _ => rfl
  | _ => rfl
theorem pair_rp {a b c e : Nat} {x y : D} (hx : Rp a b x) (hy : Rp c e y) : Rp (a + c + 1) (max b e + 1) (.tup [x, y]) := by
  obtain ⟨p1, s1, n1, h1⟩ := hx
  obtain ⟨p2, s2, n2, h2⟩ := hy
  refine ⟨by simp [Pl, Pls, p1, p2], by simp [Sm, Sms, s1, s2], ?_, ?_⟩
  · show nD x + (nD y + 0) + 1 ≤ _
    omega
  · show max (hD x) (max (hD y) 0) + 1 ≤ _
    omega
theorem nopair_rp {a b c e : Nat} {x y : D} (hx : Rp a b x) (hy : Rp c e y) : ∀ d ∈ noPs x y, Rp (2 * a + c + 2) (max b e + 2) d ∧ isPair d = false ∧ isBl d = false := by
  obtain ⟨p1, s1, n1, h1⟩ := hx
  obtain ⟨p2, s2, n2, h2⟩ := hy
  intro d hd
  have hp := nopairs_bad p1 p2 d hd
  refine ⟨⟨hp.1, ?_, ?_, ?_⟩, hp.2, ?_⟩
  all_goals
    unfold noPs at hd
    simp only [List.mem_cons, List.not_mem_nil, or_false] at hd
    rcases hd with rfl | rfl | rfl | rfl | rfl | rfl | rfl | rfl | rfl
    all_goals first
      | rfl
      | decide
      | (simp [Sm, Sms, s1, s2]; done)
      | (simp only [nD, nDs]; omega)
      | (simp only [hD, hDs]; omega)
theorem repr_shape {S : Sto} : oRepr [.tup [.str "refused", .str "shape", .int (-1)]] S = .ok (.str (T3 "shape" (-1))) S := repr_T3 (by decide) (by decide) (by decide)
theorem sp15_ok {l : List D} (h : Fl l) {R : Sto} {m : Int} {z t u : D} {x2 x3 x4 x5 x6 x7 x8 x9 x11 x13 x14 x15 : Option D} (hz : Rp 5 2 z) (ht : Rp 400 8 t) (hu : ∀ S, oRepr [u] S = .ok (.str (toldS (bookV (.tup [z, t])) (bookN (.tup [z, t])))) S) (hm : bookV (.tup [z, t]) = none → bookN (.tup [z, t]) = m) :
    ∃ thing x l', sp15 [some (.ref 0), some z, x2, x3, x4, x5, x6, x7, x8, x9, some u, x11, some t, x13, x14, x15] (l :: R) = .rt (.tup [thing, .str x]) (l' :: R) ∧ Fl l' ∧ Hand m thing x := by
  unfold sp15
  obtain ⟨r, l1, e1, f1, _, _⟩ := draw_ok h (m := 5) (by decide) (by decide) R
  simp -implicitDefEqProofs only [e1, r_dB, bind_ok, bind_ex, r_var, vk_some, List.getD_cons_zero, List.getD_cons_succ, r_dC, r_dOp, r_dUn, r_dTst, r_tst, r_dTru, r_optB, r_trub, r_truT, r_dNotT, r_dAndT, r_dOrT, r_dNot, r_dAnd, r_dOr, r_and1, r_and0, r_or1, r_or0, r_andb, r_orb, r_iteb, r_iteb2, r_raise, ix0, ix1, r_sSetIx, fl0, fl1, fl2, fl3, fs0, fs1, fs2, fs0, r_dIf, r_aNil, r_aCons, gd_t, r_dTup, r_dLst, r_dLstM, r_dSl, r_dNoP, r_dP, r_pK, r_dCB, r_dCall, r_dCallK, r_sSeq, sq_nx, sq_rt, sq_ex, sb_ok, sb_ex, r_sNil, r_sRet, r_sExpr, r_sIf, r_sSet, r_sPar, r_sAsg, r_asg, r_sFor, fn_rt, fn_nx, fn_ex, r_dIt, it_tup, it_lst, eq_int, eq_bl, eq_str, ne_str, cmp_int, add_int, sub_int, neg_int, len_tup, len_lst, tuple_lst, list_tup, i2_int, int_int, if_t, if_f, bd_nm, bd_tp, bd_nil, bd_cons, bdk, List.set_cons_zero, List.set_cons_succ, okL0, okL1, okL2, okL3, okL4, okL5, okL6, okL7, okL8, okL9, okL10, okL11, okL12, okL13, okL14, okL15, List.length_cons, List.length_nil, Nat.reduceAdd, Nat.zero_add, Nat.reduceLeDiff, Nat.reduceEqDiff, decide_true, decide_false, Bool.not_true, Bool.not_false, Bool.and_true, Bool.true_and, eq_self, List.cons_append, List.nil_append, pickL, List.map_cons, List.map_nil, ↓reduceIte, Bool.false_eq_true]
  cases decide (r = 0) with
  | true =>
    obtain ⟨k, l2, e2, f2, k1, k2⟩ := draw_ok f1 (m := 9) (by decide) (by decide) R
    obtain ⟨k, rfl⟩ := Int.eq_ofNat_of_zero_le k1
    have hk : k < (noPs z t).length := by show k < 9; omega
    have ek : (noPs z t)[k]? = some (noPs z t)[k] := List.getElem?_eq_getElem hk
    obtain ⟨q1, q2, q3⟩ := nopair_rp hz ht _ (List.getElem_mem hk)
    have el : ((noPs z t).length : Int) = 9 := rfl
    simp -implicitDefEqProofs only [nopairs_ok, el, e2, ix_lst ek, repr_shape, r_dB, bind_ok, bind_ex, r_var, vk_some, List.getD_cons_zero, List.getD_cons_succ, r_dC, r_dOp, r_dUn, r_dTst, r_tst, r_dTru, r_optB, r_trub, r_truT, r_dNotT, r_dAndT, r_dOrT, r_dNot, r_dAnd, r_dOr, r_and1, r_and0, r_or1, r_or0, r_andb, r_orb, r_iteb, r_iteb2, r_raise, ix0, ix1, r_sSetIx, fl0, fl1, fl2, fl3, fs0, fs1, fs2, fs0, r_dIf, r_aNil, r_aCons, gd_t, r_dTup, r_dLst, r_dLstM, r_dSl, r_dNoP, r_dP, r_pK, r_dCB, r_dCall, r_dCallK, r_sSeq, sq_nx, sq_rt, sq_ex, sb_ok, sb_ex, r_sNil, r_sRet, r_sExpr, r_sIf, r_sSet, r_sPar, r_sAsg, r_asg, r_sFor, fn_rt, fn_nx, fn_ex, r_dIt, it_tup, it_lst, eq_int, eq_bl, eq_str, ne_str, cmp_int, add_int, sub_int, neg_int, len_tup, len_lst, tuple_lst, list_tup, i2_int, int_int, if_t, if_f, bd_nm, bd_tp, bd_nil, bd_cons, bdk, List.set_cons_zero, List.set_cons_succ, okL0, okL1, okL2, okL3, okL4, okL5, okL6, okL7, okL8, okL9, okL10, okL11, okL12, okL13, okL14, okL15, List.length_cons, List.length_nil, Nat.reduceAdd, Nat.zero_add, Nat.reduceLeDiff, Nat.reduceEqDiff, decide_true, decide_false, Bool.not_true, Bool.not_false, Bool.and_true, Bool.true_and, eq_self, List.cons_append, List.nil_append, pickL, List.map_cons, List.map_nil, ↓reduceIte, Bool.false_eq_true]
    exact ⟨_, _, l2, rfl, f2, ⟨q1.1, q1.2.1, by have := q1.2.2.1; omega, by have := q1.2.2.2; omega⟩, q3, by rw [nopair_book q2]; rfl, fun e => by rw [nopair_book q2] at e; cases e⟩
  | false =>
    have q := pair_rp hz ht
    simp -implicitDefEqProofs only [hu, r_dB, bind_ok, bind_ex, r_var, vk_some, List.getD_cons_zero, List.getD_cons_succ, r_dC, r_dOp, r_dUn, r_dTst, r_tst, r_dTru, r_optB, r_trub, r_truT, r_dNotT, r_dAndT, r_dOrT, r_dNot, r_dAnd, r_dOr, r_and1, r_and0, r_or1, r_or0, r_andb, r_orb, r_iteb, r_iteb2, r_raise, ix0, ix1, r_sSetIx, fl0, fl1, fl2, fl3, fs0, fs1, fs2, fs0, r_dIf, r_aNil, r_aCons, gd_t, r_dTup, r_dLst, r_dLstM, r_dSl, r_dNoP, r_dP, r_pK, r_dCB, r_dCall, r_dCallK, r_sSeq, sq_nx, sq_rt, sq_ex, sb_ok, sb_ex, r_sNil, r_sRet, r_sExpr, r_sIf, r_sSet, r_sPar, r_sAsg, r_asg, r_sFor, fn_rt, fn_nx, fn_ex, r_dIt, it_tup, it_lst, eq_int, eq_bl, eq_str, ne_str, cmp_int, add_int, sub_int, neg_int, len_tup, len_lst, tuple_lst, list_tup, i2_int, int_int, if_t, if_f, bd_nm, bd_tp, bd_nil, bd_cons, bdk, List.set_cons_zero, List.set_cons_succ, okL0, okL1, okL2, okL3, okL4, okL5, okL6, okL7, okL8, okL9, okL10, okL11, okL12, okL13, okL14, okL15, List.length_cons, List.length_nil, Nat.reduceAdd, Nat.zero_add, Nat.reduceLeDiff, Nat.reduceEqDiff, decide_true, decide_false, Bool.not_true, Bool.not_false, Bool.and_true, Bool.true_and, eq_self, List.cons_append, List.nil_append, pickL, List.map_cons, List.map_nil, ↓reduceIte, Bool.false_eq_true]
    exact ⟨_, _, l1, rfl, f1, ⟨q.1, q.2.1, by have := q.2.2.1; omega, by have := q.2.2.2; omega⟩, rfl, rfl, hm⟩
theorem repr_size {S : Sto} : oRepr [.tup [.str "refused", .str "size", .int (-1)]] S = .ok (.str (T3 "size" (-1))) S := repr_T3 (by decide) (by decide) (by decide)
theorem repr_deeds {S : Sto} : oRepr [.tup [.str "refused", .str "deeds", .int (-1)]] S = .ok (.str (T3 "deeds" (-1))) S := repr_T3 (by decide) (by decide) (by decide)
theorem sp14_ok {l : List D} (h : Fl l) {R : Sto} {m : Int} {n : Nat} {t u : D} {x2 x3 x4 x5 x6 x7 x8 x9 x11 x13 x14 x15 : Option D} (hn : 1 ≤ n) (hn2 : n ≤ 5) (ht : Rp 400 8 t) (hu : ∀ S, oRepr [u] S = .ok (.str (toldS (bookV (.tup [.int (n : Int), t])) (bookN (.tup [.int (n : Int), t])))) S) (hm : bookV (.tup [.int (n : Int), t]) = none → bookN (.tup [.int (n : Int), t]) = m) :
    ∃ thing x l', sp14 [some (.ref 0), some (.int (n : Int)), x2, x3, x4, x5, x6, x7, x8, x9, some u, x11, some t, x13, x14, x15] (l :: R) = .rt (.tup [thing, .str x]) (l' :: R) ∧ Fl l' ∧ Hand m thing x := by
  unfold sp14
  obtain ⟨r, l1, e1, f1, _, _⟩ := draw_ok h (m := 5) (by decide) (by decide) R
  have sn : Sm (.int (n : Int)) = true := decide_eq_true (by omega)
  have sn2 : Sm (.int (-(n : Int))) = true := decide_eq_true (by omega)
  simp -implicitDefEqProofs only [e1, r_dB, bind_ok, bind_ex, r_var, vk_some, List.getD_cons_zero, List.getD_cons_succ, r_dC, r_dOp, r_dUn, r_dTst, r_tst, r_dTru, r_optB, r_trub, r_truT, r_dNotT, r_dAndT, r_dOrT, r_dNot, r_dAnd, r_dOr, r_and1, r_and0, r_or1, r_or0, r_andb, r_orb, r_iteb, r_iteb2, r_raise, ix0, ix1, r_sSetIx, fl0, fl1, fl2, fl3, fs0, fs1, fs2, fs0, r_dIf, r_aNil, r_aCons, gd_t, r_dTup, r_dLst, r_dLstM, r_dSl, r_dNoP, r_dP, r_pK, r_dCB, r_dCall, r_dCallK, r_sSeq, sq_nx, sq_rt, sq_ex, sb_ok, sb_ex, r_sNil, r_sRet, r_sExpr, r_sIf, r_sSet, r_sPar, r_sAsg, r_asg, r_sFor, fn_rt, fn_nx, fn_ex, r_dIt, it_tup, it_lst, eq_int, eq_bl, eq_str, ne_str, cmp_int, add_int, sub_int, neg_int, len_tup, len_lst, tuple_lst, list_tup, i2_int, int_int, if_t, if_f, bd_nm, bd_tp, bd_nil, bd_cons, bdk, List.set_cons_zero, List.set_cons_succ, okL0, okL1, okL2, okL3, okL4, okL5, okL6, okL7, okL8, okL9, okL10, okL11, okL12, okL13, okL14, okL15, List.length_cons, List.length_nil, Nat.reduceAdd, Nat.zero_add, Nat.reduceLeDiff, Nat.reduceEqDiff, decide_true, decide_false, Bool.not_true, Bool.not_false, Bool.and_true, Bool.true_and, eq_self, List.cons_append, List.nil_append, pickL, List.map_cons, List.map_nil, ↓reduceIte, Bool.false_eq_true]
  cases decide (r = 0) with
  | true =>
    obtain ⟨k, l2, e2, f2, k1, k2⟩ := draw_ok f1 (m := 9) (by decide) (by decide) R
    obtain ⟨k, rfl⟩ := Int.eq_ofNat_of_zero_le k1
    generalize hos : [D.bl true, .bl false, .int 0, .int (-(n : Int)), .non, .str "3", .tup [.int (n : Int)], .lst [.int (n : Int)], .int (-(10 ^ 59))] = os
    have hk : k < os.length := by rw [← hos]; show k < 9; omega
    have ek : os[k]? = some os[k] := List.getElem?_eq_getElem hk
    have q : Rp 5 2 os[k] ∧ isW os[k] = false := by
      have m := List.getElem_mem hk
      generalize os[k] = d at m
      rw [← hos] at m
      simp only [List.mem_cons, List.not_mem_nil, or_false] at m
      rcases m with rfl | rfl | rfl | rfl | rfl | rfl | rfl | rfl | rfl
      · exact ⟨⟨rfl, rfl, by decide, by decide⟩, rfl⟩
      · exact ⟨⟨rfl, rfl, by decide, by decide⟩, rfl⟩
      · exact ⟨⟨rfl, by decide, by decide, by decide⟩, by decide⟩
      · exact ⟨⟨rfl, sn2, by show 1 ≤ 5; decide, by show 0 ≤ 2; decide⟩, decide_eq_false (by omega)⟩
      · exact ⟨⟨rfl, rfl, by decide, by decide⟩, rfl⟩
      · exact ⟨⟨rfl, by decide, by decide, by decide⟩, rfl⟩
      · exact ⟨⟨rfl, by show (Sm (.int (n : Int)) && true) = true; rw [sn]; rfl, by show 1 + 0 + 1 ≤ 5; decide, by show max 0 0 + 1 ≤ 2; decide⟩, rfl⟩
      · exact ⟨⟨rfl, by show (Sm (.int (n : Int)) && true) = true; rw [sn]; rfl, by show 1 + 0 + 1 ≤ 5; decide, by show max 0 0 + 1 ≤ 2; decide⟩, rfl⟩
      · exact ⟨⟨rfl, by decide, by decide, by decide⟩, by decide⟩
    have lo : okLen os.length = true := by rw [← hos]; exact okL9
    simp -implicitDefEqProofs only [e2, pow59, hos, lo, ix_lst ek, r_dB, bind_ok, bind_ex, r_var, vk_some, List.getD_cons_zero, List.getD_cons_succ, r_dC, r_dOp, r_dUn, r_dTst, r_tst, r_dTru, r_optB, r_trub, r_truT, r_dNotT, r_dAndT, r_dOrT, r_dNot, r_dAnd, r_dOr, r_and1, r_and0, r_or1, r_or0, r_andb, r_orb, r_iteb, r_iteb2, r_raise, ix0, ix1, r_sSetIx, fl0, fl1, fl2, fl3, fs0, fs1, fs2, fs0, r_dIf, r_aNil, r_aCons, gd_t, r_dTup, r_dLst, r_dLstM, r_dSl, r_dNoP, r_dP, r_pK, r_dCB, r_dCall, r_dCallK, r_sSeq, sq_nx, sq_rt, sq_ex, sb_ok, sb_ex, r_sNil, r_sRet, r_sExpr, r_sIf, r_sSet, r_sPar, r_sAsg, r_asg, r_sFor, fn_rt, fn_nx, fn_ex, r_dIt, it_tup, it_lst, eq_int, eq_bl, eq_str, ne_str, cmp_int, add_int, sub_int, neg_int, len_tup, len_lst, tuple_lst, list_tup, i2_int, int_int, if_t, if_f, bd_nm, bd_tp, bd_nil, bd_cons, bdk, List.set_cons_zero, List.set_cons_succ, okL0, okL1, okL2, okL3, okL4, okL5, okL6, okL7, okL8, okL9, okL10, okL11, okL12, okL13, okL14, okL15, List.length_cons, List.length_nil, Nat.reduceAdd, Nat.zero_add, Nat.reduceLeDiff, Nat.reduceEqDiff, decide_true, decide_false, Bool.not_true, Bool.not_false, Bool.and_true, Bool.true_and, eq_self, List.cons_append, List.nil_append, pickL, List.map_cons, List.map_nil, ↓reduceIte, Bool.false_eq_true]
    exact sp15_ok f2 q.1 ht (fun S => by
      rw [repr_size]
      show _ = Res.ok (D.str (toldS (bookV2 os[k] t) _)) S
      unfold bookV2
      rw [if_neg (by rw [q.2]; decide)]; rfl) fun e => by
      change bookV2 os[k] t = none at e
      unfold bookV2 at e
      rw [if_neg (by rw [q.2]; decide)] at e
      cases e
  | false =>
    simp -implicitDefEqProofs only [r_dB, bind_ok, bind_ex, r_var, vk_some, List.getD_cons_zero, List.getD_cons_succ, r_dC, r_dOp, r_dUn, r_dTst, r_tst, r_dTru, r_optB, r_trub, r_truT, r_dNotT, r_dAndT, r_dOrT, r_dNot, r_dAnd, r_dOr, r_and1, r_and0, r_or1, r_or0, r_andb, r_orb, r_iteb, r_iteb2, r_raise, ix0, ix1, r_sSetIx, fl0, fl1, fl2, fl3, fs0, fs1, fs2, fs0, r_dIf, r_aNil, r_aCons, gd_t, r_dTup, r_dLst, r_dLstM, r_dSl, r_dNoP, r_dP, r_pK, r_dCB, r_dCall, r_dCallK, r_sSeq, sq_nx, sq_rt, sq_ex, sb_ok, sb_ex, r_sNil, r_sRet, r_sExpr, r_sIf, r_sSet, r_sPar, r_sAsg, r_asg, r_sFor, fn_rt, fn_nx, fn_ex, r_dIt, it_tup, it_lst, eq_int, eq_bl, eq_str, ne_str, cmp_int, add_int, sub_int, neg_int, len_tup, len_lst, tuple_lst, list_tup, i2_int, int_int, if_t, if_f, bd_nm, bd_tp, bd_nil, bd_cons, bdk, List.set_cons_zero, List.set_cons_succ, okL0, okL1, okL2, okL3, okL4, okL5, okL6, okL7, okL8, okL9, okL10, okL11, okL12, okL13, okL14, okL15, List.length_cons, List.length_nil, Nat.reduceAdd, Nat.zero_add, Nat.reduceLeDiff, Nat.reduceEqDiff, decide_true, decide_false, Bool.not_true, Bool.not_false, Bool.and_true, Bool.true_and, eq_self, List.cons_append, List.nil_append, pickL, List.map_cons, List.map_nil, ↓reduceIte, Bool.false_eq_true]
    exact sp15_ok f1 ⟨rfl, sn, by show 1 ≤ 5; decide, by show 0 ≤ 2; decide⟩ ht hu hm
theorem book_n {n : Nat} {t : D} (hn : 1 ≤ n) : bookV (.tup [.int (n : Int), t]) = match t with | .tup ds => firstV (n : Int) 0 ds | _ => some (("deeds" : Str), (-1 : Int)) := by
  show bookV2 (.int (n : Int)) t = _
  unfold bookV2
  rw [if_pos (show isW (.int (n : Int)) = true from decide_eq_true (by omega))]
  rfl
theorem sp13_ok {l : List D} (h : Fl l) {R : Sto} {n B : Nat} {bs : List D} {u : D} {x2 x3 x4 x5 x6 x7 x8 x11 x13 x14 x15 : Option D} (hn : 1 ≤ n) (hn2 : n ≤ 5) (hB : R[B]? = some bs) (hb : Rp 400 8 (.tup bs)) (hu : ∀ S, oRepr [u] S = .ok (.str (toldS (firstV (n : Int) 0 bs) bs.length)) S) :
    ∃ thing x l', sp13 [some (.ref 0), some (.int (n : Int)), x2, x3, x4, x5, x6, x7, x8, some (.ref (B + 1)), some u, x11, some (.tup bs), x13, x14, x15] (l :: R) = .rt (.tup [thing, .str x]) (l' :: R) ∧ Fl l' ∧ Hand bs.length thing x := by
  unfold sp13
  obtain ⟨r, l1, e1, f1, _, _⟩ := draw_ok h (m := 5) (by decide) (by decide) R
  simp -implicitDefEqProofs only [e1, r_dB, bind_ok, bind_ex, r_var, vk_some, List.getD_cons_zero, List.getD_cons_succ, r_dC, r_dOp, r_dUn, r_dTst, r_tst, r_dTru, r_optB, r_trub, r_truT, r_dNotT, r_dAndT, r_dOrT, r_dNot, r_dAnd, r_dOr, r_and1, r_and0, r_or1, r_or0, r_andb, r_orb, r_iteb, r_iteb2, r_raise, ix0, ix1, r_sSetIx, fl0, fl1, fl2, fl3, fs0, fs1, fs2, fs0, r_dIf, r_aNil, r_aCons, gd_t, r_dTup, r_dLst, r_dLstM, r_dSl, r_dNoP, r_dP, r_pK, r_dCB, r_dCall, r_dCallK, r_sSeq, sq_nx, sq_rt, sq_ex, sb_ok, sb_ex, r_sNil, r_sRet, r_sExpr, r_sIf, r_sSet, r_sPar, r_sAsg, r_asg, r_sFor, fn_rt, fn_nx, fn_ex, r_dIt, it_tup, it_lst, eq_int, eq_bl, eq_str, ne_str, cmp_int, add_int, sub_int, neg_int, len_tup, len_lst, tuple_lst, list_tup, i2_int, int_int, if_t, if_f, bd_nm, bd_tp, bd_nil, bd_cons, bdk, List.set_cons_zero, List.set_cons_succ, okL0, okL1, okL2, okL3, okL4, okL5, okL6, okL7, okL8, okL9, okL10, okL11, okL12, okL13, okL14, okL15, List.length_cons, List.length_nil, Nat.reduceAdd, Nat.zero_add, Nat.reduceLeDiff, Nat.reduceEqDiff, decide_true, decide_false, Bool.not_true, Bool.not_false, Bool.and_true, Bool.true_and, eq_self, List.cons_append, List.nil_append, pickL, List.map_cons, List.map_nil, ↓reduceIte, Bool.false_eq_true]
  cases decide (r = 0) with
  | true =>
    obtain ⟨k, l2, e2, f2, k1, k2⟩ := draw_ok f1 (m := 6) (by decide) (by decide) R
    obtain ⟨k, rfl⟩ := Int.eq_ofNat_of_zero_le k1
    have el : oList [.ref (B + 1)] (l1 :: R) = .ok (.lst bs) (l1 :: R) := by
      unfold oList
      simp only [D.seq, List.getElem?_cons_succ, hB]
    generalize hos : [D.lst bs, .non, .int 0, .str "", .lst [], .str "ab"] = os
    have hk : k < os.length := by rw [← hos]; show k < 6; omega
    have ek : os[k]? = some os[k] := List.getElem?_eq_getElem hk
    have q : Rp 400 8 os[k] ∧ isTup os[k] = false := by
      have m := List.getElem_mem hk
      generalize os[k] = d at m
      rw [← hos] at m
      simp only [List.mem_cons, List.not_mem_nil, or_false] at m
      rcases m with rfl | rfl | rfl | rfl | rfl | rfl
      · exact ⟨hb, rfl⟩
      · exact ⟨⟨rfl, rfl, by decide, by decide⟩, rfl⟩
      · exact ⟨⟨rfl, by decide, by decide, by decide⟩, rfl⟩
      · exact ⟨⟨rfl, by decide, by decide, by decide⟩, rfl⟩
      · exact ⟨⟨rfl, rfl, by decide, by decide⟩, rfl⟩
      · exact ⟨⟨rfl, by decide, by decide, by decide⟩, rfl⟩
    have lo : okLen os.length = true := by rw [← hos]; exact okL6
    simp -implicitDefEqProofs only [el, e2, hos, lo, ix_lst ek, r_dB, bind_ok, bind_ex, r_var, vk_some, List.getD_cons_zero, List.getD_cons_succ, r_dC, r_dOp, r_dUn, r_dTst, r_tst, r_dTru, r_optB, r_trub, r_truT, r_dNotT, r_dAndT, r_dOrT, r_dNot, r_dAnd, r_dOr, r_and1, r_and0, r_or1, r_or0, r_andb, r_orb, r_iteb, r_iteb2, r_raise, ix0, ix1, r_sSetIx, fl0, fl1, fl2, fl3, fs0, fs1, fs2, fs0, r_dIf, r_aNil, r_aCons, gd_t, r_dTup, r_dLst, r_dLstM, r_dSl, r_dNoP, r_dP, r_pK, r_dCB, r_dCall, r_dCallK, r_sSeq, sq_nx, sq_rt, sq_ex, sb_ok, sb_ex, r_sNil, r_sRet, r_sExpr, r_sIf, r_sSet, r_sPar, r_sAsg, r_asg, r_sFor, fn_rt, fn_nx, fn_ex, r_dIt, it_tup, it_lst, eq_int, eq_bl, eq_str, ne_str, cmp_int, add_int, sub_int, neg_int, len_tup, len_lst, tuple_lst, list_tup, i2_int, int_int, if_t, if_f, bd_nm, bd_tp, bd_nil, bd_cons, bdk, List.set_cons_zero, List.set_cons_succ, okL0, okL1, okL2, okL3, okL4, okL5, okL6, okL7, okL8, okL9, okL10, okL11, okL12, okL13, okL14, okL15, List.length_cons, List.length_nil, Nat.reduceAdd, Nat.zero_add, Nat.reduceLeDiff, Nat.reduceEqDiff, decide_true, decide_false, Bool.not_true, Bool.not_false, Bool.and_true, Bool.true_and, eq_self, List.cons_append, List.nil_append, pickL, List.map_cons, List.map_nil, ↓reduceIte, Bool.false_eq_true]
    refine sp14_ok f2 hn hn2 q.1 (fun S => ?_) (fun e => ?_)
    · rw [repr_deeds, book_n hn]
      generalize os[k] = d at q ⊢
      cases d <;> first | rfl | (simp [isTup] at q; done)
    · rw [book_n hn] at e
      generalize os[k] = d at q e
      cases d <;> first | (simp [isTup] at q; done) | cases e
  | false =>
    simp -implicitDefEqProofs only [r_dB, bind_ok, bind_ex, r_var, vk_some, List.getD_cons_zero, List.getD_cons_succ, r_dC, r_dOp, r_dUn, r_dTst, r_tst, r_dTru, r_optB, r_trub, r_truT, r_dNotT, r_dAndT, r_dOrT, r_dNot, r_dAnd, r_dOr, r_and1, r_and0, r_or1, r_or0, r_andb, r_orb, r_iteb, r_iteb2, r_raise, ix0, ix1, r_sSetIx, fl0, fl1, fl2, fl3, fs0, fs1, fs2, fs0, r_dIf, r_aNil, r_aCons, gd_t, r_dTup, r_dLst, r_dLstM, r_dSl, r_dNoP, r_dP, r_pK, r_dCB, r_dCall, r_dCallK, r_sSeq, sq_nx, sq_rt, sq_ex, sb_ok, sb_ex, r_sNil, r_sRet, r_sExpr, r_sIf, r_sSet, r_sPar, r_sAsg, r_asg, r_sFor, fn_rt, fn_nx, fn_ex, r_dIt, it_tup, it_lst, eq_int, eq_bl, eq_str, ne_str, cmp_int, add_int, sub_int, neg_int, len_tup, len_lst, tuple_lst, list_tup, i2_int, int_int, if_t, if_f, bd_nm, bd_tp, bd_nil, bd_cons, bdk, List.set_cons_zero, List.set_cons_succ, okL0, okL1, okL2, okL3, okL4, okL5, okL6, okL7, okL8, okL9, okL10, okL11, okL12, okL13, okL14, okL15, List.length_cons, List.length_nil, Nat.reduceAdd, Nat.zero_add, Nat.reduceLeDiff, Nat.reduceEqDiff, decide_true, decide_false, Bool.not_true, Bool.not_false, Bool.and_true, Bool.true_and, eq_self, List.cons_append, List.nil_append, pickL, List.map_cons, List.map_nil, ↓reduceIte, Bool.false_eq_true]
    refine sp14_ok f1 hn hn2 hb (fun S => ?_) (fun _ => rfl)
    rw [hu S, book_n hn]; rfl
theorem sp12_ok {l : List D} (h : Fl l) {R : Sto} {n B : Nat} {bs : List D} {u : D} {x2 x3 x4 x5 x6 x7 x8 x11 x12 x13 x14 x15 : Option D} (hn : 1 ≤ n) (hn2 : n ≤ 5) (hB : R[B]? = some bs) (hb : Rp 400 8 (.tup bs)) (hu : ∀ S, oRepr [u] S = .ok (.str (toldS (firstV (n : Int) 0 bs) bs.length)) S) :
    ∃ thing x l', sp12 [some (.ref 0), some (.int (n : Int)), x2, x3, x4, x5, x6, x7, x8, some (.ref (B + 1)), some u, x11, x12, x13, x14, x15] (l :: R) = .rt (.tup [thing, .str x]) (l' :: R) ∧ Fl l' ∧ Hand bs.length thing x := by
  unfold sp12
  have et : oTuple [.ref (B + 1)] (l :: R) = .ok (.tup bs) (l :: R) := by
    unfold oTuple
    simp only [D.seqL, List.getElem?_cons_succ, hB]
  simp -implicitDefEqProofs only [et, r_dB, bind_ok, bind_ex, r_var, vk_some, List.getD_cons_zero, List.getD_cons_succ, r_dC, r_dOp, r_dUn, r_dTst, r_tst, r_dTru, r_optB, r_trub, r_truT, r_dNotT, r_dAndT, r_dOrT, r_dNot, r_dAnd, r_dOr, r_and1, r_and0, r_or1, r_or0, r_andb, r_orb, r_iteb, r_iteb2, r_raise, ix0, ix1, r_sSetIx, fl0, fl1, fl2, fl3, fs0, fs1, fs2, fs0, r_dIf, r_aNil, r_aCons, gd_t, r_dTup, r_dLst, r_dLstM, r_dSl, r_dNoP, r_dP, r_pK, r_dCB, r_dCall, r_dCallK, r_sSeq, sq_nx, sq_rt, sq_ex, sb_ok, sb_ex, r_sNil, r_sRet, r_sExpr, r_sIf, r_sSet, r_sPar, r_sAsg, r_asg, r_sFor, fn_rt, fn_nx, fn_ex, r_dIt, it_tup, it_lst, eq_int, eq_bl, eq_str, ne_str, cmp_int, add_int, sub_int, neg_int, len_tup, len_lst, tuple_lst, list_tup, i2_int, int_int, if_t, if_f, bd_nm, bd_tp, bd_nil, bd_cons, bdk, List.set_cons_zero, List.set_cons_succ, okL0, okL1, okL2, okL3, okL4, okL5, okL6, okL7, okL8, okL9, okL10, okL11, okL12, okL13, okL14, okL15, List.length_cons, List.length_nil, Nat.reduceAdd, Nat.zero_add, Nat.reduceLeDiff, Nat.reduceEqDiff, decide_true, decide_false, Bool.not_true, Bool.not_false, Bool.and_true, Bool.true_and, eq_self, List.cons_append, List.nil_append, pickL, List.map_cons, List.map_nil, ↓reduceIte, Bool.false_eq_true]
  exact sp13_ok h hn hn2 hB hb hu
end k00

set_option Elab.async false
set_option linter.all false
set_option maxRecDepth 100000
set_option maxHeartbeats 1000000
namespace k00
open PySem DE
/-! ### the least of what is found is the first fault -/
def leP (m q : Int × Int) : Prop := m.1 < q.1 ∨ (m.1 = q.1 ∧ m.2 ≤ q.2)
theorem plt_iff {p q : Int × Int} : pltI p q = true ↔ (p.1 < q.1 ∨ (p.1 = q.1 ∧ p.2 < q.2)) := by
  unfold pltI
  by_cases h : p.1 = q.1
  · rw [if_pos h, decide_eq_true_iff]; omega
  · rw [if_neg h, decide_eq_true_iff]; omega
theorem minP_ok : ∀ (ps : List (Int × Int)) (p : Int × Int), minP p ps ∈ p :: ps ∧ ∀ q ∈ p :: ps, leP (minP p ps) q
  | [], p => ⟨List.mem_cons_self, fun q m => by rw [List.mem_singleton.mp m]; exact .inr ⟨rfl, Int.le_refl _⟩⟩
  | y :: ps, p => by
    have e : minP p (y :: ps) = minP (if pltI y p = true then y else p) ps := rfl
    rw [e]
    by_cases h : pltI y p = true
    · rw [if_pos h]
      obtain ⟨h1, h2⟩ := minP_ok ps y
      have h3 := plt_iff.mp h
      have h4 := h2 y List.mem_cons_self
      refine ⟨List.mem_cons_of_mem _ h1, fun q m => ?_⟩
      rcases List.mem_cons.mp m with rfl | m
      · unfold leP at h4 ⊢; omega
      · exact h2 q m
    · rw [if_neg h]
      obtain ⟨h1, h2⟩ := minP_ok ps p
      have h3 : ¬ (y.1 < p.1 ∨ (y.1 = p.1 ∧ y.2 < p.2)) := fun z => h (plt_iff.mpr z)
      have h4 := h2 p List.mem_cons_self
      refine ⟨?_, fun q m => ?_⟩
      · rcases List.mem_cons.mp h1 with e | m
        · rw [e]; exact List.mem_cons_self
        · exact List.mem_cons_of_mem _ (List.mem_cons_of_mem _ m)
      · rcases List.mem_cons.mp m with rfl | m
        · exact h4
        · rcases List.mem_cons.mp m with rfl | m
          · unfold leP at h4 ⊢; omega
          · exact h2 q (List.mem_cons_of_mem _ m)
def wordC (c : Int) : Str := if c = 0 then "shape" else if c = 1 then "take" else "give"
def codeAt (fs : List (Int × Int)) (i : Int) : Option Str := if (i, 0) ∈ fs then some "shape" else if (i, 1) ∈ fs then some "take" else if (i, 2) ∈ fs then some "give" else none
structure Rel (n : Nat) (bs : List D) (fs : List (Int × Int)) : Prop where
  at_ : ∀ (i : Nat) d, bs[i]? = some d → deedV (n : Int) d = codeAt fs (i : Int)
  en : ∀ q ∈ fs, 0 ≤ q.1 ∧ q.1 < bs.length ∧ (q.2 = 0 ∨ q.2 = 1 ∨ q.2 = 2)
theorem first_none {n : Int} : ∀ {bs : List D} {i : Nat}, (∀ d ∈ bs, deedV n d = none) → firstV n i bs = none
  | [], _, _ => rfl
  | d :: bs, i, h => by
    unfold firstV
    rw [h d List.mem_cons_self]
    exact first_none fun e m => h e (List.mem_cons_of_mem _ m)
theorem first_at {n : Int} {w : Str} : ∀ {bs : List D} {i k : Nat} {d : D}, bs[k]? = some d → deedV n d = some w → (∀ (j : Nat) (e : D), j < k → bs[j]? = some e → deedV n e = none) → firstV n i bs = some (w, ((i + k : Nat) : Int))
  | [], i, k, d, h, _, _ => by simp at h
  | b :: bs, i, 0, d, h, hd, _ => by
    simp only [List.getElem?_cons_zero, Option.some.injEq] at h
    subst h
    unfold firstV
    rw [hd]; rfl
  | b :: bs, i, k + 1, d, h, hd, hn => by
    unfold firstV
    rw [hn 0 b (Nat.succ_pos _) rfl]
    have := first_at (i := i + 1) (k := k) (by simpa using h) hd fun j e hj he => hn (j + 1) e (Nat.succ_lt_succ hj) (by simpa using he)
    rw [show i + (k + 1) = i + 1 + k by omega]
    exact this
theorem rel_first {n : Nat} {bs : List D} {fs : List (Int × Int)} (r : Rel n bs fs) : firstV (n : Int) 0 bs = match fs with
    | [] => none
    | p :: ps => some (wordC (minP p ps).2, (minP p ps).1) := by
  cases fs with
  | nil =>
    exact first_none fun d m => by
      obtain ⟨i, hi⟩ := List.getElem?_of_mem m
      rw [r.at_ i d hi]; rfl
  | cons p ps =>
    dsimp only
    obtain ⟨hm, hl⟩ := minP_ok ps p
    generalize minP p ps = q at hm hl
    obtain ⟨h1, h2, h3⟩ := r.en q hm
    obtain ⟨i, c⟩ := q
    dsimp only at h1 h2 h3 ⊢
    obtain ⟨k, rfl⟩ := Int.eq_ofNat_of_zero_le h1
    have hk : k < bs.length := by omega
    have ek : bs[k]? = some bs[k] := List.getElem?_eq_getElem hk
    have no : ∀ c' : Int, c' < c → ((k : Int), c') ∉ p :: ps := fun c' hc m => by
      have := hl _ m
      unfold leP at this
      simp only at this
      omega
    have key := first_at (n := (n : Int)) (w := wordC c) (i := 0) ek (by
      rw [r.at_ k _ ek]
      unfold codeAt wordC
      rcases h3 with rfl | rfl | rfl
      · rw [if_pos hm]; rfl
      · rw [if_neg (no 0 (by decide)), if_pos hm]; rfl
      · rw [if_neg (no 0 (by decide)), if_neg (no 1 (by decide)), if_pos hm]; rfl) fun j e hj he => by
        rw [r.at_ j e he]
        have nj : ∀ c' : Int, ((j : Int), c') ∉ p :: ps := fun c' m => by
          have := hl _ m
          unfold leP at this
          simp only at this
          omega
        unfold codeAt
        rw [if_neg (nj 0), if_neg (nj 1), if_neg (nj 2)]
    rw [Nat.zero_add] at key
    exact key
def fD (p : Int × Int) : D := .tup [.int p.1, .int p.2]
theorem pairs_fD : ∀ fs : List (Int × Int), pairsI (fs.map fD) = some fs
  | [] => rfl
  | p :: ps => by
    rw [List.map_cons]
    unfold pairsI
    rw [pairs_fD ps]; rfl
theorem len_ref {k : Nat} {l : List D} {S : Sto} (h : S[k]? = some l) : oLen [.ref k] S = .ok (.int l.length) S := by
  unfold oLen
  simp only [D.seq, h]
theorem min_ref {k : Nat} {p : Int × Int} {ps : List (Int × Int)} {S : Sto} (h : S[k]? = some ((p :: ps).map fD)) : oMinP [.ref k] S = .ok (.tup [.int (minP p ps).1, .int (minP p ps).2]) S := by
  unfold oMinP
  simp only [h, pairs_fD]
theorem sp11_ok {l : List D} (h : Fl l) {R : Sto} {n F B : Nat} {bs : List D} {dv : List D} {fs : List (Int × Int)} {x3 x5 x6 x7 x8 x10 x11 x12 x13 x14 x15 : Option D} (hn : 1 ≤ n) (hn2 : n ≤ 5) (hF : R[F]? = some (fs.map fD)) (hB : R[B]? = some bs) (hb : Rp 400 8 (.tup bs)) (hl : dv.length = bs.length) (hl2 : bs.length ≤ 5) (hr : Rel n bs fs) :
    ∃ thing x l', sp11 [some (.ref 0), some (.int (n : Int)), some (.tup dv), x3, some (.ref (F + 1)), x5, x6, x7, x8, some (.ref (B + 1)), x10, x11, x12, x13, x14, x15] (l :: R) = .rt (.tup [thing, .str x]) (l' :: R) ∧ Fl l' ∧ Hand bs.length thing x := by
  unfold sp11
  have lf : oLen [.ref (F + 1)] (l :: R) = .ok (.int ((fs.map fD).length)) (l :: R) := len_ref (by simpa using hF)
  simp -implicitDefEqProofs only [lf, r_dB, bind_ok, bind_ex, r_var, vk_some, List.getD_cons_zero, List.getD_cons_succ, r_dC, r_dOp, r_dUn, r_dTst, r_tst, r_dTru, r_optB, r_trub, r_truT, r_dNotT, r_dAndT, r_dOrT, r_dNot, r_dAnd, r_dOr, r_and1, r_and0, r_or1, r_or0, r_andb, r_orb, r_iteb, r_iteb2, r_raise, ix0, ix1, r_sSetIx, fl0, fl1, fl2, fl3, fs0, fs1, fs2, fs0, r_dIf, r_aNil, r_aCons, gd_t, r_dTup, r_dLst, r_dLstM, r_dSl, r_dNoP, r_dP, r_pK, r_dCB, r_dCall, r_dCallK, r_sSeq, sq_nx, sq_rt, sq_ex, sb_ok, sb_ex, r_sNil, r_sRet, r_sExpr, r_sIf, r_sSet, r_sPar, r_sAsg, r_asg, r_sFor, fn_rt, fn_nx, fn_ex, r_dIt, it_tup, it_lst, eq_int, eq_bl, eq_str, ne_str, cmp_int, add_int, sub_int, neg_int, len_tup, len_lst, tuple_lst, list_tup, i2_int, int_int, if_t, if_f, bd_nm, bd_tp, bd_nil, bd_cons, bdk, List.set_cons_zero, List.set_cons_succ, okL0, okL1, okL2, okL3, okL4, okL5, okL6, okL7, okL8, okL9, okL10, okL11, okL12, okL13, okL14, okL15, List.length_cons, List.length_nil, Nat.reduceAdd, Nat.zero_add, Nat.reduceLeDiff, Nat.reduceEqDiff, decide_true, decide_false, Bool.not_true, Bool.not_false, Bool.and_true, Bool.true_and, eq_self, List.cons_append, List.nil_append, pickL, List.map_cons, List.map_nil, ↓reduceIte, Bool.false_eq_true]
  cases fs with
  | nil =>
    rw [show decide ((0 : Int) < ((([] : List (Int × Int)).map fD).length : Int)) = false from rfl]
    simp -implicitDefEqProofs only [r_dB, bind_ok, bind_ex, r_var, vk_some, List.getD_cons_zero, List.getD_cons_succ, r_dC, r_dOp, r_dUn, r_dTst, r_tst, r_dTru, r_optB, r_trub, r_truT, r_dNotT, r_dAndT, r_dOrT, r_dNot, r_dAnd, r_dOr, r_and1, r_and0, r_or1, r_or0, r_andb, r_orb, r_iteb, r_iteb2, r_raise, ix0, ix1, r_sSetIx, fl0, fl1, fl2, fl3, fs0, fs1, fs2, fs0, r_dIf, r_aNil, r_aCons, gd_t, r_dTup, r_dLst, r_dLstM, r_dSl, r_dNoP, r_dP, r_pK, r_dCB, r_dCall, r_dCallK, r_sSeq, sq_nx, sq_rt, sq_ex, sb_ok, sb_ex, r_sNil, r_sRet, r_sExpr, r_sIf, r_sSet, r_sPar, r_sAsg, r_asg, r_sFor, fn_rt, fn_nx, fn_ex, r_dIt, it_tup, it_lst, eq_int, eq_bl, eq_str, ne_str, cmp_int, add_int, sub_int, neg_int, len_tup, len_lst, tuple_lst, list_tup, i2_int, int_int, if_t, if_f, bd_nm, bd_tp, bd_nil, bd_cons, bdk, List.set_cons_zero, List.set_cons_succ, okL0, okL1, okL2, okL3, okL4, okL5, okL6, okL7, okL8, okL9, okL10, okL11, okL12, okL13, okL14, okL15, List.length_cons, List.length_nil, Nat.reduceAdd, Nat.zero_add, Nat.reduceLeDiff, Nat.reduceEqDiff, decide_true, decide_false, Bool.not_true, Bool.not_false, Bool.and_true, Bool.true_and, eq_self, List.cons_append, List.nil_append, pickL, List.map_cons, List.map_nil, ↓reduceIte, Bool.false_eq_true]
    refine sp12_ok h hn hn2 hB hb fun S => ?_
    rw [hl, rel_first hr]
    exact repr_T2 (by omega) (by omega)
  | cons p ps =>
    rw [show decide ((0 : Int) < (((p :: ps).map fD).length : Int)) = true from by apply decide_eq_true; rw [List.length_map, List.length_cons]; omega]
    have em : oMinP [.ref (F + 1)] (l :: R) = .ok (.tup [.int (minP p ps).1, .int (minP p ps).2]) (l :: R) := min_ref (by simpa using hF)
    have rf := rel_first hr
    dsimp only at rf
    obtain ⟨h1, h2, h3⟩ := hr.en _ (minP_ok ps p).1
    simp -implicitDefEqProofs only [em, r_dB, bind_ok, bind_ex, r_var, vk_some, List.getD_cons_zero, List.getD_cons_succ, r_dC, r_dOp, r_dUn, r_dTst, r_tst, r_dTru, r_optB, r_trub, r_truT, r_dNotT, r_dAndT, r_dOrT, r_dNot, r_dAnd, r_dOr, r_and1, r_and0, r_or1, r_or0, r_andb, r_orb, r_iteb, r_iteb2, r_raise, ix0, ix1, r_sSetIx, fl0, fl1, fl2, fl3, fs0, fs1, fs2, fs0, r_dIf, r_aNil, r_aCons, gd_t, r_dTup, r_dLst, r_dLstM, r_dSl, r_dNoP, r_dP, r_pK, r_dCB, r_dCall, r_dCallK, r_sSeq, sq_nx, sq_rt, sq_ex, sb_ok, sb_ex, r_sNil, r_sRet, r_sExpr, r_sIf, r_sSet, r_sPar, r_sAsg, r_asg, r_sFor, fn_rt, fn_nx, fn_ex, r_dIt, it_tup, it_lst, eq_int, eq_bl, eq_str, ne_str, cmp_int, add_int, sub_int, neg_int, len_tup, len_lst, tuple_lst, list_tup, i2_int, int_int, if_t, if_f, bd_nm, bd_tp, bd_nil, bd_cons, bdk, List.set_cons_zero, List.set_cons_succ, okL0, okL1, okL2, okL3, okL4, okL5, okL6, okL7, okL8, okL9, okL10, okL11, okL12, okL13, okL14, okL15, List.length_cons, List.length_nil, Nat.reduceAdd, Nat.zero_add, Nat.reduceLeDiff, Nat.reduceEqDiff, decide_true, decide_false, Bool.not_true, Bool.not_false, Bool.and_true, Bool.true_and, eq_self, List.cons_append, List.nil_append, pickL, List.map_cons, List.map_nil, ↓reduceIte, Bool.false_eq_true]
    generalize minP p ps = q at h1 h2 h3 rf
    obtain ⟨i, c⟩ := q
    dsimp only at h1 h2 h3 rf ⊢
    have ew : ∀ S : Sto, oIx (.lst [.str "shape", .str "take", .str "give"]) (.int c) S = .ok (.str (wordC c)) S := fun S => by
      rcases h3 with rfl | rfl | rfl
      · exact ix_lst (i := 0) rfl
      · exact ix_lst (i := 1) rfl
      · exact ix_lst (i := 2) rfl
    have hw : wordC c ∈ wordsV := by rcases h3 with rfl | rfl | rfl <;> decide
    simp -implicitDefEqProofs only [ew, r_dB, bind_ok, bind_ex, r_var, vk_some, List.getD_cons_zero, List.getD_cons_succ, r_dC, r_dOp, r_dUn, r_dTst, r_tst, r_dTru, r_optB, r_trub, r_truT, r_dNotT, r_dAndT, r_dOrT, r_dNot, r_dAnd, r_dOr, r_and1, r_and0, r_or1, r_or0, r_andb, r_orb, r_iteb, r_iteb2, r_raise, ix0, ix1, r_sSetIx, fl0, fl1, fl2, fl3, fs0, fs1, fs2, fs0, r_dIf, r_aNil, r_aCons, gd_t, r_dTup, r_dLst, r_dLstM, r_dSl, r_dNoP, r_dP, r_pK, r_dCB, r_dCall, r_dCallK, r_sSeq, sq_nx, sq_rt, sq_ex, sb_ok, sb_ex, r_sNil, r_sRet, r_sExpr, r_sIf, r_sSet, r_sPar, r_sAsg, r_asg, r_sFor, fn_rt, fn_nx, fn_ex, r_dIt, it_tup, it_lst, eq_int, eq_bl, eq_str, ne_str, cmp_int, add_int, sub_int, neg_int, len_tup, len_lst, tuple_lst, list_tup, i2_int, int_int, if_t, if_f, bd_nm, bd_tp, bd_nil, bd_cons, bdk, List.set_cons_zero, List.set_cons_succ, okL0, okL1, okL2, okL3, okL4, okL5, okL6, okL7, okL8, okL9, okL10, okL11, okL12, okL13, okL14, okL15, List.length_cons, List.length_nil, Nat.reduceAdd, Nat.zero_add, Nat.reduceLeDiff, Nat.reduceEqDiff, decide_true, decide_false, Bool.not_true, Bool.not_false, Bool.and_true, Bool.true_and, eq_self, List.cons_append, List.nil_append, pickL, List.map_cons, List.map_nil, ↓reduceIte, Bool.false_eq_true]
    refine sp12_ok h hn hn2 hB hb fun S => ?_
    rw [rf]
    exact repr_T3 hw (by omega) (by omega)
end k00

set_option Elab.async false
set_option linter.all false
set_option maxRecDepth 100000
set_option maxHeartbeats 1000000
namespace k00
open PySem DE
def pl2 (p : D × D) : List D := [p.1, p.2]
def tupP (p : D × D) : D := .tup [p.1, p.2]
def refs (m : Nat) : List D := (List.range m).map fun i => D.ref (2 + i)
def RS (m : Nat) (pr : List (D × D)) (fs : List (Int × Int)) : Sto := refs m :: (pr.map pl2 ++ [fs.map fD])
section
variable {l : List D} {m i : Nat} {pr : List (D × D)} {fs : List (Int × Int)} {T : Sto} {p p' : D × D}
theorem refs_get (h : i < m) : (refs m)[i]? = some (.ref (2 + i)) := by
  unfold refs
  rw [List.getElem?_map, List.getElem?_range h]; rfl
theorem g1 : (l :: (RS m pr fs ++ T))[1]? = some (refs m) := rfl
theorem g2 (h : pr[i]? = some p) : (l :: (RS m pr fs ++ T))[2 + i]? = some (pl2 p) := by
  have hi := (List.getElem?_eq_some_iff.mp h).1
  show (l :: refs m :: ((pr.map pl2 ++ [fs.map fD]) ++ T))[2 + i]? = _
  rw [show 2 + i = i + 1 + 1 by omega, List.getElem?_cons_succ, List.getElem?_cons_succ, List.getElem?_append_left (by simp; omega), List.getElem?_append_left (by simpa using hi), List.getElem?_map, h]; rfl
theorem g3 (h : pr.length = m) : (l :: (RS m pr fs ++ T))[m + 2]? = some (fs.map fD) := by
  show (l :: refs m :: ((pr.map pl2 ++ [fs.map fD]) ++ T))[m + 2]? = _
  rw [List.getElem?_cons_succ, List.getElem?_cons_succ, List.getElem?_append_left (by simp; omega), List.getElem?_append_right (by simp; omega)]
  simp [h]
theorem g4 (h : pr.length = m) {bs : List D} : (l :: (RS m pr fs ++ [bs]))[m + 3]? = some bs := by
  show (l :: refs m :: ((pr.map pl2 ++ [fs.map fD]) ++ [bs]))[m + 3]? = _
  rw [List.getElem?_cons_succ, List.getElem?_cons_succ, List.getElem?_append_right (by simp; omega)]
  simp [h]
theorem s2 (h : i < pr.length) : (l :: (RS m pr fs ++ T)).set (2 + i) (pl2 p') = l :: (RS m (pr.set i p') fs ++ T) := by
  show (l :: refs m :: ((pr.map pl2 ++ [fs.map fD]) ++ T)).set (2 + i) (pl2 p') = l :: refs m :: (((pr.set i p').map pl2 ++ [fs.map fD]) ++ T)
  rw [show 2 + i = i + 1 + 1 by omega, List.set_cons_succ, List.set_cons_succ, List.set_append_left _ _ (by simp; omega), List.set_append_left _ _ (by simpa using h), List.map_set]
theorem s3 (h : pr.length = m) {q : Int × Int} : (l :: (RS m pr fs ++ T)).set (m + 2) (fs.map fD ++ [fD q]) = l :: (RS m pr (fs ++ [q]) ++ T) := by
  show (l :: refs m :: ((pr.map pl2 ++ [fs.map fD]) ++ T)).set (m + 2) _ = l :: refs m :: ((pr.map pl2 ++ [(fs ++ [q]).map fD]) ++ T)
  rw [List.set_cons_succ, List.set_cons_succ, List.set_append_left _ _ (by simp; omega), List.set_append_right _ _ (by simp; omega)]
  simp [h]
theorem s4 (h : pr.length = m) {bs bs' : List D} : (l :: (RS m pr fs ++ [bs])).set (m + 3) bs' = l :: (RS m pr fs ++ [bs']) := by
  show (l :: refs m :: ((pr.map pl2 ++ [fs.map fD]) ++ [bs])).set (m + 3) bs' = l :: refs m :: ((pr.map pl2 ++ [fs.map fD]) ++ [bs'])
  rw [List.set_cons_succ, List.set_cons_succ, List.set_append_right _ _ (by simp; omega)]
  simp [h]
end
structure PIn (n m : Nat) (pr : List (D × D)) (fs : List (Int × Int)) : Prop where
  len : pr.length = m
  sm : ∀ p ∈ pr, Rp 16 2 p.1 ∧ Rp 16 2 p.2
  rel : Rel n (pr.map tupP) fs
  e12 : ∀ q ∈ fs, q.2 ≠ 0
theorem code_ne {fs : List (Int × Int)} {a c i : Int} (h : i ≠ a) : codeAt (fs ++ [(a, c)]) i = codeAt fs i := by
  have : ∀ c' : Int, ((i, c') ∈ fs ++ [(a, c)]) ↔ ((i, c') ∈ fs) := fun c' => by
    rw [List.mem_append, List.mem_singleton]
    refine ⟨fun h' => h'.elim id fun e => absurd (Prod.mk.inj e).1 h, .inl⟩
  unfold codeAt
  simp only [this]
theorem notPair_V {n : Int} {d : D} (h : isPair d = false) : deedV n d = some ("shape" : Str) := by
  cases d with
  | tup l =>
    match l, h with
    | [], _ => rfl
    | [a], _ => rfl
    | [a, b], h => cases h
    | a :: b :: c :: r, _ => rfl
  | _ => rfl
theorem rel_shape {n a : Nat} {bs : List D} {fs : List (Int × Int)} (r : Rel n bs fs) (ha : a < bs.length) {o : D} (ho : isPair o = false) : Rel n (bs.set a o) (fs ++ [((a : Int), 0)]) := by
  refine ⟨fun i d h => ?_, fun q m => ?_⟩
  · by_cases hi : a = i
    · subst hi
      rw [List.getElem?_set_self (by simpa using ha)] at h
      cases h
      rw [notPair_V ho]
      unfold codeAt
      rw [if_pos (by simp)]
    · rw [List.getElem?_set_ne hi] at h
      rw [r.at_ i d h, code_ne (by omega)]
  · rw [List.length_set]
    rcases List.mem_append.mp m with m | m
    · exact r.en q m
    · rw [List.mem_singleton.mp m]
      exact ⟨by show 0 ≤ (a : Int); omega, by show (a : Int) < _; omega, .inl rfl⟩
theorem rp_tup {k a b : Nat} {bs : List D} (h : ∀ d ∈ bs, Rp a b d) (hl : bs.length ≤ k) (hk : k ≤ 1000) : Rp (k * a + 1) (b + 1) (.tup bs) := by
  refine ⟨pl_tup_of (fun d m => (h d m).1) (by omega), sm_of fun d m => (h d m).2.1, ?_, ?_⟩
  · have : ∀ bs : List D, (∀ d ∈ bs, Rp a b d) → nDs bs ≤ bs.length * a := by
      intro bs
      induction bs with
      | nil => intro _; exact Nat.zero_le _
      | cons d bs ih =>
        intro h
        have h1 := ih fun e m => h e (List.mem_cons_of_mem _ m)
        have h2 := (h d List.mem_cons_self).2.2.1
        show nD d + nDs bs ≤ (bs.length + 1) * a
        rw [Nat.succ_mul]; omega
    have h1 := this bs h
    have h2 := Nat.mul_le_mul_right a hl
    show nDs bs + 1 ≤ _
    omega
  · have : ∀ bs : List D, (∀ d ∈ bs, Rp a b d) → hDs bs ≤ b := by
      intro bs
      induction bs with
      | nil => intro _; exact Nat.zero_le _
      | cons d bs ih =>
        intro h
        have h1 := ih fun e m => h e (List.mem_cons_of_mem _ m)
        have h2 := (h d List.mem_cons_self).2.2.2
        show max (hD d) (hDs bs) ≤ b
        omega
    have h1 := this bs h
    show hDs bs + 1 ≤ _
    omega
theorem Rp.up {a b c e : Nat} {d : D} (h : Rp a b d) (h1 : a ≤ c) (h2 : b ≤ e) : Rp c e d := ⟨h.1, h.2.1, Nat.le_trans h.2.2.1 h1, Nat.le_trans h.2.2.2 h2⟩
theorem sp10_ok {l : List D} (h : Fl l) {n m : Nat} {pr : List (D × D)} {fs : List (Int × Int)} {dv : List D} {x5 x6 x7 x8 x10 x11 x12 x13 x14 x15 : Option D} (hn : 1 ≤ n) (hn2 : n ≤ 5) (hm : m ≤ 5) (hl : dv.length = m) (P : PIn n m pr fs) (hfl : fs.length ≤ 10) :
    ∃ thing x l' R', sp10 [some (.ref 0), some (.int (n : Int)), some (.tup dv), some (.ref 1), some (.ref (m + 2)), x5, x6, x7, x8, some (.ref (m + 3)), x10, x11, x12, x13, x14, x15] (l :: (RS m pr fs ++ [pr.map tupP])) = .rt (.tup [thing, .str x]) (l' :: R') ∧ Fl l' ∧ Hand (m : Int) thing x := by
  have bp : ∀ d ∈ pr.map tupP, Rp 50 4 d := fun d hd => by
    obtain ⟨p, hp, rfl⟩ := List.mem_map.mp hd
    obtain ⟨q1, q2⟩ := P.sm p hp
    exact (pair_rp q1 q2).up (by decide) (by decide)
  have last : ∀ {l : List D}, Fl l → ∀ {fs' : List (Int × Int)} {bs : List D} {x5 x6 x7 x8 x10 x11 x12 x13 x14 x15 : Option D}, bs.length = m → (∀ d ∈ bs, Rp 50 4 d) → Rel n bs fs' → ∃ thing x l' R', sp11 [some (.ref 0), some (.int (n : Int)), some (.tup dv), some (.ref 1), some (.ref (m + 2)), x5, x6, x7, x8, some (.ref (m + 3)), x10, x11, x12, x13, x14, x15] (l :: (RS m pr fs' ++ [bs])) = .rt (.tup [thing, .str x]) (l' :: R') ∧ Fl l' ∧ Hand (m : Int) thing x := by
    intro l h fs' bs x5 x6 x7 x8 x10 x11 x12 x13 x14 x15 hb hq hr
    obtain ⟨thing, x, l', e1, e2, e3⟩ := sp11_ok h (R := RS m pr fs' ++ [bs]) (F := m + 1) (B := m + 2) (bs := bs) (dv := dv) (fs := fs') (x3 := some (.ref 1)) (x5 := x5) (x6 := x6) (x7 := x7) (x8 := x8) (x10 := x10) (x11 := x11) (x12 := x12) (x13 := x13) (x14 := x14) (x15 := x15) hn hn2
      (by have := g3 (l := []) (fs := fs') (T := [bs]) P.len; simpa using this) (by have := g4 (l := []) (fs := fs') (bs := bs) P.len; simpa using this) ((rp_tup (k := 5) hq (by omega) (by decide)).up (by decide) (by decide)) (by omega) (by omega) hr
    rw [hb] at e3
    exact ⟨thing, x, l', _, e1, e2, e3⟩
  have lb : (pr.map tupP).length = m := by rw [List.length_map, P.len]
  unfold sp10
  simp -implicitDefEqProofs only [r_dB, bind_ok, bind_ex, r_var, vk_some, List.getD_cons_zero, List.getD_cons_succ, r_dC, r_dOp, r_dUn, r_dTst, r_tst, r_dTru, r_optB, r_trub, r_truT, r_dNotT, r_dAndT, r_dOrT, r_dNot, r_dAnd, r_dOr, r_and1, r_and0, r_or1, r_or0, r_andb, r_orb, r_iteb, r_iteb2, r_raise, ix0, ix1, r_sSetIx, fl0, fl1, fl2, fl3, fs0, fs1, fs2, fs0, r_dIf, r_aNil, r_aCons, gd_t, r_dTup, r_dLst, r_dLstM, r_dSl, r_dNoP, r_dP, r_pK, r_dCB, r_dCall, r_dCallK, r_sSeq, sq_nx, sq_rt, sq_ex, sb_ok, sb_ex, r_sNil, r_sRet, r_sExpr, r_sIf, r_sSet, r_sPar, r_sAsg, r_asg, r_sFor, fn_rt, fn_nx, fn_ex, r_dIt, it_tup, it_lst, eq_int, eq_bl, eq_str, ne_str, cmp_int, add_int, sub_int, neg_int, len_tup, len_lst, tuple_lst, list_tup, i2_int, int_int, if_t, if_f, bd_nm, bd_tp, bd_nil, bd_cons, bdk, List.set_cons_zero, List.set_cons_succ, okL0, okL1, okL2, okL3, okL4, okL5, okL6, okL7, okL8, okL9, okL10, okL11, okL12, okL13, okL14, okL15, List.length_cons, List.length_nil, Nat.reduceAdd, Nat.zero_add, Nat.reduceLeDiff, Nat.reduceEqDiff, decide_true, decide_false, Bool.not_true, Bool.not_false, Bool.and_true, Bool.true_and, eq_self, List.cons_append, List.nil_append, pickL, List.map_cons, List.map_nil, ↓reduceIte, Bool.false_eq_true]
  by_cases h0 : (0 : Int) < (dv.length : Int)
  · rw [decide_eq_true h0]
    obtain ⟨r, l1, e1, f1, _, _⟩ := draw_ok h (m := 4) (by decide) (by decide) (RS m pr fs ++ [pr.map tupP])
    simp -implicitDefEqProofs only [e1, r_dB, bind_ok, bind_ex, r_var, vk_some, List.getD_cons_zero, List.getD_cons_succ, r_dC, r_dOp, r_dUn, r_dTst, r_tst, r_dTru, r_optB, r_trub, r_truT, r_dNotT, r_dAndT, r_dOrT, r_dNot, r_dAnd, r_dOr, r_and1, r_and0, r_or1, r_or0, r_andb, r_orb, r_iteb, r_iteb2, r_raise, ix0, ix1, r_sSetIx, fl0, fl1, fl2, fl3, fs0, fs1, fs2, fs0, r_dIf, r_aNil, r_aCons, gd_t, r_dTup, r_dLst, r_dLstM, r_dSl, r_dNoP, r_dP, r_pK, r_dCB, r_dCall, r_dCallK, r_sSeq, sq_nx, sq_rt, sq_ex, sb_ok, sb_ex, r_sNil, r_sRet, r_sExpr, r_sIf, r_sSet, r_sPar, r_sAsg, r_asg, r_sFor, fn_rt, fn_nx, fn_ex, r_dIt, it_tup, it_lst, eq_int, eq_bl, eq_str, ne_str, cmp_int, add_int, sub_int, neg_int, len_tup, len_lst, tuple_lst, list_tup, i2_int, int_int, if_t, if_f, bd_nm, bd_tp, bd_nil, bd_cons, bdk, List.set_cons_zero, List.set_cons_succ, okL0, okL1, okL2, okL3, okL4, okL5, okL6, okL7, okL8, okL9, okL10, okL11, okL12, okL13, okL14, okL15, List.length_cons, List.length_nil, Nat.reduceAdd, Nat.zero_add, Nat.reduceLeDiff, Nat.reduceEqDiff, decide_true, decide_false, Bool.not_true, Bool.not_false, Bool.and_true, Bool.true_and, eq_self, List.cons_append, List.nil_append, pickL, List.map_cons, List.map_nil, ↓reduceIte, Bool.false_eq_true]
    cases decide (r = 0) with
    | true =>
      obtain ⟨k, l2, e2, f2, k1, k2⟩ := draw_ok f1 (m := (dv.length : Int)) (by omega) (by omega) (RS m pr fs ++ [pr.map tupP])
      obtain ⟨k, rfl⟩ := Int.eq_ofNat_of_zero_le k1
      have hk : k < m := by omega
      have hkp : k < pr.length := by rw [P.len]; exact hk
      have ek : pr[k]? = some pr[k] := List.getElem?_eq_getElem hkp
      obtain ⟨c, l3, e3, f3, c1, c2⟩ := draw_ok f2 (m := 9) (by decide) (by decide) (RS m pr fs ++ [pr.map tupP])
      obtain ⟨c, rfl⟩ := Int.eq_ofNat_of_zero_le c1
      obtain ⟨q1, q2⟩ := P.sm pr[k] (List.getElem_mem hkp)
      have hc : c < (noPs pr[k].1 pr[k].2).length := by show c < 9; omega
      have ec : (noPs pr[k].1 pr[k].2)[c]? = some (noPs pr[k].1 pr[k].2)[c] := List.getElem?_eq_getElem hc
      obtain ⟨r1, r2, r3⟩ := nopair_rp q1 q2 _ (List.getElem_mem hc)
      have i1 : oIx (.ref 1) (.int (k : Int)) (l2 :: (RS m pr fs ++ [pr.map tupP])) = .ok (.ref (2 + k)) (l2 :: (RS m pr fs ++ [pr.map tupP])) := ix_ref g1 (refs_get hk)
      have i2 : oIx (.ref (2 + k)) (.int 0) (l2 :: (RS m pr fs ++ [pr.map tupP])) = .ok pr[k].1 (l2 :: (RS m pr fs ++ [pr.map tupP])) := ix_ref (i := 0) (g2 ek) rfl
      have i3 : oIx (.ref (2 + k)) (.int 1) (l2 :: (RS m pr fs ++ [pr.map tupP])) = .ok pr[k].2 (l2 :: (RS m pr fs ++ [pr.map tupP])) := ix_ref (i := 1) (g2 ek) rfl
      have el : ((noPs pr[k].1 pr[k].2).length : Int) = 9 := rfl
      have st : ∀ ρ : Rho, stK (.ref (m + 3)) (.int (k : Int)) (noPs pr[k].1 pr[k].2)[c] ρ (l3 :: (RS m pr fs ++ [pr.map tupP])) = .nx ρ (l3 :: (RS m pr fs ++ [(pr.map tupP).set k (noPs pr[k].1 pr[k].2)[c]])) := fun ρ => by
        rw [st_ref (g4 P.len) (by rw [lb]; exact hk), s4 P.len]
      have ap : ∀ bs : List D, appK (.ref (m + 2)) (l3 :: (RS m pr fs ++ [bs])) (.ok (.tup [.int (k : Int), .int 0]) (l3 :: (RS m pr fs ++ [bs]))) = .ok .non (l3 :: (RS m pr (fs ++ [((k : Int), 0)]) ++ [bs])) := fun bs => by
        have := s3 (l := l3) (fs := fs) (T := [bs]) P.len (q := ((k : Int), 0))
        rw [app_ok rfl (List.getElem?_eq_some_iff.mp (g3 P.len)).1 (g3 P.len) (by rw [List.length_map]; omega), ← this]; rfl
      simp -implicitDefEqProofs only [e2, i1, i2, i3, nopairs_ok, el, e3, ix_lst ec, st, r_dApp, ap, r_dB, bind_ok, bind_ex, r_var, vk_some, List.getD_cons_zero, List.getD_cons_succ, r_dC, r_dOp, r_dUn, r_dTst, r_tst, r_dTru, r_optB, r_trub, r_truT, r_dNotT, r_dAndT, r_dOrT, r_dNot, r_dAnd, r_dOr, r_and1, r_and0, r_or1, r_or0, r_andb, r_orb, r_iteb, r_iteb2, r_raise, ix0, ix1, r_sSetIx, fl0, fl1, fl2, fl3, fs0, fs1, fs2, fs0, r_dIf, r_aNil, r_aCons, gd_t, r_dTup, r_dLst, r_dLstM, r_dSl, r_dNoP, r_dP, r_pK, r_dCB, r_dCall, r_dCallK, r_sSeq, sq_nx, sq_rt, sq_ex, sb_ok, sb_ex, r_sNil, r_sRet, r_sExpr, r_sIf, r_sSet, r_sPar, r_sAsg, r_asg, r_sFor, fn_rt, fn_nx, fn_ex, r_dIt, it_tup, it_lst, eq_int, eq_bl, eq_str, ne_str, cmp_int, add_int, sub_int, neg_int, len_tup, len_lst, tuple_lst, list_tup, i2_int, int_int, if_t, if_f, bd_nm, bd_tp, bd_nil, bd_cons, bdk, List.set_cons_zero, List.set_cons_succ, okL0, okL1, okL2, okL3, okL4, okL5, okL6, okL7, okL8, okL9, okL10, okL11, okL12, okL13, okL14, okL15, List.length_cons, List.length_nil, Nat.reduceAdd, Nat.zero_add, Nat.reduceLeDiff, Nat.reduceEqDiff, decide_true, decide_false, Bool.not_true, Bool.not_false, Bool.and_true, Bool.true_and, eq_self, List.cons_append, List.nil_append, pickL, List.map_cons, List.map_nil, ↓reduceIte, Bool.false_eq_true]
      exact last f3 (by rw [List.length_set, lb]) (fun d hd => by
        rcases List.mem_or_eq_of_mem_set hd with hd | rfl
        · exact bp d hd
        · exact r1.up (by decide) (by decide)) (rel_shape P.rel (by rw [lb]; exact hk) r2)
    | false =>
      simp -implicitDefEqProofs only [r_dB, bind_ok, bind_ex, r_var, vk_some, List.getD_cons_zero, List.getD_cons_succ, r_dC, r_dOp, r_dUn, r_dTst, r_tst, r_dTru, r_optB, r_trub, r_truT, r_dNotT, r_dAndT, r_dOrT, r_dNot, r_dAnd, r_dOr, r_and1, r_and0, r_or1, r_or0, r_andb, r_orb, r_iteb, r_iteb2, r_raise, ix0, ix1, r_sSetIx, fl0, fl1, fl2, fl3, fs0, fs1, fs2, fs0, r_dIf, r_aNil, r_aCons, gd_t, r_dTup, r_dLst, r_dLstM, r_dSl, r_dNoP, r_dP, r_pK, r_dCB, r_dCall, r_dCallK, r_sSeq, sq_nx, sq_rt, sq_ex, sb_ok, sb_ex, r_sNil, r_sRet, r_sExpr, r_sIf, r_sSet, r_sPar, r_sAsg, r_asg, r_sFor, fn_rt, fn_nx, fn_ex, r_dIt, it_tup, it_lst, eq_int, eq_bl, eq_str, ne_str, cmp_int, add_int, sub_int, neg_int, len_tup, len_lst, tuple_lst, list_tup, i2_int, int_int, if_t, if_f, bd_nm, bd_tp, bd_nil, bd_cons, bdk, List.set_cons_zero, List.set_cons_succ, okL0, okL1, okL2, okL3, okL4, okL5, okL6, okL7, okL8, okL9, okL10, okL11, okL12, okL13, okL14, okL15, List.length_cons, List.length_nil, Nat.reduceAdd, Nat.zero_add, Nat.reduceLeDiff, Nat.reduceEqDiff, decide_true, decide_false, Bool.not_true, Bool.not_false, Bool.and_true, Bool.true_and, eq_self, List.cons_append, List.nil_append, pickL, List.map_cons, List.map_nil, ↓reduceIte, Bool.false_eq_true]
      exact last f1 lb bp P.rel
  · rw [decide_eq_false h0]
    simp -implicitDefEqProofs only [r_dB, bind_ok, bind_ex, r_var, vk_some, List.getD_cons_zero, List.getD_cons_succ, r_dC, r_dOp, r_dUn, r_dTst, r_tst, r_dTru, r_optB, r_trub, r_truT, r_dNotT, r_dAndT, r_dOrT, r_dNot, r_dAnd, r_dOr, r_and1, r_and0, r_or1, r_or0, r_andb, r_orb, r_iteb, r_iteb2, r_raise, ix0, ix1, r_sSetIx, fl0, fl1, fl2, fl3, fs0, fs1, fs2, fs0, r_dIf, r_aNil, r_aCons, gd_t, r_dTup, r_dLst, r_dLstM, r_dSl, r_dNoP, r_dP, r_pK, r_dCB, r_dCall, r_dCallK, r_sSeq, sq_nx, sq_rt, sq_ex, sb_ok, sb_ex, r_sNil, r_sRet, r_sExpr, r_sIf, r_sSet, r_sPar, r_sAsg, r_asg, r_sFor, fn_rt, fn_nx, fn_ex, r_dIt, it_tup, it_lst, eq_int, eq_bl, eq_str, ne_str, cmp_int, add_int, sub_int, neg_int, len_tup, len_lst, tuple_lst, list_tup, i2_int, int_int, if_t, if_f, bd_nm, bd_tp, bd_nil, bd_cons, bdk, List.set_cons_zero, List.set_cons_succ, okL0, okL1, okL2, okL3, okL4, okL5, okL6, okL7, okL8, okL9, okL10, okL11, okL12, okL13, okL14, okL15, List.length_cons, List.length_nil, Nat.reduceAdd, Nat.zero_add, Nat.reduceLeDiff, Nat.reduceEqDiff, decide_true, decide_false, Bool.not_true, Bool.not_false, Bool.and_true, Bool.true_and, eq_self, List.cons_append, List.nil_append, pickL, List.map_cons, List.map_nil, ↓reduceIte, Bool.false_eq_true]
    exact last h lb bp P.rel
end k00

set_option Elab.async false
set_option linter.all false
set_option maxRecDepth 100000
set_option maxHeartbeats 1000000
namespace k00
open PySem DE
/-! ### built: the comprehension over the parts -/
theorem built_run {l : List D} {m : Nat} {pr : List (D × D)} {fs : List (Int × Int)} {ρ : Rho} (hlen : pr.length = m) (hm : m ≤ 5) (hρ : 15 < ρ.length) : ∀ (k : Nat) (acc : List D), k ≤ m → acc.length = m - k →
    lcD (gdOk (some 1) (refs m)) (.nm 15) dYes (dTup (aCons (dOp oIx (dV 15) (dC (.int 0))) (aCons (dOp oIx (dV 15) (dC (.int 1))) aNil))) (ρ.set 15 none) (m + 3) ((refs m).drop (m - k)) (l :: (RS m pr fs ++ [acc])) = .ok () (l :: (RS m pr fs ++ [acc ++ (pr.map tupP).drop (m - k)])) := by
  intro k
  have ok : ∀ acc : List D, gdOk (some 1) (refs m) (l :: (RS m pr fs ++ [acc])) := fun acc j e => by cases e; exact g1
  have lr : (refs m).length = m := by unfold refs; rw [List.length_map, List.length_range]
  induction k with
  | zero =>
    intro acc _ _
    rw [Nat.sub_zero, List.drop_of_length_le (by omega), List.drop_of_length_le (by rw [List.length_map]; omega), List.append_nil]
    unfold lcD
    rw [if_pos (ok acc)]
  | succ k ih =>
    intro acc hk ha
    have hi : m - (k + 1) < m := by omega
    have hip : m - (k + 1) < pr.length := by omega
    have e1 : (refs m).drop (m - (k + 1)) = .ref (2 + (m - (k + 1))) :: (refs m).drop (m - k) := by
      rw [show m - k = m - (k + 1) + 1 by omega]
      rw [← List.getElem_cons_drop (by rw [lr]; exact hi)]
      congr 1
      have := refs_get hi
      rw [List.getElem?_eq_getElem (by rw [lr]; exact hi)] at this
      exact Option.some.inj this
    have e2 : (pr.map tupP).drop (m - (k + 1)) = tupP pr[m - (k + 1)] :: (pr.map tupP).drop (m - k) := by
      rw [show m - k = m - (k + 1) + 1 by omega]
      rw [← List.getElem_cons_drop (by rw [List.length_map]; exact hip)]
      congr 1
      rw [List.getElem_map]
    have ek : pr[m - (k + 1)]? = some pr[m - (k + 1)] := List.getElem?_eq_getElem hip
    rw [e1, e2]
    unfold lcD
    rw [if_pos (ok acc), bd_nm]
    dsimp only [dYes]
    have ev : dTup (aCons (dOp oIx (dV 15) (dC (.int 0))) (aCons (dOp oIx (dV 15) (dC (.int 1))) aNil)) ((ρ.set 15 none).set 15 (some (.ref (2 + (m - (k + 1)))))) (l :: (RS m pr fs ++ [acc])) = .ok (tupP pr[m - (k + 1)]) (l :: (RS m pr fs ++ [acc])) := by
      have i2 : oIx (.ref (2 + (m - (k + 1)))) (.int 0) (l :: (RS m pr fs ++ [acc])) = .ok pr[m - (k + 1)].1 (l :: (RS m pr fs ++ [acc])) := ix_ref (i := 0) (g2 ek) rfl
      have i3 : oIx (.ref (2 + (m - (k + 1)))) (.int 1) (l :: (RS m pr fs ++ [acc])) = .ok pr[m - (k + 1)].2 (l :: (RS m pr fs ++ [acc])) := ix_ref (i := 1) (g2 ek) rfl
      have v : ∀ S : Sto, dV 15 ((ρ.set 15 none).set 15 (some (.ref (2 + (m - (k + 1)))))) S = .ok (.ref (2 + (m - (k + 1)))) S := fun S => by rw [r_var, getD_set hρ]; rfl
      rw [r_dTup, r_aCons, r_dOp, v, bind_ok, r_dC, bind_ok, i2, bind_ok, r_aCons, r_dOp, v, bind_ok, r_dC, bind_ok, i3]
      simp -implicitDefEqProofs only [r_dB, bind_ok, bind_ex, r_var, vk_some, List.getD_cons_zero, List.getD_cons_succ, r_dC, r_dOp, r_dUn, r_dTst, r_tst, r_dTru, r_optB, r_trub, r_truT, r_dNotT, r_dAndT, r_dOrT, r_dNot, r_dAnd, r_dOr, r_and1, r_and0, r_or1, r_or0, r_andb, r_orb, r_iteb, r_iteb2, r_raise, ix0, ix1, r_sSetIx, fl0, fl1, fl2, fl3, fs0, fs1, fs2, fs0, r_dIf, r_aNil, r_aCons, gd_t, r_dTup, r_dLst, r_dLstM, r_dSl, r_dNoP, r_dP, r_pK, r_dCB, r_dCall, r_dCallK, r_sSeq, sq_nx, sq_rt, sq_ex, sb_ok, sb_ex, r_sNil, r_sRet, r_sExpr, r_sIf, r_sSet, r_sPar, r_sAsg, r_asg, r_sFor, fn_rt, fn_nx, fn_ex, r_dIt, it_tup, it_lst, eq_int, eq_bl, eq_str, ne_str, cmp_int, add_int, sub_int, neg_int, len_tup, len_lst, tuple_lst, list_tup, i2_int, int_int, if_t, if_f, bd_nm, bd_tp, bd_nil, bd_cons, bdk, List.set_cons_zero, List.set_cons_succ, okL0, okL1, okL2, okL3, okL4, okL5, okL6, okL7, okL8, okL9, okL10, okL11, okL12, okL13, okL14, okL15, List.length_cons, List.length_nil, Nat.reduceAdd, Nat.zero_add, Nat.reduceLeDiff, Nat.reduceEqDiff, decide_true, decide_false, Bool.not_true, Bool.not_false, Bool.and_true, Bool.true_and, eq_self, List.cons_append, List.nil_append, pickL, List.map_cons, List.map_nil, ↓reduceIte, Bool.false_eq_true]
      rfl
    rw [ev]
    dsimp only
    rw [g4 hlen]
    dsimp only
    rw [r_guard (by apply decide_eq_true; omega), s4 hlen, ih (acc ++ [tupP pr[m - (k + 1)]]) (by omega) (by rw [List.length_append, ha]; simp; omega)]
    rw [List.append_assoc]; rfl
theorem sp9_ok {l : List D} (h : Fl l) {n m : Nat} {pr : List (D × D)} {fs : List (Int × Int)} {dv : List D} {x5 x6 x7 x8 x9 x10 x11 x12 x13 x14 x15 : Option D} (hn : 1 ≤ n) (hn2 : n ≤ 5) (hm : m ≤ 5) (hl : dv.length = m) (P : PIn n m pr fs) (hfl : fs.length ≤ 10) :
    ∃ thing x l' R', sp9 [some (.ref 0), some (.int (n : Int)), some (.tup dv), some (.ref 1), some (.ref (m + 2)), x5, x6, x7, x8, x9, x10, x11, x12, x13, x14, x15] (l :: RS m pr fs) = .rt (.tup [thing, .str x]) (l' :: R') ∧ Fl l' ∧ Hand (m : Int) thing x := by
  unfold sp9
  have lS : (l :: RS m pr fs).length = m + 3 := by
    show ((pr.map pl2 ++ [fs.map fD]).length + 1) + 1 = m + 3
    rw [List.length_append, List.length_map, P.len]; rfl
  have e := built_run (l := l) (fs := fs) (ρ := [some (.ref 0), some (.int (n : Int)), some (.tup dv), some (.ref 1), some (.ref (m + 2)), x5, x6, x7, x8, x9, x10, x11, x12, x13, x14, x15]) P.len hm (by simp only [List.length_cons, List.length_nil]; decide) m [] (Nat.le_refl m) (by simp)
  rw [Nat.sub_self, List.drop_zero, List.drop_zero, List.nil_append] at e
  have eb : dLc finM (dIt (dV 3)) (.nm 15) dYes (dTup (aCons (dOp oIx (dV 15) (dC (.int 0))) (aCons (dOp oIx (dV 15) (dC (.int 1))) aNil))) [15] [some (.ref 0), some (.int (n : Int)), some (.tup dv), some (.ref 1), some (.ref (m + 2)), x5, x6, x7, x8, x9, x10, x11, x12, x13, x14, x15] (l :: RS m pr fs) = .ok (.ref (m + 3)) (l :: (RS m pr fs ++ [pr.map tupP])) := by
    unfold dLc
    have ei : dIt (dV 3) [some (.ref 0), some (.int (n : Int)), some (.tup dv), some (.ref 1), some (.ref (m + 2)), x5, x6, x7, x8, x9, x10, x11, x12, x13, x14, x15] (l :: RS m pr fs) = .ok (refs m, some 1) (l :: RS m pr fs) := rfl
    rw [r_dB, ei, bind_ok]
    dsimp only
    rw [lS]
    rw [show (l :: RS m pr fs) ++ [[]] = l :: (RS m pr fs ++ [[]]) from rfl]
    have e' := e
    rw [show wipeR [some (.ref 0), some (.int (n : Int)), some (.tup dv), some (.ref 1), some (.ref (m + 2)), x5, x6, x7, x8, x9, x10, x11, x12, x13, x14, x15] [15] = [some (.ref 0), some (.int (n : Int)), some (.tup dv), some (.ref 1), some (.ref (m + 2)), x5, x6, x7, x8, x9, x10, x11, x12, x13, x14, x15].set 15 none from rfl, e', bind_ok]
    rfl
  simp -implicitDefEqProofs only [eb, r_dB, bind_ok, bind_ex, r_var, vk_some, List.getD_cons_zero, List.getD_cons_succ, r_dC, r_dOp, r_dUn, r_dTst, r_tst, r_dTru, r_optB, r_trub, r_truT, r_dNotT, r_dAndT, r_dOrT, r_dNot, r_dAnd, r_dOr, r_and1, r_and0, r_or1, r_or0, r_andb, r_orb, r_iteb, r_iteb2, r_raise, ix0, ix1, r_sSetIx, fl0, fl1, fl2, fl3, fs0, fs1, fs2, fs0, r_dIf, r_aNil, r_aCons, gd_t, r_dTup, r_dLst, r_dLstM, r_dSl, r_dNoP, r_dP, r_pK, r_dCB, r_dCall, r_dCallK, r_sSeq, sq_nx, sq_rt, sq_ex, sb_ok, sb_ex, r_sNil, r_sRet, r_sExpr, r_sIf, r_sSet, r_sPar, r_sAsg, r_asg, r_sFor, fn_rt, fn_nx, fn_ex, r_dIt, it_tup, it_lst, eq_int, eq_bl, eq_str, ne_str, cmp_int, add_int, sub_int, neg_int, len_tup, len_lst, tuple_lst, list_tup, i2_int, int_int, if_t, if_f, bd_nm, bd_tp, bd_nil, bd_cons, bdk, List.set_cons_zero, List.set_cons_succ, okL0, okL1, okL2, okL3, okL4, okL5, okL6, okL7, okL8, okL9, okL10, okL11, okL12, okL13, okL14, okL15, List.length_cons, List.length_nil, Nat.reduceAdd, Nat.zero_add, Nat.reduceLeDiff, Nat.reduceEqDiff, decide_true, decide_false, Bool.not_true, Bool.not_false, Bool.and_true, Bool.true_and, eq_self, List.cons_append, List.nil_append, pickL, List.map_cons, List.map_nil, ↓reduceIte, Bool.false_eq_true]
  exact sp10_ok h hn hn2 hm hl P hfl
/-! ### parts: the first comprehension -/
theorem parts_run {l : List D} {ρ : Rho} (hρ : 14 < ρ.length) : ∀ (pr : List (D × D)) (l0 acc : List D) (rest : Sto), acc.length + pr.length ≤ 1000 →
    lcD (gdOk none l0) (.nm 14) dYes (dLstM (aCons (dOp oIx (dV 14) (dC (.int 0))) (aCons (dOp oIx (dV 14) (dC (.int 1))) aNil))) (ρ.set 14 none) 1 (pr.map tupP) (l :: acc :: rest) =
      .ok () (l :: (acc ++ (List.range pr.length).map fun i => D.ref (rest.length + 2 + i)) :: (rest ++ pr.map pl2))
  | [], l0, acc, rest, _ => by
    unfold lcD
    rw [List.map_nil]
    dsimp only
    rw [if_pos gdOk_none]
    simp
  | p :: pr, l0, acc, rest, hl => by
    rw [List.map_cons]
    unfold lcD
    rw [if_pos gdOk_none, bd_nm]
    dsimp only [dYes]
    have ev : dLstM (aCons (dOp oIx (dV 14) (dC (.int 0))) (aCons (dOp oIx (dV 14) (dC (.int 1))) aNil)) ((ρ.set 14 none).set 14 (some (tupP p))) (l :: acc :: rest) = .ok (.ref (rest.length + 2)) (l :: acc :: (rest ++ [pl2 p])) := by
      have v : ∀ S : Sto, dV 14 ((ρ.set 14 none).set 14 (some (tupP p))) S = .ok (tupP p) S := fun S => by rw [r_var, getD_set hρ]; rfl
      rw [r_dLstM, r_aCons, r_dOp, v, bind_ok, r_dC, bind_ok]
      unfold tupP
      rw [ix0, bind_ok, r_aCons, r_dOp]
      rw [show dV 14 ((ρ.set 14 none).set 14 (some (D.tup [p.1, p.2]))) (l :: acc :: rest) = .ok (D.tup [p.1, p.2]) (l :: acc :: rest) from v _]
      simp -implicitDefEqProofs only [r_dB, bind_ok, bind_ex, r_var, vk_some, List.getD_cons_zero, List.getD_cons_succ, r_dC, r_dOp, r_dUn, r_dTst, r_tst, r_dTru, r_optB, r_trub, r_truT, r_dNotT, r_dAndT, r_dOrT, r_dNot, r_dAnd, r_dOr, r_and1, r_and0, r_or1, r_or0, r_andb, r_orb, r_iteb, r_iteb2, r_raise, ix0, ix1, r_sSetIx, fl0, fl1, fl2, fl3, fs0, fs1, fs2, fs0, r_dIf, r_aNil, r_aCons, gd_t, r_dTup, r_dLst, r_dLstM, r_dSl, r_dNoP, r_dP, r_pK, r_dCB, r_dCall, r_dCallK, r_sSeq, sq_nx, sq_rt, sq_ex, sb_ok, sb_ex, r_sNil, r_sRet, r_sExpr, r_sIf, r_sSet, r_sPar, r_sAsg, r_asg, r_sFor, fn_rt, fn_nx, fn_ex, r_dIt, it_tup, it_lst, eq_int, eq_bl, eq_str, ne_str, cmp_int, add_int, sub_int, neg_int, len_tup, len_lst, tuple_lst, list_tup, i2_int, int_int, if_t, if_f, bd_nm, bd_tp, bd_nil, bd_cons, bdk, List.set_cons_zero, List.set_cons_succ, okL0, okL1, okL2, okL3, okL4, okL5, okL6, okL7, okL8, okL9, okL10, okL11, okL12, okL13, okL14, okL15, List.length_cons, List.length_nil, Nat.reduceAdd, Nat.zero_add, Nat.reduceLeDiff, Nat.reduceEqDiff, decide_true, decide_false, Bool.not_true, Bool.not_false, Bool.and_true, Bool.true_and, eq_self, List.cons_append, List.nil_append, pickL, List.map_cons, List.map_nil, ↓reduceIte, Bool.false_eq_true]
      rfl
    rw [ev]
    dsimp only [List.getElem?_cons_succ, List.getElem?_cons_zero]
    rw [r_guard (by apply decide_eq_true; simp only [List.length_cons] at hl; omega)]
    have ih := parts_run (l := l) hρ pr l0 (acc ++ [.ref (rest.length + 2)]) (rest ++ [pl2 p]) (by simp only [List.length_append, List.length_cons, List.length_nil] at hl ⊢; omega)
    show lcD _ _ _ _ _ 1 _ (l :: (acc ++ [.ref (rest.length + 2)]) :: (rest ++ [pl2 p])) = _
    rw [ih]
    congr 2
    rw [List.append_assoc, List.append_assoc]
    congr 1
    · congr 1
      rw [List.length_cons, List.range_succ_eq_map, List.map_cons, List.map_map]
      show [D.ref (rest.length + 2)] ++ _ = D.ref (rest.length + 2 + 0) :: _
      rw [Nat.add_zero]
      show _ :: _ = _
      congr 1
      apply List.map_congr_left
      intro i _
      show D.ref ((rest ++ [pl2 p]).length + 2 + i) = D.ref (rest.length + 2 + (i + 1))
      rw [List.length_append, List.length_cons, List.length_nil]
      congr 1
      omega
end k00

set_option Elab.async false
set_option linter.all false
set_option maxRecDepth 100000
set_option maxHeartbeats 1000000
namespace k00
open PySem DE
theorem PIn.put {n m k : Nat} {pr : List (D × D)} {fs : List (Int × Int)} (P : PIn n m pr fs) (hk : k < m) {p' : D × D} {c : Int} (hc : c = 1 ∨ c = 2) (hs : Rp 16 2 p'.1 ∧ Rp 16 2 p'.2) (hd : deedV (n : Int) (tupP p') = codeAt (fs ++ [((k : Int), c)]) (k : Int)) : PIn n m (pr.set k p') (fs ++ [((k : Int), c)]) := by
  have hkp : k < pr.length := by rw [P.len]; exact hk
  refine ⟨by rw [List.length_set, P.len], fun p hp => ?_, ⟨fun i d h => ?_, fun q hq => ?_⟩, fun q hq => ?_⟩
  · rcases List.mem_or_eq_of_mem_set hp with hp | rfl
    · exact P.sm p hp
    · exact hs
  · rw [List.map_set] at h
    by_cases hi : k = i
    · subst hi
      rw [List.getElem?_set_self (by simpa using hkp)] at h
      cases h
      exact hd
    · rw [List.getElem?_set_ne hi] at h
      rw [P.rel.at_ i d h, code_ne (by omega)]
  · rw [List.length_map, List.length_set]
    rcases List.mem_append.mp hq with hq | hq
    · have := P.rel.en q hq
      rw [List.length_map] at this
      exact this
    · rw [List.mem_singleton.mp hq]
      refine ⟨by show 0 ≤ (k : Int); omega, by show (k : Int) < _; omega, ?_⟩
      rcases hc with rfl | rfl
      · exact .inr (.inl rfl)
      · exact .inr (.inr rfl)
  · rcases List.mem_append.mp hq with hq | hq
    · exact P.e12 q hq
    · rw [List.mem_singleton.mp hq]
      show c ≠ 0
      omega
theorem PIn.no0 {n m : Nat} {pr : List (D × D)} {fs : List (Int × Int)} (P : PIn n m pr fs) {i c k : Int} (hc : c = 1 ∨ c = 2) : (i, 0) ∉ fs ++ [(k, c)] := fun m => by
  rcases List.mem_append.mp m with m | m
  · exact P.e12 _ m rfl
  · have := (Prod.mk.inj (List.mem_singleton.mp m)).2
    omega
theorem put1 {n m k : Nat} {pr : List (D × D)} {fs : List (Int × Int)} (P : PIn n m pr fs) (hk : k < m) {p : D × D} (ek : pr[k]? = some p) {o : D} (ho : BM n o) : PIn n m (pr.set k (o, p.2)) (fs ++ [((k : Int), 1)]) := by
  have hs := P.sm p (List.mem_of_getElem? ek)
  refine P.put hk (.inl rfl) ⟨⟨ho.1.1, ho.2.1, ho.2.2.1, ho.2.2.2⟩, hs.2⟩ ?_
  show (if allT (n : Int) isN o = true then _ else some ("take" : Str)) = _
  rw [ho.1.2, if_neg Bool.false_ne_true]
  unfold codeAt
  rw [if_neg (P.no0 (.inl rfl)), if_pos (show ((k : Int), (1 : Int)) ∈ fs ++ [((k : Int), 1)] by simp)]
theorem put2 {n m k : Nat} {pr : List (D × D)} {fs : List (Int × Int)} (P : PIn n m pr fs) (hk : k < m) {p : D × D} (ek : pr[k]? = some p) {o : D} (ho : BM n o) : PIn n m (pr.set k (p.1, o)) (fs ++ [((k : Int), 2)]) := by
  have hs := P.sm p (List.mem_of_getElem? ek)
  refine P.put hk (.inr rfl) ⟨hs.1, ⟨ho.1.1, ho.2.1, ho.2.2.1, ho.2.2.2⟩⟩ ?_
  have old := P.rel.at_ k (tupP p) (by rw [List.getElem?_map, ek]; rfl)
  have n0 : ((k : Int), 0) ∉ fs := fun m => P.e12 _ m rfl
  show (if allT (n : Int) isN p.1 = true then (if allT (n : Int) isN o = true then none else some ("give" : Str)) else some ("take" : Str)) = _
  change (if allT (n : Int) isN p.1 = true then (if allT (n : Int) isN p.2 = true then none else some ("give" : Str)) else some ("take" : Str)) = _ at old
  rw [ho.1.2]
  unfold codeAt at old ⊢
  rw [if_neg n0] at old
  rw [if_neg (P.no0 (.inr rfl))]
  have m1 : (((k : Int), 1) ∈ fs ++ [((k : Int), 2)]) ↔ (((k : Int), 1) ∈ fs) := by
    rw [List.mem_append, List.mem_singleton]
    refine ⟨fun h => h.elim id fun e => ?_, .inl⟩
    have := (Prod.mk.inj e).2
    omega
  have m2 : ((k : Int), 2) ∈ fs ++ [((k : Int), 2)] := by simp
  cases ea : allT (n : Int) isN p.1 with
  | true =>
    rw [ea, if_pos rfl] at old
    have : ((k : Int), 1) ∉ fs := fun m => by
      rw [if_pos m] at old
      cases eb : allT (n : Int) isN p.2 with
      | true => rw [eb, if_pos rfl] at old; cases old
      | false => rw [eb, if_neg Bool.false_ne_true] at old; exact absurd old (by decide)
    rw [if_pos rfl, if_neg Bool.false_ne_true, if_neg (fun h => this (m1.mp h)), if_pos m2]
  | false =>
    rw [ea, if_neg Bool.false_ne_true] at old
    have : ((k : Int), 1) ∈ fs := by
      by_cases h : ((k : Int), 1) ∈ fs
      · exact h
      · rw [if_neg h] at old
        by_cases h2 : ((k : Int), 2) ∈ fs
        · rw [if_pos h2] at old; exact absurd old (by decide)
        · rw [if_neg h2] at old; cases old
    rw [if_neg Bool.false_ne_true, if_pos (m1.mpr this)]
/-- a deed of good numbers -/
def GD (n : Nat) (p : D × D) : Prop := ∃ vs ws, p = (.tup vs, .tup ws) ∧ (∀ d ∈ vs, GN d) ∧ vs.length = n ∧ (∀ d ∈ ws, GN d) ∧ ws.length = n
theorem rs_low {m : Nat} {pr : List (D × D)} {fs : List (Int × Int)} (hl : pr.length = m) (hp : ∀ p ∈ pr, Pl p.1 = true ∧ Pl p.2 = true) : (RS m pr fs).all (D.lows ((RS m pr fs).length + 1)) = true := by
  have lS : (RS m pr fs).length + 1 = m + 3 := by
    show ((pr.map pl2 ++ [fs.map fD]).length + 1) + 1 = m + 3
    rw [List.length_append, List.length_map, hl]; rfl
  rw [lS]
  unfold RS
  rw [List.all_cons, List.all_append, List.all_cons, List.all_nil]
  have a : D.lows (m + 3) (refs m) = true := by
    have : ∀ ds : List D, (∀ d ∈ ds, d.low (m + 3) = true) → D.lows (m + 3) ds = true := by
      intro ds
      induction ds with
      | nil => intro _; rfl
      | cons d ds ih =>
        intro h
        unfold D.lows
        rw [h d List.mem_cons_self, ih fun e m => h e (List.mem_cons_of_mem _ m)]; rfl
    refine this _ fun d hd => ?_
    unfold refs at hd
    obtain ⟨i, hi, rfl⟩ := List.mem_map.mp hd
    have := List.mem_range.mp hi
    exact decide_eq_true (by omega)
  have b : ((pr.map pl2).all (D.lows (m + 3))) = true := List.all_eq_true.mpr fun ds hd => by
    obtain ⟨p, h1, rfl⟩ := List.mem_map.mp hd
    obtain ⟨h2, h3⟩ := hp p h1
    exact pls_low _ (by unfold pl2; simp [Pls, h2, h3])
  have c : D.lows (m + 3) (fs.map fD) = true := pls_low _ (pls_of fun d hd => by
    obtain ⟨q, _, rfl⟩ := List.mem_map.mp hd; rfl)
  rw [a, b, c]; rfl
theorem spB_ok {l : List D} (h : Fl l) {n m : Nat} {ov pr : List (D × D)} {fs : List (Int × Int)} {x5 x6 x7 x8 : Option D} (hn : 1 ≤ n) (hn2 : n ≤ 5) (hm : m ≤ 5) (hl : ov.length = m) (hov : ∀ p ∈ ov, GD n p) (P : PIn n m pr fs) (hfl : fs.length ≤ 10) :
    ∃ y6 y7 y8 l' pr' fs', spB [some (.ref 0), some (.int (n : Int)), some (.tup (ov.map tupP)), some (.ref 1), some (.ref (m + 2)), x5, x6, x7, x8, none, none, none, none, none, none, none] (l :: RS m pr fs) = .nx [some (.ref 0), some (.int (n : Int)), some (.tup (ov.map tupP)), some (.ref 1), some (.ref (m + 2)), x5, y6, y7, y8, none, none, none, none, none, none, none] (l' :: RS m pr' fs') ∧ Fl l' ∧ PIn n m pr' fs' ∧ fs'.length ≤ fs.length + 1 := by
  unfold spB
  obtain ⟨r, l1, e1, f1, r1, r2⟩ := draw_ok h (m := ((ov.map tupP).length : Int) + 1) (by omega) (by rw [List.length_map, hl]; omega) (RS m pr fs)
  obtain ⟨k, rfl⟩ := Int.eq_ofNat_of_zero_le r1
  simp -implicitDefEqProofs only [e1, r_dB, bind_ok, bind_ex, r_var, vk_some, List.getD_cons_zero, List.getD_cons_succ, r_dC, r_dOp, r_dUn, r_dTst, r_tst, r_dTru, r_optB, r_trub, r_truT, r_dNotT, r_dAndT, r_dOrT, r_dNot, r_dAnd, r_dOr, r_and1, r_and0, r_or1, r_or0, r_andb, r_orb, r_iteb, r_iteb2, r_raise, ix0, ix1, r_sSetIx, fl0, fl1, fl2, fl3, fs0, fs1, fs2, fs0, r_dIf, r_aNil, r_aCons, gd_t, r_dTup, r_dLst, r_dLstM, r_dSl, r_dNoP, r_dP, r_pK, r_dCB, r_dCall, r_dCallK, r_sSeq, sq_nx, sq_rt, sq_ex, sb_ok, sb_ex, r_sNil, r_sRet, r_sExpr, r_sIf, r_sSet, r_sPar, r_sAsg, r_asg, r_sFor, fn_rt, fn_nx, fn_ex, r_dIt, it_tup, it_lst, eq_int, eq_bl, eq_str, ne_str, cmp_int, add_int, sub_int, neg_int, len_tup, len_lst, tuple_lst, list_tup, i2_int, int_int, if_t, if_f, bd_nm, bd_tp, bd_nil, bd_cons, bdk, List.set_cons_zero, List.set_cons_succ, okL0, okL1, okL2, okL3, okL4, okL5, okL6, okL7, okL8, okL9, okL10, okL11, okL12, okL13, okL14, okL15, List.length_cons, List.length_nil, Nat.reduceAdd, Nat.zero_add, Nat.reduceLeDiff, Nat.reduceEqDiff, decide_true, decide_false, Bool.not_true, Bool.not_false, Bool.and_true, Bool.true_and, eq_self, List.cons_append, List.nil_append, pickL, List.map_cons, List.map_nil, ↓reduceIte, Bool.false_eq_true]
  by_cases hk : (k : Int) < ((ov.map tupP).length : Int)
  · rw [decide_eq_true hk]
    rw [List.length_map, hl] at hk
    have hk' : k < m := by omega
    have hkp : k < pr.length := by rw [P.len]; exact hk'
    have hko : k < ov.length := by omega
    obtain ⟨c, l2, e2, f2, c1, c2⟩ := draw_ok f1 (m := 2) (by decide) (by decide) (RS m pr fs)
    have eo : ov[k]? = some ov[k] := List.getElem?_eq_getElem (by omega)
    obtain ⟨vs, ws, ep, v1, v2, w1, w2⟩ := hov ov[k] (List.getElem_mem _)
    have eot : (ov.map tupP)[k]? = some (.tup [.tup vs, .tup ws]) := by rw [List.getElem?_map, eo, ep]; rfl
    have ek : pr[k]? = some pr[k] := List.getElem?_eq_getElem (by rw [P.len]; exact hk')
    have hlow := rs_low (fs := fs) P.len fun p hp => ⟨(P.sm p hp).1.1, (P.sm p hp).2.1⟩
    have i1 : ∀ l : List D, oIx (.ref 1) (.int (k : Int)) (l :: RS m pr fs) = .ok (.ref (2 + k)) (l :: RS m pr fs) := fun l => ix_ref (S := l :: RS m pr fs) rfl (refs_get hk')
    have G2 : ∀ l : List D, (l :: RS m pr fs)[2 + k]? = some (pl2 pr[k]) := fun l => by have := g2 (l := l) (m := m) (fs := fs) (T := []) ek; rwa [List.append_nil] at this
    have S2 : ∀ (l : List D) (p' : D × D), (l :: RS m pr fs).set (2 + k) (pl2 p') = l :: RS m (pr.set k p') fs := fun l p' => by have := s2 (l := l) (m := m) (fs := fs) (T := []) (i := k) (pr := pr) (p' := p') (by rw [P.len]; exact hk'); rwa [List.append_nil, List.append_nil] at this
    have AP : ∀ (l : List D) (pr' : List (D × D)) (c : Int), pr'.length = m → appK (.ref (m + 2)) (l :: RS m pr' fs) (.ok (.tup [.int (k : Int), .int c]) (l :: RS m pr' fs)) = .ok .non (l :: RS m pr' (fs ++ [((k : Int), c)])) := fun l pr' c hl' => by
      have a := g3 (l := l) (fs := fs) (T := []) hl'
      have b := s3 (l := l) (fs := fs) (T := []) hl' (q := ((k : Int), c))
      rw [List.append_nil] at a
      rw [List.append_nil, List.append_nil] at b
      rw [app_ok rfl (List.getElem?_eq_some_iff.mp a).1 a (by rw [List.length_map]; omega), ← b]; rfl
    have c01 : c = 0 ∨ c = 1 := by omega
    rcases c01 with rfl | rfl
    · obtain ⟨os, l3, e3, f3, lo, ho⟩ := bad_ok2 f2 hlow v1 v2 hn hn2
      obtain ⟨j, l4, e4, f4, j1, j2⟩ := draw_ok f3 (m := (os.length : Int)) (by omega) (by omega) (RS m pr fs)
      obtain ⟨j, rfl⟩ := Int.eq_ofNat_of_zero_le j1
      have ej : os[j]? = some os[j] := List.getElem?_eq_getElem (by omega)
      have st : ∀ ρ : Rho, stK (.ref (2 + k)) (.int 0) os[j] ρ (l4 :: RS m pr fs) = .nx ρ (l4 :: RS m (pr.set k (os[j], pr[k].2)) fs) := fun ρ => by
        have := st_ref (i := 0) (d := os[j]) (ρ := ρ) (G2 l4) (by show 0 < 2; decide)
        rw [show ((0 : Nat) : Int) = 0 from rfl] at this
        rw [this, ← S2 l4]; rfl
      simp -implicitDefEqProofs only [e2, ix_tup eot, e3, e4, ix_lst ej, i1, st, r_dApp, AP l4 (pr.set k (os[j], pr[k].2)) (1 + 0) (by rw [List.length_set, P.len]), r_dB, bind_ok, bind_ex, r_var, vk_some, List.getD_cons_zero, List.getD_cons_succ, r_dC, r_dOp, r_dUn, r_dTst, r_tst, r_dTru, r_optB, r_trub, r_truT, r_dNotT, r_dAndT, r_dOrT, r_dNot, r_dAnd, r_dOr, r_and1, r_and0, r_or1, r_or0, r_andb, r_orb, r_iteb, r_iteb2, r_raise, ix0, ix1, r_sSetIx, fl0, fl1, fl2, fl3, fs0, fs1, fs2, fs0, r_dIf, r_aNil, r_aCons, gd_t, r_dTup, r_dLst, r_dLstM, r_dSl, r_dNoP, r_dP, r_pK, r_dCB, r_dCall, r_dCallK, r_sSeq, sq_nx, sq_rt, sq_ex, sb_ok, sb_ex, r_sNil, r_sRet, r_sExpr, r_sIf, r_sSet, r_sPar, r_sAsg, r_asg, r_sFor, fn_rt, fn_nx, fn_ex, r_dIt, it_tup, it_lst, eq_int, eq_bl, eq_str, ne_str, cmp_int, add_int, sub_int, neg_int, len_tup, len_lst, tuple_lst, list_tup, i2_int, int_int, if_t, if_f, bd_nm, bd_tp, bd_nil, bd_cons, bdk, List.set_cons_zero, List.set_cons_succ, okL0, okL1, okL2, okL3, okL4, okL5, okL6, okL7, okL8, okL9, okL10, okL11, okL12, okL13, okL14, okL15, List.length_cons, List.length_nil, Nat.reduceAdd, Nat.zero_add, Nat.reduceLeDiff, Nat.reduceEqDiff, decide_true, decide_false, Bool.not_true, Bool.not_false, Bool.and_true, Bool.true_and, eq_self, List.cons_append, List.nil_append, pickL, List.map_cons, List.map_nil, ↓reduceIte, Bool.false_eq_true]
      exact ⟨_, _, _, l4, _, _, rfl, f4, put1 P hk' ek (ho _ (List.getElem_mem _)), by rw [List.length_append]; exact Nat.le_refl _⟩
    · obtain ⟨os, l3, e3, f3, lo, ho⟩ := bad_ok2 f2 hlow w1 w2 hn hn2
      obtain ⟨j, l4, e4, f4, j1, j2⟩ := draw_ok f3 (m := (os.length : Int)) (by omega) (by omega) (RS m pr fs)
      obtain ⟨j, rfl⟩ := Int.eq_ofNat_of_zero_le j1
      have ej : os[j]? = some os[j] := List.getElem?_eq_getElem (by omega)
      have st : ∀ ρ : Rho, stK (.ref (2 + k)) (.int 1) os[j] ρ (l4 :: RS m pr fs) = .nx ρ (l4 :: RS m (pr.set k (pr[k].1, os[j])) fs) := fun ρ => by
        have := st_ref (i := 1) (d := os[j]) (ρ := ρ) (G2 l4) (by show 1 < 2; decide)
        rw [show ((1 : Nat) : Int) = 1 from rfl] at this
        rw [this, ← S2 l4]; rfl
      simp -implicitDefEqProofs only [e2, ix_tup eot, e3, e4, ix_lst ej, i1, st, r_dApp, AP l4 (pr.set k (pr[k].1, os[j])) (1 + 1) (by rw [List.length_set, P.len]), r_dB, bind_ok, bind_ex, r_var, vk_some, List.getD_cons_zero, List.getD_cons_succ, r_dC, r_dOp, r_dUn, r_dTst, r_tst, r_dTru, r_optB, r_trub, r_truT, r_dNotT, r_dAndT, r_dOrT, r_dNot, r_dAnd, r_dOr, r_and1, r_and0, r_or1, r_or0, r_andb, r_orb, r_iteb, r_iteb2, r_raise, ix0, ix1, r_sSetIx, fl0, fl1, fl2, fl3, fs0, fs1, fs2, fs0, r_dIf, r_aNil, r_aCons, gd_t, r_dTup, r_dLst, r_dLstM, r_dSl, r_dNoP, r_dP, r_pK, r_dCB, r_dCall, r_dCallK, r_sSeq, sq_nx, sq_rt, sq_ex, sb_ok, sb_ex, r_sNil, r_sRet, r_sExpr, r_sIf, r_sSet, r_sPar, r_sAsg, r_asg, r_sFor, fn_rt, fn_nx, fn_ex, r_dIt, it_tup, it_lst, eq_int, eq_bl, eq_str, ne_str, cmp_int, add_int, sub_int, neg_int, len_tup, len_lst, tuple_lst, list_tup, i2_int, int_int, if_t, if_f, bd_nm, bd_tp, bd_nil, bd_cons, bdk, List.set_cons_zero, List.set_cons_succ, okL0, okL1, okL2, okL3, okL4, okL5, okL6, okL7, okL8, okL9, okL10, okL11, okL12, okL13, okL14, okL15, List.length_cons, List.length_nil, Nat.reduceAdd, Nat.zero_add, Nat.reduceLeDiff, Nat.reduceEqDiff, decide_true, decide_false, Bool.not_true, Bool.not_false, Bool.and_true, Bool.true_and, eq_self, List.cons_append, List.nil_append, pickL, List.map_cons, List.map_nil, ↓reduceIte, Bool.false_eq_true]
      exact ⟨_, _, _, l4, _, _, rfl, f4, put2 P hk' ek (ho _ (List.getElem_mem _)), by rw [List.length_append]; exact Nat.le_refl _⟩
  · rw [decide_eq_false hk]
    simp -implicitDefEqProofs only [r_dB, bind_ok, bind_ex, r_var, vk_some, List.getD_cons_zero, List.getD_cons_succ, r_dC, r_dOp, r_dUn, r_dTst, r_tst, r_dTru, r_optB, r_trub, r_truT, r_dNotT, r_dAndT, r_dOrT, r_dNot, r_dAnd, r_dOr, r_and1, r_and0, r_or1, r_or0, r_andb, r_orb, r_iteb, r_iteb2, r_raise, ix0, ix1, r_sSetIx, fl0, fl1, fl2, fl3, fs0, fs1, fs2, fs0, r_dIf, r_aNil, r_aCons, gd_t, r_dTup, r_dLst, r_dLstM, r_dSl, r_dNoP, r_dP, r_pK, r_dCB, r_dCall, r_dCallK, r_sSeq, sq_nx, sq_rt, sq_ex, sb_ok, sb_ex, r_sNil, r_sRet, r_sExpr, r_sIf, r_sSet, r_sPar, r_sAsg, r_asg, r_sFor, fn_rt, fn_nx, fn_ex, r_dIt, it_tup, it_lst, eq_int, eq_bl, eq_str, ne_str, cmp_int, add_int, sub_int, neg_int, len_tup, len_lst, tuple_lst, list_tup, i2_int, int_int, if_t, if_f, bd_nm, bd_tp, bd_nil, bd_cons, bdk, List.set_cons_zero, List.set_cons_succ, okL0, okL1, okL2, okL3, okL4, okL5, okL6, okL7, okL8, okL9, okL10, okL11, okL12, okL13, okL14, okL15, List.length_cons, List.length_nil, Nat.reduceAdd, Nat.zero_add, Nat.reduceLeDiff, Nat.reduceEqDiff, decide_true, decide_false, Bool.not_true, Bool.not_false, Bool.and_true, Bool.true_and, eq_self, List.cons_append, List.nil_append, pickL, List.map_cons, List.map_nil, ↓reduceIte, Bool.false_eq_true]
    exact ⟨_, _, _, l1, pr, fs, rfl, f1, P, Nat.le_succ _⟩
end k00

set_option Elab.async false
set_option linter.all false
set_option maxRecDepth 100000
set_option maxHeartbeats 1000000
namespace k00
open PySem DE
theorem gd_pin {n m : Nat} {ov : List (D × D)} (hn2 : n ≤ 5) (hl : ov.length = m) (hov : ∀ p ∈ ov, GD n p) : PIn n m ov [] := by
  refine ⟨hl, fun p hp => ?_, ⟨fun i d h => ?_, fun q m => (nomatch m)⟩, fun q m => (nomatch m)⟩
  · obtain ⟨vs, ws, rfl, v1, v2, w1, w2⟩ := hov p hp
    have a : ∀ {us : List D}, (∀ d ∈ us, GN d) → us.length = n → Rp 16 2 (.tup us) := fun hu hl => ⟨gn_tup hu (by omega), sm_of fun d m => gn_sm (hu d m), by show nDs _ + 1 ≤ 16; rw [gn_n hu]; omega, by show hDs _ + 1 ≤ 2; rw [gn_h hu]; decide⟩
    exact ⟨a v1 v2, a w1 w2⟩
  · have hm := List.mem_of_getElem? h
    obtain ⟨p, hp, rfl⟩ := List.mem_map.mp hm
    obtain ⟨vs, ws, rfl, v1, v2, w1, w2⟩ := hov p hp
    show (if allT (n : Int) isN (.tup vs) = true then (if allT (n : Int) isN (.tup ws) = true then none else some ("give" : Str)) else some ("take" : Str)) = none
    rw [gn_all v1, gn_all w1, v2, w2, decide_eq_true rfl, if_pos rfl, if_pos rfl]
theorem spoilt_ok {l : List D} (h : Fl l) {n m : Nat} {ov : List (D × D)} (hn : 1 ≤ n) (hn2 : n ≤ 5) (hm : m ≤ 5) (hl : ov.length = m) (hov : ∀ p ∈ ov, GD n p) :
    ∃ thing x l', F__law_spoilt [.ref 0, .int (n : Int), .tup (ov.map tupP)] [l] = .ok (.tup [thing, .str x]) [l'] ∧ Fl l' ∧ Hand (m : Int) thing x := by
  show ∃ thing x l', cutRes 1 (fnRes (b__law_spoilt [some (.ref 0), some (.int (n : Int)), some (.tup (ov.map tupP)), none, none, none, none, none, none, none, none, none, none, none, none, none] [l])) = _ ∧ _
  rw [sp_split]
  have ec : dLc finM (dIt (dV 2)) (.nm 14) dYes (dLstM (aCons (dOp oIx (dV 14) (dC (.int 0))) (aCons (dOp oIx (dV 14) (dC (.int 1))) aNil))) [14] [some (.ref 0), some (.int (n : Int)), some (.tup (ov.map tupP)), none, none, none, none, none, none, none, none, none, none, none, none, none] [l] = .ok (.ref 1) (l :: refs m :: ov.map pl2) := by
    have e := parts_run (l := l) (ρ := [some (.ref 0), some (.int (n : Int)), some (.tup (ov.map tupP)), none, none, none, none, none, none, none, none, none, none, none, none, none]) (by simp only [List.length_cons, List.length_nil]; decide) ov (ov.map tupP) [] [] (by rw [List.length_nil]; omega)
    unfold dLc
    have ei : dIt (dV 2) [some (.ref 0), some (.int (n : Int)), some (.tup (ov.map tupP)), none, none, none, none, none, none, none, none, none, none, none, none, none] [l] = .ok (ov.map tupP, none) [l] := rfl
    rw [r_dB, ei, bind_ok]
    dsimp only
    rw [show wipeR [some (.ref 0), some (.int (n : Int)), some (.tup (ov.map tupP)), none, none, none, none, none, none, none, none, none, none, none, none, none] [14] = [some (.ref 0), some (.int (n : Int)), some (.tup (ov.map tupP)), none, none, none, none, none, none, none, none, none, none, none, none, none].set 14 none from rfl]
    rw [show [l].length = 1 from rfl, show [l] ++ [[]] = [l, []] from rfl, e, bind_ok]
    unfold finM refs
    rw [hl]
    simp
  have lS : (l :: refs m :: ov.map pl2).length = m + 2 := by rw [List.length_cons, List.length_cons, List.length_map, hl]
  have eR : (l :: refs m :: ov.map pl2) ++ [[]] = l :: RS m ov [] := by unfold RS; simp
  have eL : dLstM aNil [some (.ref 0), some (.int (n : Int)), some (.tup (ov.map tupP)), some (.ref 1), none, none, none, none, none, none, none, none, none, none, none, none] (l :: refs m :: ov.map pl2) = .ok (.ref (m + 2)) (l :: RS m ov []) := by
    rw [r_dLstM, r_aNil, bind_ok, lS, eR]; rfl
  have er : dRng1 (aCons (dC (.int 2)) aNil) [some (.ref 0), some (.int (n : Int)), some (.tup (ov.map tupP)), some (.ref 1), some (.ref (m + 2)), none, none, none, none, none, none, none, none, none, none, none] (l :: RS m ov []) = .ok (rngD 0 ((2 : Nat) : Int), none) (l :: RS m ov []) := rng_run rfl (by decide)
  obtain ⟨ρ', S', e3, x5, x6, x7, x8, l', pr', fs', rfl, rfl, f1, P, hf⟩ := loop_num (t := .nm 5) (body := spB) (fun j ρ S => ∃ x5 x6 x7 x8 l' pr' fs', ρ = [some (.ref 0), some (.int (n : Int)), some (.tup (ov.map tupP)), some (.ref 1), some (.ref (m + 2)), x5, x6, x7, x8, none, none, none, none, none, none, none] ∧ S = l' :: RS m pr' fs' ∧ Fl l' ∧ PIn n m pr' fs' ∧ fs'.length ≤ j)
    (rngD 0 ((2 : Nat) : Int)) (rngD 0 ((2 : Nat) : Int)) 0 [some (.ref 0), some (.int (n : Int)), some (.tup (ov.map tupP)), some (.ref 1), some (.ref (m + 2)), none, none, none, none, none, none, none, none, none, none, none] (l :: RS m ov []) ⟨none, none, none, none, l, ov, [], rfl, rfl, h, gd_pin hn2 hl hov, Nat.le_refl _⟩ (by
      intro i d hd ρ S ⟨x5, x6, x7, x8, l', pr', fs', e1, e2, f1, P, hf⟩
      subst e1 e2
      have hi := (rng_get hd).2
      obtain ⟨y6, y7, y8, l2, pr2, fs2, e, f2, P2, hf2⟩ := spB_ok f1 (x5 := some d) (x6 := x6) (x7 := x7) (x8 := x8) hn hn2 hm hl hov P (by omega)
      exact ⟨_, rfl, _, _, e, some d, y6, y7, y8, l2, pr2, fs2, rfl, rfl, f2, P2, by omega⟩)
  rw [rng_len] at hf
  obtain ⟨thing, x, l2, R', e9, f2, hx⟩ := sp9_ok f1 (x5 := x5) (x6 := x6) (x7 := x7) (x8 := x8) (x9 := none) (x10 := none) (x11 := none) (x12 := none) (x13 := none) (x14 := none) (x15 := none) (dv := ov.map tupP) hn hn2 hm (by rw [List.length_map, hl]) P (by omega)
  have s1 : ∀ (a b : Dn) (ρ ρ' : Rho) (S S' : Sto), a ρ S = .nx ρ' S' → sSeq a b ρ S = b ρ' S' := fun a b ρ ρ' S S' e => by rw [r_sSeq, e, sq_nx]
  refine ⟨thing, x, l2, ?_, f2, hx⟩
  rw [s1 _ _ _ [some (.ref 0), some (.int (n : Int)), some (.tup (ov.map tupP)), some (.ref 1), none, none, none, none, none, none, none, none, none, none, none, none] _ (l :: refs m :: ov.map pl2) (by rw [r_sSet, ec]; rfl)]
  rw [s1 _ _ _ [some (.ref 0), some (.int (n : Int)), some (.tup (ov.map tupP)), some (.ref 1), some (.ref (m + 2)), none, none, none, none, none, none, none, none, none, none, none] _ (l :: RS m ov []) (by rw [r_sSet, eL]; rfl)]
  rw [s1 _ _ _ _ _ _ (by rw [r_sFor, er, sb_ok]; exact e3), e9, fn_rt]
  rw [cut_pl (k := 1) (by have := hx.1.1; simp [Pl, Pls, this]) (by show SL [l2]; exact f2.sl (R := []) (fun _ m => nomatch m))]
  rfl
/-! ### with what is told of the list that is being made -/
theorem lc_inv2 {t : Tg} {fe : Rho → Sto → Res D} {ρ : Rho} (P : Sto → Prop) (V : D → Prop) (n : Nat) (hn : ∀ S, P S → S.length = n) : ∀ (l0 ds : List D) (S : Sto) (acc : List D), P S → (∀ v ∈ acc, V v) → acc.length + ds.length ≤ 16777216 →
    (∀ d ∈ ds, ∀ S acc, P S → (∀ v ∈ acc, V v) → acc.length ≤ 900 → ∃ ρ1, t.bind d ρ = some ρ1 ∧ ∃ v S', fe ρ1 (S ++ [acc]) = .ok v (S' ++ [acc]) ∧ P S' ∧ V v) → acc.length + ds.length ≤ 900 →
    ∃ vs S', lcD (gdOk none l0) t dYes fe ρ n ds (S ++ [acc]) = .ok () (S' ++ [acc ++ vs]) ∧ P S' ∧ vs.length = ds.length ∧ ∀ v ∈ vs, V v := by
  intro l0 ds
  induction ds with
  | nil =>
    intro S acc h _ _ _ _
    exact ⟨[], S, by unfold lcD; rw [if_pos gdOk_none, List.append_nil], h, rfl, fun v hv => nomatch hv⟩
  | cons d ds ih =>
    intro S acc h ha hl k hl2
    simp only [List.length_cons] at hl hl2
    obtain ⟨ρ1, h1, v, S', h2, h3, h4⟩ := k d List.mem_cons_self S acc h ha (by omega)
    obtain ⟨vs, S2, h5, h6, h7, h8⟩ := ih S' (acc ++ [v]) h3 (fun w hw => by
      rcases List.mem_append.mp hw with hw | hw
      · exact ha w hw
      · rw [List.mem_singleton.mp hw]; exact h4) (by simp only [List.length_append, List.length_cons, List.length_nil]; omega) (fun d m => k d (List.mem_cons_of_mem _ m)) (by simp only [List.length_append, List.length_cons, List.length_nil]; omega)
    refine ⟨v :: vs, S2, ?_, h6, by simp [h7], fun w hw => ?_⟩
    · unfold lcD
      rw [if_pos gdOk_none, h1]
      dsimp only [dYes]
      rw [h2]
      dsimp only
      have e : (S' ++ [acc])[n]? = some acc := by rw [← hn S' h3]; simp
      rw [e]
      dsimp only
      rw [r_guard (by apply decide_eq_true; omega)]
      have e2 : (S' ++ [acc]).set n (acc ++ [v]) = S' ++ [acc ++ [v]] := by rw [← hn S' h3]; simp
      rw [e2, h5]
      simp
    · rcases List.mem_cons.mp hw with rfl | hw
      · exact h4
      · exact h8 w hw
theorem gd_list {n : Nat} : ∀ {vs : List D}, (∀ v ∈ vs, ∃ p, GD n p ∧ v = tupP p) → ∃ ov : List (D × D), vs = ov.map tupP ∧ ∀ p ∈ ov, GD n p
  | [], _ => ⟨[], rfl, fun _ m => nomatch m⟩
  | v :: vs, h => by
    obtain ⟨p, hp, rfl⟩ := h v List.mem_cons_self
    obtain ⟨ov, rfl, ho⟩ := gd_list (vs := vs) fun w m => h w (List.mem_cons_of_mem _ m)
    exact ⟨p :: ov, rfl, fun q m => by
      rcases List.mem_cons.mp m with rfl | m
      · exact hp
      · exact ho q m⟩
end k00

set_option Elab.async false
set_option linter.all false
set_option maxRecDepth 100000
set_option maxHeartbeats 1000000
namespace k00
open PySem DE
noncomputable def bkB : Dn := (sSeq (sAsg (.tp [(.nm 5), (.nm 6)]) (dCall 3 F__law_spoilt (aCons (dV 0) (aCons (dV 1) (aCons (dV 3) aNil)))))
  (sSeq (sSet 7 (dCB oRepr (aCons (dV 5) aNil)))
  (sSeq (sIf (dOrT (dTst (dOp oNe (dCall 1 F__law_told (aCons (dV 5) aNil)) (dV 6))) (dTst (dOp oNe (dCB oRepr (aCons (dV 5) aNil)) (dV 7)))) (sRet (dC (.bl false))) sNil)
  (sIf (dOrT (dNotT (dTru (dCall 2 F__law_is (aCons (dCall 1 F_is_book (aCons (dV 5) aNil)) (aCons (dOp oEq (dV 6) (dV 4)) aNil))))) (dTst (dOp oNe (dCall 1 F__law_told (aCons (dV 5) aNil)) (dV 6)))) (sRet (dC (.bl false))) sNil))))
noncomputable def bkC : Dn := (sIf (dOrT (dTst (dOp oNe (dCall 1 F__law_told (aCons (dTup (aCons (dV 8) (aCons (dV 3) aNil))) aNil)) (dV 6))) (dNotT (dTru (dCall 2 F__law_is (aCons (dCall 1 F_is_book (aCons (dTup (aCons (dV 8) (aCons (dV 3) aNil))) aNil)) (aCons (dOp oEq (dV 6) (dV 4)) aNil)))))) (sRet (dC (.bl false))) sNil)
noncomputable def bk9 : Dn := (sSeq (sSet 9 (dCB oTuple (aCons (dLc finI (dRng1 (aCons (dV 1) aNil)) (.nm 2) dYes (dC (.int 0)) [2]) aNil)))
  (sSeq (sSet 10 (dOp oMul (dSl (dOp oAdd (dV 3) (dTup (aCons (dTup (aCons (dV 9) (aCons (dV 9) aNil))) aNil))) dNoP (dP (dC (.int 1)))) (dC (.int 12))))
  (sSeq (sIf (dOrT (dTst (dOp oNe (dCall 1 F__law_told (aCons (dTup (aCons (dV 1) (aCons (dV 10) aNil))) aNil)) (dCB oRepr (aCons (dTup (aCons (dC (.str "told")) (aCons (dC (.int 12)) aNil))) aNil)))) (dNotT (dTru (dCall 2 F__law_is (aCons (dCall 1 F_is_book (aCons (dTup (aCons (dV 1) (aCons (dV 10) aNil))) aNil)) (aCons (dC (.bl true)) aNil)))))) (sRet (dC (.bl false))) sNil)
  (sSeq (sSet 10 (dOp oAdd (dOp oAdd (dSl (dV 10) dNoP (dP (dC (.int 11)))) (dTup (aCons (dTup (aCons (dV 9) (aCons (dC .non) aNil))) aNil))) (dSl (dV 10) dNoP (dP (dC (.int 1))))))
  (sSeq (sIf (dOrT (dTst (dOp oNe (dCall 1 F__law_told (aCons (dTup (aCons (dV 1) (aCons (dV 10) aNil))) aNil)) (dCB oRepr (aCons (dTup (aCons (dC (.str "refused")) (aCons (dC (.str "give")) (aCons (dC (.int 11)) aNil)))) aNil)))) (dNotT (dTru (dCall 2 F__law_is (aCons (dCall 1 F_is_book (aCons (dTup (aCons (dV 1) (aCons (dV 10) aNil))) aNil)) (aCons (dC (.bl false)) aNil)))))) (sRet (dC (.bl false))) sNil)
  (sRet (dAnd (dOp oEq (dCB oRepr (aCons (dTup (aCons (dC (.str "told")) (aCons (dCallK 0 1 [0] F_lets_book aNil (aCons (dTup (aCons (dV 1) (aCons (dV 3) aNil))) aNil)) aNil))) aNil)) (dV 4)) (dCall 2 F__law_is (aCons (dCall 1 F_is_book (aCons (dTup (aCons (dV 1) (aCons (dV 3) aNil))) aNil)) (aCons (dC (.bl true)) aNil))))))))))
noncomputable def bk6 : Dn := (sSeq (sSet 6 (dV 4))
  (sSeq (sIf (dTst (dOp (oCmp fun i j => decide (j < i)) (dCB oLen (aCons (dV 3) aNil)) (dC (.int 0)))) (sSet 6 (dCB oRepr (aCons (dTup (aCons (dC (.str "refused")) (aCons (dC (.str "take")) (aCons (dC (.int 0)) aNil)))) aNil))) sNil)
  (sSeq (sFor (dIt (dLst (aCons (dOp oAdd (dV 1) (dC (.int 1))) (aCons (dOp oAdd (dC (.int 21)) (dV 1)) (aCons (dC (.int 1000)) aNil))))) (.nm 8) bkC)
  bk9)))
theorem bk_split : b__law_books_hold = (sSeq (sSet 1 (dOp oAdd (dC (.int 1)) (dCall 2 F__law_draw (aCons (dV 0) (aCons (dC (.int 5)) aNil)))))
  (sSeq (sSet 3 (dCB oTuple (aCons (dLc finI (dRng1 (aCons (dCall 2 F__law_draw (aCons (dV 0) (aCons (dC (.int 6)) aNil))) aNil)) (.nm 2) dYes (dTup (aCons (dCall 2 F__law_numbers (aCons (dV 0) (aCons (dV 1) aNil))) (aCons (dCall 2 F__law_numbers (aCons (dV 0) (aCons (dV 1) aNil))) aNil))) [2]) aNil)))
  (sSeq (sSet 4 (dCB oRepr (aCons (dTup (aCons (dC (.str "told")) (aCons (dCB oLen (aCons (dV 3) aNil)) aNil))) aNil)))
  (sSeq (sIf (dOrT (dTst (dOp oNe (dCall 1 F__law_told (aCons (dTup (aCons (dV 1) (aCons (dV 3) aNil))) aNil)) (dV 4))) (dNotT (dTru (dCall 2 F__law_is (aCons (dCallK 0 1 [0] F_is_book aNil (aCons (dTup (aCons (dV 1) (aCons (dV 3) aNil))) aNil)) (aCons (dC (.bl true)) aNil)))))) (sRet (dC (.bl false))) sNil)
  (sSeq (sFor (dRng1 (aCons (dC (.int 10)) aNil)) (.nm 2) bkB)
  bk6))))) := rfl

theorem T2_eq (n : Int) : T2 n = ("(" : Str) ++ Str.join ", " [reprText "told", PyData.shown (.int n)] ++ (")" : Str) := rfl
theorem T3_eq (w : Str) (i : Int) : T3 w i = ("(" : Str) ++ Str.join ", " [reprText "refused", reprText w, PyData.shown (.int i)] ++ (")" : Str) := rfl
theorem rt1 : reprText "told" = "'told'" := by decide +kernel
theorem rt2 : reprText "refused" = "'refused'" := by decide +kernel
theorem cl (p q : Str) : (p ++ q).cps.toList = p.cps.toList ++ q.cps.toList := Array.toList_append
theorem ch1 : ("(" : Str).cps.toList = [40] := by decide +kernel
theorem ch2 : ("'told'" : Str).cps.toList = [39, 116, 111, 108, 100, 39] := by decide +kernel
theorem ch3 : ("'refused'" : Str).cps.toList = [39, 114, 101, 102, 117, 115, 101, 100, 39] := by decide +kernel
theorem T2_2 (n : Int) : (T2 n).cps.toList[2]? = some 116 := by
  rw [T2_eq, rt1]
  show ((("(" : Str) ++ (("'told'" : Str) ++ ", " ++ PyData.shown (.int n))) ++ (")" : Str)).cps.toList[2]? = _
  rw [cl, cl, cl, cl, ch1, ch2]; rfl
theorem T3_2 (w : Str) (i : Int) : (T3 w i).cps.toList[2]? = some 114 := by
  rw [T3_eq, rt2]
  show ((("(" : Str) ++ (("'refused'" : Str) ++ ", " ++ Str.join ", " [reprText w, PyData.shown (.int i)])) ++ (")" : Str)).cps.toList[2]? = _
  rw [cl, cl, cl, cl, ch1, ch3]; rfl
theorem ne23 (w : Str) (i n : Int) : T3 w i ≠ T2 n := fun e => by
  have := T3_2 w i
  rw [e, T2_2] at this
  cases this
theorem told_due {o : Option (Str × Int)} {n : Int} : decide (toldS o n = T2 n) = o.isNone := by
  cases o with
  | none => exact decide_eq_true rfl
  | some p =>
    obtain ⟨w, i⟩ := p
    exact decide_eq_false (ne23 w i n)
theorem bkB_ok {l : List D} (h : Fl l) {n m : Nat} {ov : List (D × D)} {x2 x5 x6 x7 : Option D} (hn : 1 ≤ n) (hn2 : n ≤ 5) (hm : m ≤ 5) (hl : ov.length = m) (hov : ∀ p ∈ ov, GD n p) :
    ∃ y5 y6 y7 l', bkB [some (.ref 0), some (.int (n : Int)), x2, some (.tup (ov.map tupP)), some (.str (T2 m)), x5, x6, x7, none, none, none] [l] = .nx [some (.ref 0), some (.int (n : Int)), x2, some (.tup (ov.map tupP)), some (.str (T2 m)), y5, y6, y7, none, none, none] [l'] ∧ Fl l' := by
  unfold bkB
  obtain ⟨thing, x, l1, e1, f1, ⟨hp, hs, hn', hh⟩, hb, hx, hmm⟩ := spoilt_ok h hn hn2 hm hl hov
  have hS : SL [l1] := f1.sl (R := []) (fun _ m => nomatch m)
  obtain ⟨as, ha⟩ := repr_any hs (by omega) (by omega) hb
  have et : F__law_told [thing] [l1] = .ok (.str x) [l1] := by rw [told_ok hp hS, hx]
  have due : decide (x = T2 (m : Int)) = (bookV thing).isNone := by
    rw [hx]
    cases e : bookV thing with
    | none => rw [hmm e]; exact decide_eq_true rfl
    | some p =>
      obtain ⟨w, i⟩ := p
      exact decide_eq_false (ne23 w i m)
  simp -implicitDefEqProofs only [e1, ha, et, ok_book hp hS, due, ok_is, Bool.or_false, Bool.false_or, Bool.or_self, r_dB, bind_ok, bind_ex, r_var, vk_some, List.getD_cons_zero, List.getD_cons_succ, r_dC, r_dOp, r_dUn, r_dTst, r_tst, r_dTru, r_optB, r_trub, r_truT, r_dNotT, r_dAndT, r_dOrT, r_dNot, r_dAnd, r_dOr, r_and1, r_and0, r_or1, r_or0, r_andb, r_orb, r_iteb, r_iteb2, r_raise, ix0, ix1, r_sSetIx, fl0, fl1, fl2, fl3, fs0, fs1, fs2, fs0, r_dIf, r_aNil, r_aCons, gd_t, r_dTup, r_dLst, r_dLstM, r_dSl, r_dNoP, r_dP, r_pK, r_dCB, r_dCall, r_dCallK, r_sSeq, sq_nx, sq_rt, sq_ex, sb_ok, sb_ex, r_sNil, r_sRet, r_sExpr, r_sIf, r_sSet, r_sPar, r_sAsg, r_asg, r_sFor, fn_rt, fn_nx, fn_ex, r_dIt, it_tup, it_lst, eq_int, eq_bl, eq_str, ne_str, cmp_int, add_int, sub_int, neg_int, len_tup, len_lst, tuple_lst, list_tup, i2_int, int_int, if_t, if_f, bd_nm, bd_tp, bd_nil, bd_cons, bdk, List.set_cons_zero, List.set_cons_succ, okL0, okL1, okL2, okL3, okL4, okL5, okL6, okL7, okL8, okL9, okL10, okL11, okL12, okL13, okL14, okL15, List.length_cons, List.length_nil, Nat.reduceAdd, Nat.zero_add, Nat.reduceLeDiff, Nat.reduceEqDiff, decide_true, decide_false, Bool.not_true, Bool.not_false, Bool.and_true, Bool.true_and, eq_self, List.cons_append, List.nil_append, pickL, List.map_cons, List.map_nil, ↓reduceIte, Bool.false_eq_true]
  exact ⟨_, _, _, l1, rfl, f1⟩
end k00

set_option Elab.async false
set_option linter.all false
set_option maxRecDepth 100000
set_option maxHeartbeats 1000000
namespace k00
open PySem DE
theorem gd_pl {n : Nat} (hn : n ≤ 5) {p : D × D} (h : GD n p) : Pl (tupP p) = true := by
  obtain ⟨vs, ws, rfl, v1, v2, w1, w2⟩ := h
  exact pl_tup_of (fun d m => by
    simp only [List.mem_cons, List.not_mem_nil, or_false] at m
    rcases m with rfl | rfl
    · exact gn_tup v1 (by omega)
    · exact gn_tup w1 (by omega)) (by simp)
theorem gd_V {n : Nat} {p : D × D} (h : GD n p) : deedV (n : Int) (tupP p) = none := by
  obtain ⟨vs, ws, rfl, v1, v2, w1, w2⟩ := h
  show (if allT (n : Int) isN (.tup vs) = true then (if allT (n : Int) isN (.tup ws) = true then none else some ("give" : Str)) else some ("take" : Str)) = none
  rw [gn_all v1, gn_all w1, v2, w2, decide_eq_true rfl, if_pos rfl, if_pos rfl]
theorem gd_V2 {n : Nat} {j : Int} (hj : j ≠ n) {p : D × D} (h : GD n p) : deedV j (tupP p) = some ("take" : Str) := by
  obtain ⟨vs, ws, rfl, v1, v2, w1, w2⟩ := h
  show (if allT j isN (.tup vs) = true then (if allT j isN (.tup ws) = true then none else some ("give" : Str)) else some ("take" : Str)) = _
  rw [gn_all v1, v2, decide_eq_false (fun e => hj e.symm), if_neg Bool.false_ne_true]
theorem bookI {j : Int} (hj : 1 ≤ j) {ds : List D} : bookV (.tup [.int j, .tup ds]) = firstV j 0 ds := by
  show bookV2 (.int j) (.tup ds) = _
  unfold bookV2
  rw [if_pos (show isW (.int j) = true from decide_eq_true hj)]; rfl
theorem good_V {n : Nat} {ov : List (D × D)} (hov : ∀ p ∈ ov, GD n p) : firstV (n : Int) 0 (ov.map tupP) = none := first_none fun d m => by
  obtain ⟨p, hp, rfl⟩ := List.mem_map.mp m
  exact gd_V (hov p hp)
theorem pl_book {n : Nat} (hn : n ≤ 5) {j : Int} {ov : List (D × D)} (hl : ov.length ≤ 20) (hov : ∀ p ∈ ov, GD n p) : Pl (.tup [.int j, .tup (ov.map tupP)]) = true := pl_tup_of (fun d m => by
  simp only [List.mem_cons, List.not_mem_nil, or_false] at m
  rcases m with rfl | rfl
  · rfl
  · exact pl_tup_of (fun d m => by
      obtain ⟨p, hp, rfl⟩ := List.mem_map.mp m
      exact gd_pl hn (hov p hp)) (by rw [List.length_map]; omega)) (by simp)
theorem mul12 {Y : D} {S : Sto} : oMul (.tup [Y]) (.int 12) S = .ok (.tup [Y, Y, Y, Y, Y, Y, Y, Y, Y, Y, Y, Y]) S :=
  r_guard (b := !([Y].isEmpty) && decide ((2 : Int) ≤ 12) && decide ((12 : Int) ≤ 1000) && decide ([Y].length ≤ 1000)) rfl
theorem sl_11 {l : List D} {S : Sto} : oSl (.tup l) none (some 11) S = .ok (.tup (l.take 11)) S := sl_to (k := 11)
theorem bk9_ok {l : List D} (h : Fl l) {n m : Nat} {ov : List (D × D)} {x2 x5 x6 x7 x8 : Option D} (hn : 1 ≤ n) (hn2 : n ≤ 5) (hm : m ≤ 5) (hl : ov.length = m) (hov : ∀ p ∈ ov, GD n p) :
    fnRes (bk9 [some (.ref 0), some (.int (n : Int)), x2, some (.tup (ov.map tupP)), some (.str (T2 m)), x5, x6, x7, x8, none, none] [l]) = .ok (.bl true) [l] := by
  have hS : SL [l] := h.sl (R := []) (fun _ m => nomatch m)
  have er : dRng1 (aCons (dV 1) aNil) [some (.ref 0), some (.int (n : Int)), x2, some (.tup (ov.map tupP)), some (.str (T2 m)), x5, x6, x7, x8, none, none] [l] = .ok (rngD 0 (n : Int), none) [l] := rng_run rfl (by omega)
  have e4 := dLc_map (t := .nm 2) (fe := dC (.int 0)) (fi := dRng1 (aCons (dV 1) aNil)) (own := [2]) (fun _ => D.int 0) er (by rw [rng_len]; omega) (hS.low _) (fun _ _ => rfl) (fun d _ => ⟨_, rfl, fun acc _ => rfl⟩)
  generalize hz : (rngD 0 (n : Int)).map (fun _ => D.int 0) = zs at e4
  have hzs : ∀ d ∈ zs, GN d := fun d m => by
    rw [← hz] at m
    obtain ⟨_, _, rfl⟩ := List.mem_map.mp m
    exact ⟨0, rfl, by decide, by decide⟩
  have lz : zs.length = n := by rw [← hz, List.length_map, rng_len]
  have gz : GD n (.tup zs, .tup zs) := ⟨zs, zs, rfl, hzs, lz, hzs, lz⟩
  obtain ⟨Y, hY, eY⟩ : ∃ p, GD n p ∧ (ov.map tupP ++ [D.tup [D.tup zs, D.tup zs]]).take 1 = [tupP p] := by
    cases ov with
    | nil => exact ⟨_, gz, rfl⟩
    | cons p r => exact ⟨p, hov p List.mem_cons_self, rfl⟩
  have a0 : (ov.map tupP).length + [D.tup [.tup zs, .tup zs]].length ≤ 16777216 := by rw [List.length_map, List.length_cons, List.length_nil]; omega
  have o12 : ∀ p ∈ [Y, Y, Y, Y, Y, Y, Y, Y, Y, Y, Y, Y], GD n p := fun p hp => by
    simp only [List.mem_cons, List.not_mem_nil, or_false, or_self] at hp
    rw [hp]; exact hY
  have p12 := pl_book (j := (n : Int)) hn2 (ov := [Y, Y, Y, Y, Y, Y, Y, Y, Y, Y, Y, Y]) (by simp only [List.length_cons, List.length_nil]; decide) o12
  have v12 : bookV (.tup [.int (n : Int), .tup ([Y, Y, Y, Y, Y, Y, Y, Y, Y, Y, Y, Y].map tupP)]) = none := by rw [bookI (by omega), good_V o12]
  have m12 : [Y, Y, Y, Y, Y, Y, Y, Y, Y, Y, Y, Y].map tupP = [tupP Y, tupP Y, tupP Y, tupP Y, tupP Y, tupP Y, tupP Y, tupP Y, tupP Y, tupP Y, tupP Y, tupP Y] := rfl
  rw [m12] at p12 v12
  have t12 := told_ok p12 hS
  rw [v12] at t12
  have b12 := ok_book p12 hS
  rw [v12] at b12
  -- the thirteen
  have pY := gd_pl hn2 hY
  have pz := gn_tup hzs (by omega)
  have pb : Pl (.tup [.tup zs, .non]) = true := pl_tup_of (fun d m => by
    simp only [List.mem_cons, List.not_mem_nil, or_false] at m
    rcases m with rfl | rfl
    · exact pz
    · rfl) (by simp)
  have p13 : Pl (.tup [.int (n : Int), .tup [tupP Y, tupP Y, tupP Y, tupP Y, tupP Y, tupP Y, tupP Y, tupP Y, tupP Y, tupP Y, tupP Y, .tup [.tup zs, .non], tupP Y]]) = true := pl_tup_of (fun d m => by
    simp only [List.mem_cons, List.not_mem_nil, or_false] at m
    rcases m with rfl | rfl
    · rfl
    · exact pl_tup_of (fun d m => by
        simp only [List.mem_cons, List.not_mem_nil, or_false] at m
        rcases m with rfl | rfl | rfl | rfl | rfl | rfl | rfl | rfl | rfl | rfl | rfl | rfl | rfl <;> first | exact pY | exact pb) (by simp only [List.length_cons, List.length_nil]; decide)) (by simp)
  have vY := gd_V hY
  have vb : deedV (n : Int) (.tup [.tup zs, .non]) = some ("give" : Str) := by
    show (if allT (n : Int) isN (.tup zs) = true then (if allT (n : Int) isN .non = true then none else some ("give" : Str)) else some ("take" : Str)) = _
    rw [gn_all hzs, lz, decide_eq_true rfl, if_pos rfl]; rfl
  have v13 : bookV (.tup [.int (n : Int), .tup [tupP Y, tupP Y, tupP Y, tupP Y, tupP Y, tupP Y, tupP Y, tupP Y, tupP Y, tupP Y, tupP Y, .tup [.tup zs, .non], tupP Y]]) = some (("give" : Str), (11 : Int)) := by
    rw [bookI (by omega)]
    simp only [firstV, vY, vb]
    rfl
  have t13 := told_ok p13 hS
  rw [v13] at t13
  have b13 := ok_book p13 hS
  rw [v13] at b13
  -- the end
  have p0 := pl_book (j := (n : Int)) hn2 (by omega) hov
  have v0 : bookV (.tup [.int (n : Int), .tup (ov.map tupP)]) = none := by rw [bookI (by omega), good_V hov]
  have b0 := ok_book p0 hS
  rw [v0] at b0
  have l0 := ok_lets p0 hS
  rw [v0] at l0
  have n0 : bookN (.tup [.int (n : Int), .tup (ov.map tupP)]) = (m : Int) := by show (((ov.map tupP).length : Nat) : Int) = m; rw [List.length_map, hl]
  rw [n0] at l0
  have g12 : ∀ S : Sto, oRepr [.tup [.str "told", .int 12]] S = .ok (.str (T2 12)) S := fun S => repr_T2 (by decide) (by decide)
  have g11 : ∀ S : Sto, oRepr [.tup [.str "refused", .str "give", .int 11]] S = .ok (.str (T3 "give" 11)) S := fun S => repr_T3 (by decide) (by decide) (by decide)
  have gm : ∀ S : Sto, oRepr [.tup [.str "told", .int (m : Int)]] S = .ok (.str (T2 m)) S := fun S => repr_T2 (by omega) (by omega)
  have tt : toldS none (bookN (.tup [.int (n : Int), .tup [tupP Y, tupP Y, tupP Y, tupP Y, tupP Y, tupP Y, tupP Y, tupP Y, tupP Y, tupP Y, tupP Y, tupP Y]])) = T2 12 := rfl
  have tu : ∀ k : Int, toldS (some (("give" : Str), (11 : Int))) k = T3 "give" 11 := fun k => rfl
  rw [tt] at t12
  rw [tu] at t13
  have add3 : oAdd (.tup [tupP Y, tupP Y, tupP Y, tupP Y, tupP Y, tupP Y, tupP Y, tupP Y, tupP Y, tupP Y, tupP Y]) (.tup [.tup [.tup zs, .non]]) [l] = .ok (.tup [tupP Y, tupP Y, tupP Y, tupP Y, tupP Y, tupP Y, tupP Y, tupP Y, tupP Y, tupP Y, tupP Y, .tup [.tup zs, .non]]) [l] := add_tup (by simp only [List.length_cons, List.length_nil]; decide)
  have add4 : oAdd (.tup [tupP Y, tupP Y, tupP Y, tupP Y, tupP Y, tupP Y, tupP Y, tupP Y, tupP Y, tupP Y, tupP Y, .tup [.tup zs, .non]]) (.tup [tupP Y]) [l] = .ok (.tup [tupP Y, tupP Y, tupP Y, tupP Y, tupP Y, tupP Y, tupP Y, tupP Y, tupP Y, tupP Y, tupP Y, .tup [.tup zs, .non], tupP Y]) [l] := add_tup (by simp only [List.length_cons, List.length_nil]; decide)
  have tk11 : [tupP Y, tupP Y, tupP Y, tupP Y, tupP Y, tupP Y, tupP Y, tupP Y, tupP Y, tupP Y, tupP Y, tupP Y].take 11 = [tupP Y, tupP Y, tupP Y, tupP Y, tupP Y, tupP Y, tupP Y, tupP Y, tupP Y, tupP Y, tupP Y] := rfl
  have tk1 : [tupP Y, tupP Y, tupP Y, tupP Y, tupP Y, tupP Y, tupP Y, tupP Y, tupP Y, tupP Y, tupP Y, tupP Y].take 1 = [tupP Y] := rfl
  unfold bk9
  simp -implicitDefEqProofs only [e4, add_tup a0, sl_t1, eY, mul12, t12, g12, b12, ok_is, Option.isNone_none, Option.isNone_some, sl_11, tk11, tk1, add3, add4, t13, g11, b13, toldB, l0, gm, b0, r_dB, bind_ok, bind_ex, r_var, vk_some, List.getD_cons_zero, List.getD_cons_succ, r_dC, r_dOp, r_dUn, r_dTst, r_tst, r_dTru, r_optB, r_trub, r_truT, r_dNotT, r_dAndT, r_dOrT, r_dNot, r_dAnd, r_dOr, r_and1, r_and0, r_or1, r_or0, r_andb, r_orb, r_iteb, r_iteb2, r_raise, ix0, ix1, r_sSetIx, fl0, fl1, fl2, fl3, fs0, fs1, fs2, fs0, r_dIf, r_aNil, r_aCons, gd_t, r_dTup, r_dLst, r_dLstM, r_dSl, r_dNoP, r_dP, r_pK, r_dCB, r_dCall, r_dCallK, r_sSeq, sq_nx, sq_rt, sq_ex, sb_ok, sb_ex, r_sNil, r_sRet, r_sExpr, r_sIf, r_sSet, r_sPar, r_sAsg, r_asg, r_sFor, fn_rt, fn_nx, fn_ex, r_dIt, it_tup, it_lst, eq_int, eq_bl, eq_str, ne_str, cmp_int, add_int, sub_int, neg_int, len_tup, len_lst, tuple_lst, list_tup, i2_int, int_int, if_t, if_f, bd_nm, bd_tp, bd_nil, bd_cons, bdk, List.set_cons_zero, List.set_cons_succ, okL0, okL1, okL2, okL3, okL4, okL5, okL6, okL7, okL8, okL9, okL10, okL11, okL12, okL13, okL14, okL15, List.length_cons, List.length_nil, Nat.reduceAdd, Nat.zero_add, Nat.reduceLeDiff, Nat.reduceEqDiff, decide_true, decide_false, Bool.not_true, Bool.not_false, Bool.and_true, Bool.true_and, eq_self, List.cons_append, List.nil_append, pickL, List.map_cons, List.map_nil, ↓reduceIte, Bool.false_eq_true]
end k00

set_option Elab.async false
set_option linter.all false
set_option maxRecDepth 100000
set_option maxHeartbeats 1000000
namespace k00
open PySem DE
theorem bk6_ok {l : List D} (h : Fl l) {n m : Nat} {ov : List (D × D)} {x2 x5 x6 x7 : Option D} (hn : 1 ≤ n) (hn2 : n ≤ 5) (hm : m ≤ 5) (hl : ov.length = m) (hov : ∀ p ∈ ov, GD n p) :
    fnRes (bk6 [some (.ref 0), some (.int (n : Int)), x2, some (.tup (ov.map tupP)), some (.str (T2 m)), x5, x6, x7, none, none, none] [l]) = .ok (.bl true) [l] := by
  have hS : SL [l] := h.sl (R := []) (fun _ m => nomatch m)
  unfold bk6
  have others : ∀ (o : Option (Str × Int)), (∀ j : Int, 1 ≤ j → j ≠ n → firstV j 0 (ov.map tupP) = o) → (∀ j : Int, ∀ x5 x7 : Option D, ∀ d ∈ [D.int ((n : Int) + 1), .int (21 + (n : Int)), .int 1000], bkC ([some (.ref 0), some (.int (n : Int)), x2, some (.tup (ov.map tupP)), some (.str (T2 m)), x5, some (.str (toldS o m)), x7, none, none, none].set 8 (some d)) [l] = .nx ([some (.ref 0), some (.int (n : Int)), x2, some (.tup (ov.map tupP)), some (.str (T2 m)), x5, some (.str (toldS o m)), x7, none, none, none].set 8 (some d)) [l]) := by
    intro o ho _ x5 x7 d hd
    have hi : ∃ j : Int, d = .int j ∧ 1 ≤ j ∧ j ≠ n := by
      simp only [List.mem_cons, List.not_mem_nil, or_false] at hd
      rcases hd with rfl | rfl | rfl
      · exact ⟨_, rfl, by omega, by omega⟩
      · exact ⟨_, rfl, by omega, by omega⟩
      · exact ⟨_, rfl, by omega, by omega⟩
    obtain ⟨j, rfl, j1, j2⟩ := hi
    have p0 := pl_book (j := j) hn2 (by omega) hov
    have v0 : bookV (.tup [.int j, .tup (ov.map tupP)]) = o := by rw [bookI j1, ho j j1 j2]
    have n0 : bookN (.tup [.int j, .tup (ov.map tupP)]) = (m : Int) := by show (((ov.map tupP).length : Nat) : Int) = m; rw [List.length_map, hl]
    have t0 := told_ok p0 hS
    have b0 := ok_book p0 hS
    rw [v0] at b0
    rw [v0, n0] at t0
    have due := told_due (o := o) (n := (m : Int))
    unfold bkC
    simp -implicitDefEqProofs only [t0, b0, due, ok_is, Bool.or_false, Bool.false_or, r_dB, bind_ok, bind_ex, r_var, vk_some, List.getD_cons_zero, List.getD_cons_succ, r_dC, r_dOp, r_dUn, r_dTst, r_tst, r_dTru, r_optB, r_trub, r_truT, r_dNotT, r_dAndT, r_dOrT, r_dNot, r_dAnd, r_dOr, r_and1, r_and0, r_or1, r_or0, r_andb, r_orb, r_iteb, r_iteb2, r_raise, ix0, ix1, r_sSetIx, fl0, fl1, fl2, fl3, fs0, fs1, fs2, fs0, r_dIf, r_aNil, r_aCons, gd_t, r_dTup, r_dLst, r_dLstM, r_dSl, r_dNoP, r_dP, r_pK, r_dCB, r_dCall, r_dCallK, r_sSeq, sq_nx, sq_rt, sq_ex, sb_ok, sb_ex, r_sNil, r_sRet, r_sExpr, r_sIf, r_sSet, r_sPar, r_sAsg, r_asg, r_sFor, fn_rt, fn_nx, fn_ex, r_dIt, it_tup, it_lst, eq_int, eq_bl, eq_str, ne_str, cmp_int, add_int, sub_int, neg_int, len_tup, len_lst, tuple_lst, list_tup, i2_int, int_int, if_t, if_f, bd_nm, bd_tp, bd_nil, bd_cons, bdk, List.set_cons_zero, List.set_cons_succ, okL0, okL1, okL2, okL3, okL4, okL5, okL6, okL7, okL8, okL9, okL10, okL11, okL12, okL13, okL14, okL15, List.length_cons, List.length_nil, Nat.reduceAdd, Nat.zero_add, Nat.reduceLeDiff, Nat.reduceEqDiff, decide_true, decide_false, Bool.not_true, Bool.not_false, Bool.and_true, Bool.true_and, eq_self, List.cons_append, List.nil_append, pickL, List.map_cons, List.map_nil, ↓reduceIte, Bool.false_eq_true]
  simp -implicitDefEqProofs only [r_dB, bind_ok, bind_ex, r_var, vk_some, List.getD_cons_zero, List.getD_cons_succ, r_dC, r_dOp, r_dUn, r_dTst, r_tst, r_dTru, r_optB, r_trub, r_truT, r_dNotT, r_dAndT, r_dOrT, r_dNot, r_dAnd, r_dOr, r_and1, r_and0, r_or1, r_or0, r_andb, r_orb, r_iteb, r_iteb2, r_raise, ix0, ix1, r_sSetIx, fl0, fl1, fl2, fl3, fs0, fs1, fs2, fs0, r_dIf, r_aNil, r_aCons, gd_t, r_dTup, r_dLst, r_dLstM, r_dSl, r_dNoP, r_dP, r_pK, r_dCB, r_dCall, r_dCallK, r_sSeq, sq_nx, sq_rt, sq_ex, sb_ok, sb_ex, r_sNil, r_sRet, r_sExpr, r_sIf, r_sSet, r_sPar, r_sAsg, r_asg, r_sFor, fn_rt, fn_nx, fn_ex, r_dIt, it_tup, it_lst, eq_int, eq_bl, eq_str, ne_str, cmp_int, add_int, sub_int, neg_int, len_tup, len_lst, tuple_lst, list_tup, i2_int, int_int, if_t, if_f, bd_nm, bd_tp, bd_nil, bd_cons, bdk, List.set_cons_zero, List.set_cons_succ, okL0, okL1, okL2, okL3, okL4, okL5, okL6, okL7, okL8, okL9, okL10, okL11, okL12, okL13, okL14, okL15, List.length_cons, List.length_nil, Nat.reduceAdd, Nat.zero_add, Nat.reduceLeDiff, Nat.reduceEqDiff, decide_true, decide_false, Bool.not_true, Bool.not_false, Bool.and_true, Bool.true_and, eq_self, List.cons_append, List.nil_append, pickL, List.map_cons, List.map_nil, ↓reduceIte, Bool.false_eq_true]
  by_cases h0 : (0 : Int) < ((ov.map tupP).length : Int)
  · rw [decide_eq_true h0]
    have gt : oRepr [.tup [.str "refused", .str "take", .int 0]] [l] = .ok (.str (T3 "take" 0)) [l] := repr_T3 (by decide) (by decide) (by decide)
    have first : ∀ j : Int, 1 ≤ j → j ≠ n → firstV j 0 (ov.map tupP) = some (("take" : Str), (0 : Int)) := fun j _ hj => by
      cases ov with
      | nil => simp at h0
      | cons p r =>
        rw [List.map_cons]
        unfold firstV
        rw [gd_V2 hj (hov p List.mem_cons_self)]; rfl
    obtain ⟨x8, e⟩ := loop_same' (others _ first 0 x5 x7) rfl (by simp only [List.length_cons, List.length_nil]; decide)
    rw [show toldS (some (("take" : Str), (0 : Int))) (m : Int) = T3 "take" 0 from rfl] at e
    simp -implicitDefEqProofs only [gt, e, r_dB, bind_ok, bind_ex, r_var, vk_some, List.getD_cons_zero, List.getD_cons_succ, r_dC, r_dOp, r_dUn, r_dTst, r_tst, r_dTru, r_optB, r_trub, r_truT, r_dNotT, r_dAndT, r_dOrT, r_dNot, r_dAnd, r_dOr, r_and1, r_and0, r_or1, r_or0, r_andb, r_orb, r_iteb, r_iteb2, r_raise, ix0, ix1, r_sSetIx, fl0, fl1, fl2, fl3, fs0, fs1, fs2, fs0, r_dIf, r_aNil, r_aCons, gd_t, r_dTup, r_dLst, r_dLstM, r_dSl, r_dNoP, r_dP, r_pK, r_dCB, r_dCall, r_dCallK, r_sSeq, sq_nx, sq_rt, sq_ex, sb_ok, sb_ex, r_sNil, r_sRet, r_sExpr, r_sIf, r_sSet, r_sPar, r_sAsg, r_asg, r_sFor, fn_rt, fn_nx, fn_ex, r_dIt, it_tup, it_lst, eq_int, eq_bl, eq_str, ne_str, cmp_int, add_int, sub_int, neg_int, len_tup, len_lst, tuple_lst, list_tup, i2_int, int_int, if_t, if_f, bd_nm, bd_tp, bd_nil, bd_cons, bdk, List.set_cons_zero, List.set_cons_succ, okL0, okL1, okL2, okL3, okL4, okL5, okL6, okL7, okL8, okL9, okL10, okL11, okL12, okL13, okL14, okL15, List.length_cons, List.length_nil, Nat.reduceAdd, Nat.zero_add, Nat.reduceLeDiff, Nat.reduceEqDiff, decide_true, decide_false, Bool.not_true, Bool.not_false, Bool.and_true, Bool.true_and, eq_self, List.cons_append, List.nil_append, pickL, List.map_cons, List.map_nil, ↓reduceIte, Bool.false_eq_true]
    exact bk9_ok h hn hn2 hm hl hov
  · rw [decide_eq_false h0]
    have e0 : ov = [] := by
      rw [List.length_map] at h0
      exact List.length_eq_zero_iff.mp (by omega)
    have first : ∀ j : Int, 1 ≤ j → j ≠ n → firstV j 0 (ov.map tupP) = none := fun j _ hj => by rw [e0]; rfl
    obtain ⟨x8, e⟩ := loop_same' (others _ first 0 x5 x7) rfl (by simp only [List.length_cons, List.length_nil]; decide)
    rw [show toldS none (m : Int) = T2 m from rfl] at e
    simp -implicitDefEqProofs only [e, r_dB, bind_ok, bind_ex, r_var, vk_some, List.getD_cons_zero, List.getD_cons_succ, r_dC, r_dOp, r_dUn, r_dTst, r_tst, r_dTru, r_optB, r_trub, r_truT, r_dNotT, r_dAndT, r_dOrT, r_dNot, r_dAnd, r_dOr, r_and1, r_and0, r_or1, r_or0, r_andb, r_orb, r_iteb, r_iteb2, r_raise, ix0, ix1, r_sSetIx, fl0, fl1, fl2, fl3, fs0, fs1, fs2, fs0, r_dIf, r_aNil, r_aCons, gd_t, r_dTup, r_dLst, r_dLstM, r_dSl, r_dNoP, r_dP, r_pK, r_dCB, r_dCall, r_dCallK, r_sSeq, sq_nx, sq_rt, sq_ex, sb_ok, sb_ex, r_sNil, r_sRet, r_sExpr, r_sIf, r_sSet, r_sPar, r_sAsg, r_asg, r_sFor, fn_rt, fn_nx, fn_ex, r_dIt, it_tup, it_lst, eq_int, eq_bl, eq_str, ne_str, cmp_int, add_int, sub_int, neg_int, len_tup, len_lst, tuple_lst, list_tup, i2_int, int_int, if_t, if_f, bd_nm, bd_tp, bd_nil, bd_cons, bdk, List.set_cons_zero, List.set_cons_succ, okL0, okL1, okL2, okL3, okL4, okL5, okL6, okL7, okL8, okL9, okL10, okL11, okL12, okL13, okL14, okL15, List.length_cons, List.length_nil, Nat.reduceAdd, Nat.zero_add, Nat.reduceLeDiff, Nat.reduceEqDiff, decide_true, decide_false, Bool.not_true, Bool.not_false, Bool.and_true, Bool.true_and, eq_self, List.cons_append, List.nil_append, pickL, List.map_cons, List.map_nil, ↓reduceIte, Bool.false_eq_true]
    exact bk9_ok h hn hn2 hm hl hov
theorem books_true {l : List D} (h : Fl l) : ∃ l', F__law_books_hold [.ref 0] [l] = .ok (.bl true) [l'] ∧ Fl l' := by
  show ∃ l', fnRes (b__law_books_hold [some (.ref 0), none, none, none, none, none, none, none, none, none, none] [l]) = _ ∧ _
  rw [bk_split]
  obtain ⟨r, l1, e1, f1, a1, a2⟩ := draw_ok h (m := 5) (by decide) (by decide) []
  obtain ⟨r, rfl⟩ := Int.eq_ofNat_of_zero_le a1
  obtain ⟨n, hn⟩ : ∃ n : Nat, n = 1 + r := ⟨_, rfl⟩
  have en : (1 : Int) + (r : Int) = (n : Int) := by omega
  obtain ⟨s, l2, e2, f2, b1, b2⟩ := draw_ok f1 (m := 6) (by decide) (by decide) []
  obtain ⟨m, rfl⟩ := Int.eq_ofNat_of_zero_le b1
  have er : dRng1 (aCons (dCall 2 F__law_draw (aCons (dV 0) (aCons (dC (.int 6)) aNil))) aNil) [some (.ref 0), some (.int (n : Int)), none, none, none, none, none, none, none, none, none] [l1] = .ok (rngD 0 (m : Int), none) [l2] := rng_run (by simp -implicitDefEqProofs only [e2, r_dB, bind_ok, bind_ex, r_var, vk_some, List.getD_cons_zero, List.getD_cons_succ, r_dC, r_dOp, r_dUn, r_dTst, r_tst, r_dTru, r_optB, r_trub, r_truT, r_dNotT, r_dAndT, r_dOrT, r_dNot, r_dAnd, r_dOr, r_and1, r_and0, r_or1, r_or0, r_andb, r_orb, r_iteb, r_iteb2, r_raise, ix0, ix1, r_sSetIx, fl0, fl1, fl2, fl3, fs0, fs1, fs2, fs0, r_dIf, r_aNil, r_aCons, gd_t, r_dTup, r_dLst, r_dLstM, r_dSl, r_dNoP, r_dP, r_pK, r_dCB, r_dCall, r_dCallK, r_sSeq, sq_nx, sq_rt, sq_ex, sb_ok, sb_ex, r_sNil, r_sRet, r_sExpr, r_sIf, r_sSet, r_sPar, r_sAsg, r_asg, r_sFor, fn_rt, fn_nx, fn_ex, r_dIt, it_tup, it_lst, eq_int, eq_bl, eq_str, ne_str, cmp_int, add_int, sub_int, neg_int, len_tup, len_lst, tuple_lst, list_tup, i2_int, int_int, if_t, if_f, bd_nm, bd_tp, bd_nil, bd_cons, bdk, List.set_cons_zero, List.set_cons_succ, okL0, okL1, okL2, okL3, okL4, okL5, okL6, okL7, okL8, okL9, okL10, okL11, okL12, okL13, okL14, okL15, List.length_cons, List.length_nil, Nat.reduceAdd, Nat.zero_add, Nat.reduceLeDiff, Nat.reduceEqDiff, decide_true, decide_false, Bool.not_true, Bool.not_false, Bool.and_true, Bool.true_and, eq_self, List.cons_append, List.nil_append, pickL, List.map_cons, List.map_nil, ↓reduceIte, Bool.false_eq_true]) (by omega)
  obtain ⟨vs, S', e3, ⟨l3, rfl, f3⟩, hl, hv⟩ := lc_inv2 (t := .nm 2) (fe := dTup (aCons (dCall 2 F__law_numbers (aCons (dV 0) (aCons (dV 1) aNil))) (aCons (dCall 2 F__law_numbers (aCons (dV 0) (aCons (dV 1) aNil))) aNil))) (ρ := wipeR [some (.ref 0), some (.int (n : Int)), none, none, none, none, none, none, none, none, none] [2])
    (fun S => ∃ l', S = [l'] ∧ Fl l') (fun v => ∃ p, GD n p ∧ v = tupP p) 1 (fun S ⟨l', e, _⟩ => by rw [e]; rfl) (rngD 0 (m : Int)) (rngD 0 (m : Int)) [l2] [] ⟨l2, rfl, f2⟩ (fun v hv => nomatch hv) (by rw [rng_len, List.length_nil]; omega) (by
      intro d hd S acc ⟨l3, e, f3⟩ ha hal
      subst e
      have hA : SL [acc] := fun ds m => by
        rw [List.mem_singleton.mp m]
        exact pls_of fun d hd => by
          obtain ⟨p, hp, rfl⟩ := ha d hd
          exact gd_pl (by omega) hp
      obtain ⟨us, l4, e4, f4, u1, u2⟩ := numbers_ok f3 (n := n) (by omega) hA
      obtain ⟨ws, l5, e5, f5, w1, w2⟩ := numbers_ok f4 (n := n) (by omega) hA
      refine ⟨[some (.ref 0), some (.int (n : Int)), some d, none, none, none, none, none, none, none, none], rfl, .tup [.tup us, .tup ws], [l5], ?_, ⟨l5, rfl, f5⟩, (.tup us, .tup ws), ⟨us, ws, rfl, u2, u1, w2, w1⟩, rfl⟩
      show dTup _ _ (l3 :: [acc]) = .ok _ (l5 :: [acc])
      simp -implicitDefEqProofs only [e4, e5, r_dB, bind_ok, bind_ex, r_var, vk_some, List.getD_cons_zero, List.getD_cons_succ, r_dC, r_dOp, r_dUn, r_dTst, r_tst, r_dTru, r_optB, r_trub, r_truT, r_dNotT, r_dAndT, r_dOrT, r_dNot, r_dAnd, r_dOr, r_and1, r_and0, r_or1, r_or0, r_andb, r_orb, r_iteb, r_iteb2, r_raise, ix0, ix1, r_sSetIx, fl0, fl1, fl2, fl3, fs0, fs1, fs2, fs0, r_dIf, r_aNil, r_aCons, gd_t, r_dTup, r_dLst, r_dLstM, r_dSl, r_dNoP, r_dP, r_pK, r_dCB, r_dCall, r_dCallK, r_sSeq, sq_nx, sq_rt, sq_ex, sb_ok, sb_ex, r_sNil, r_sRet, r_sExpr, r_sIf, r_sSet, r_sPar, r_sAsg, r_asg, r_sFor, fn_rt, fn_nx, fn_ex, r_dIt, it_tup, it_lst, eq_int, eq_bl, eq_str, ne_str, cmp_int, add_int, sub_int, neg_int, len_tup, len_lst, tuple_lst, list_tup, i2_int, int_int, if_t, if_f, bd_nm, bd_tp, bd_nil, bd_cons, bdk, List.set_cons_zero, List.set_cons_succ, okL0, okL1, okL2, okL3, okL4, okL5, okL6, okL7, okL8, okL9, okL10, okL11, okL12, okL13, okL14, okL15, List.length_cons, List.length_nil, Nat.reduceAdd, Nat.zero_add, Nat.reduceLeDiff, Nat.reduceEqDiff, decide_true, decide_false, Bool.not_true, Bool.not_false, Bool.and_true, Bool.true_and, eq_self, List.cons_append, List.nil_append, pickL, List.map_cons, List.map_nil, ↓reduceIte, Bool.false_eq_true]) (by rw [rng_len, List.length_nil]; omega)
  obtain ⟨ov, rfl, hov⟩ := gd_list hv
  rw [List.length_map, rng_len] at hl
  have hS : SL [l3] := f3.sl (R := []) (fun _ m => nomatch m)
  have ed : dLc finI (dRng1 (aCons (dCall 2 F__law_draw (aCons (dV 0) (aCons (dC (.int 6)) aNil))) aNil)) (.nm 2) dYes (dTup (aCons (dCall 2 F__law_numbers (aCons (dV 0) (aCons (dV 1) aNil))) (aCons (dCall 2 F__law_numbers (aCons (dV 0) (aCons (dV 1) aNil))) aNil))) [2] [some (.ref 0), some (.int (n : Int)), none, none, none, none, none, none, none, none, none] [l1] = .ok (.lst (ov.map tupP)) [l3] := by
    unfold dLc
    rw [r_dB, er, bind_ok]
    dsimp only
    rw [show [l2].length = 1 from rfl, e3, bind_ok]
    unfold finI
    have q1 : ([l3] ++ [[] ++ ov.map tupP])[1]? = some (ov.map tupP) := by simp
    have q2 : ([l3] ++ [[] ++ ov.map tupP]).take 1 = [l3] := by simp
    simp only [q1, q2]
    rw [r_guard (by rw [pls_low _ (pls_of fun d hd => by
      obtain ⟨p, hp, rfl⟩ := List.mem_map.mp hd
      exact gd_pl (by omega) (hov p hp)), hS.low]; rfl)]
  have n1 : 1 ≤ n := by omega
  have n5 : n ≤ 5 := by omega
  have m5 : m ≤ 5 := by omega
  have p0 := pl_book (j := (n : Int)) n5 (by omega) hov
  have v0 : bookV (.tup [.int (n : Int), .tup (ov.map tupP)]) = none := by rw [bookI (by omega), good_V hov]
  have n0 : bookN (.tup [.int (n : Int), .tup (ov.map tupP)]) = (m : Int) := by show (((ov.map tupP).length : Nat) : Int) = m; rw [List.length_map, hl]
  have t0 := told_ok p0 hS
  have b0 := ok_book p0 hS
  rw [v0] at b0
  rw [v0, n0] at t0
  rw [show toldS none (m : Int) = T2 m from rfl] at t0
  have gm : oRepr [.tup [.str "told", .int (((ov.map tupP).length : Nat) : Int)]] [l3] = .ok (.str (T2 m)) [l3] := by
    rw [List.length_map, hl]
    exact repr_T2 (by omega) (by omega)
  have er2 : ∀ x : Unit, dRng1 (aCons (dC (.int 10)) aNil) [some (.ref 0), some (.int (n : Int)), none, some (.tup (ov.map tupP)), some (.str (T2 m)), none, none, none, none, none, none] [l3] = .ok (rngD 0 ((10 : Nat) : Int), none) [l3] := fun _ => rng_run rfl (by decide)
  obtain ⟨ρ', S', e9, x2, x5, x6, x7, l9, rfl, rfl, f9⟩ := loop_inv (t := .nm 2) (body := bkB) (fun ρ S => ∃ x2 x5 x6 x7 l', ρ = [some (.ref 0), some (.int (n : Int)), x2, some (.tup (ov.map tupP)), some (.str (T2 m)), x5, x6, x7, none, none, none] ∧ S = [l'] ∧ Fl l') (rngD 0 ((10 : Nat) : Int))
    [some (.ref 0), some (.int (n : Int)), none, some (.tup (ov.map tupP)), some (.str (T2 m)), none, none, none, none, none, none] [l3] ⟨none, none, none, none, l3, rfl, rfl, f3⟩ (by
      intro d hd ρ S ⟨x2, x5, x6, x7, l', e1, e2, f⟩
      subst e1 e2
      obtain ⟨y5, y6, y7, l4, e, f4⟩ := bkB_ok f (x2 := some d) (x5 := x5) (x6 := x6) (x7 := x7) n1 n5 m5 hl hov
      exact ⟨_, rfl, _, _, e, some d, y5, y6, y7, l4, rfl, rfl, f4⟩)
  simp -implicitDefEqProofs only [e1, en, ed, gm, t0, b0, ok_is, Option.isNone_none, er2 (), e9, r_dB, bind_ok, bind_ex, r_var, vk_some, List.getD_cons_zero, List.getD_cons_succ, r_dC, r_dOp, r_dUn, r_dTst, r_tst, r_dTru, r_optB, r_trub, r_truT, r_dNotT, r_dAndT, r_dOrT, r_dNot, r_dAnd, r_dOr, r_and1, r_and0, r_or1, r_or0, r_andb, r_orb, r_iteb, r_iteb2, r_raise, ix0, ix1, r_sSetIx, fl0, fl1, fl2, fl3, fs0, fs1, fs2, fs0, r_dIf, r_aNil, r_aCons, gd_t, r_dTup, r_dLst, r_dLstM, r_dSl, r_dNoP, r_dP, r_pK, r_dCB, r_dCall, r_dCallK, r_sSeq, sq_nx, sq_rt, sq_ex, sb_ok, sb_ex, r_sNil, r_sRet, r_sExpr, r_sIf, r_sSet, r_sPar, r_sAsg, r_asg, r_sFor, fn_rt, fn_nx, fn_ex, r_dIt, it_tup, it_lst, eq_int, eq_bl, eq_str, ne_str, cmp_int, add_int, sub_int, neg_int, len_tup, len_lst, tuple_lst, list_tup, i2_int, int_int, if_t, if_f, bd_nm, bd_tp, bd_nil, bd_cons, bdk, List.set_cons_zero, List.set_cons_succ, okL0, okL1, okL2, okL3, okL4, okL5, okL6, okL7, okL8, okL9, okL10, okL11, okL12, okL13, okL14, okL15, List.length_cons, List.length_nil, Nat.reduceAdd, Nat.zero_add, Nat.reduceLeDiff, Nat.reduceEqDiff, decide_true, decide_false, Bool.not_true, Bool.not_false, Bool.and_true, Bool.true_and, eq_self, List.cons_append, List.nil_append, pickL, List.map_cons, List.map_nil, ↓reduceIte, Bool.false_eq_true]
  exact ⟨l9, bk6_ok f9 n1 n5 m5 hl hov, f9⟩
theorem law_true (ns : List Int) (hn : ns.length ≤ 63) : ∃ S, F_law [.fr (ns.map D.int)] [] = .ok (.bl true) S := by
  have h0 : Fl [.int 0, .int 0, .int (104729 + 31 * ((ns.map D.int).length : Int)), .lst (ns.map D.int)] := ⟨0, 0, _, ns, rfl, by decide, by decide, by omega, by rw [List.length_map]; omega, hn⟩
  have nil : SL [] := fun _ m => nomatch m
  obtain ⟨l1, e1, f1⟩ := integers_true h0 (R := [])
  obtain ⟨l2, e2, f2⟩ := quotients_true f1 nil
  obtain ⟨l3, e3, f3⟩ := rows_true f2 nil
  obtain ⟨l4, e4, f4⟩ := lots_true f3 nil
  obtain ⟨l5, e5, f5⟩ := deeds_true f4 nil
  obtain ⟨l6, e6, f6⟩ := books_true f5
  have el : oLen [.fr (ns.map D.int)] [] = .ok (.int ((ns.map D.int).length)) [] := rfl
  have ei : oList [.fr (ns.map D.int)] [] = .ok (.lst (ns.map D.int)) [] := rfl
  refine ⟨[], ?_⟩
  show cutRes 0 (fnRes (b_law [some (.fr (ns.map D.int)), none] [])) = _
  unfold b_law
  simp -implicitDefEqProofs only [el, ei, mul_left (i := 31) (by decide), e1, e2, e3, e4, e5, e6, r_dB, bind_ok, bind_ex, r_var, vk_some, List.getD_cons_zero, List.getD_cons_succ, r_dC, r_dOp, r_dUn, r_dTst, r_tst, r_dTru, r_optB, r_trub, r_truT, r_dNotT, r_dAndT, r_dOrT, r_dNot, r_dAnd, r_dOr, r_and1, r_and0, r_or1, r_or0, r_andb, r_orb, r_iteb, r_iteb2, r_raise, ix0, ix1, r_sSetIx, fl0, fl1, fl2, fl3, fs0, fs1, fs2, fs0, r_dIf, r_aNil, r_aCons, gd_t, r_dTup, r_dLst, r_dLstM, r_dSl, r_dNoP, r_dP, r_pK, r_dCB, r_dCall, r_dCallK, r_sSeq, sq_nx, sq_rt, sq_ex, sb_ok, sb_ex, r_sNil, r_sRet, r_sExpr, r_sIf, r_sSet, r_sPar, r_sAsg, r_asg, r_sFor, fn_rt, fn_nx, fn_ex, r_dIt, it_tup, it_lst, eq_int, eq_bl, eq_str, ne_str, cmp_int, add_int, sub_int, neg_int, len_tup, len_lst, tuple_lst, list_tup, i2_int, int_int, if_t, if_f, bd_nm, bd_tp, bd_nil, bd_cons, bdk, List.set_cons_zero, List.set_cons_succ, okL0, okL1, okL2, okL3, okL4, okL5, okL6, okL7, okL8, okL9, okL10, okL11, okL12, okL13, okL14, okL15, List.length_cons, List.length_nil, Nat.reduceAdd, Nat.zero_add, Nat.reduceLeDiff, Nat.reduceEqDiff, decide_true, decide_false, Bool.not_true, Bool.not_false, Bool.and_true, Bool.true_and, eq_self, List.cons_append, List.nil_append, pickL, List.map_cons, List.map_nil, ↓reduceIte, Bool.false_eq_true]
  rfl
end k00

set_option Elab.async false
set_option linter.all false
set_option maxRecDepth 100000
namespace DE
open PySem PySem.Spec L2
open PyProof.Rows hiding St
/-- a def stands in the text -/
def DefAt (K : PySem.W.Frag) (x : Str) (st : Stmt) : Prop := ∃ f fd, PySem.W.nsIn K mainGlobals x = some (some (.ref f)) ∧ Fun K x x st f fd
theorem defAt_mk {K : PySem.W.Frag} {x : Str} {st : Stmt} {f : Addr} {oc : Value} {od an : Option Addr} {osl : Array (Option Value)} {kV doc pm cdv ct : Value} (a : PySem.W.nsIn K mainGlobals x = some (some (.ref f)))
    (l : K.lookup f = some ⟨oc, od, .func (PySem.W.fnOf x x (defArgs st) (defBody st) (defScope st) .none kV doc pm an cdv ct), osl⟩) (c : PySem.W.codeIn K cdv x = true) (k : PySem.W.keepIn K (.ref f) = true) : DefAt K x st :=
  ⟨f, _, a, fun_mk l c k⟩
/-- an own class of errors, with its __init__ -/
structure ErrAt (K : PySem.W.Frag) (x : Str) (st : Stmt) (ks : List Str) (q : Str) (C fI : Addr) (fdI : FuncData) : Prop where
  a : PySem.W.nsIn K mainGlobals x = some (some (.ref C))
  oex : OexC K C
  init : PySem.W.findIn K (.ref C) "__init__" = some (some (.ref fI))
  ty : PySem.W.typeIn K (.ref fI) = some (.type "function")
  no : ∀ f ∈ ks, PySem.W.findIn K (.ref C) f = some none
  fn : Fun K "__init__" q st fI fdI
theorem oex_mk {K : PySem.W.Frag} {C : Addr} {nm q : Str} {N : Addr} {bs bm : List Value} {sn : List Str} {sub : List Value} {ab : Bool} {col : Option Bool} {dd : Option Addr} {k0 k1 k2 k3 k5 : Option Value}
    (xL : K.lookup C = some (excClassObj nm q C N bs bm true sn sub ab col dd k0 k1 k2 k3 k5 "ValueError.__new__")) (hb : PySem.HandSPX.refsVE bm = true)
    (sa : PySem.W.findIn K (.ref C) "__setattr__" = some (some (.builtin "object.__setattr__"))) (eC : PySem.W.subIn K (.ref C) (.type "BaseException") = some true) (tC : PySem.W.typeIn K (.ref C) = some (.type "type")) (kC : PySem.W.keepIn K (.ref C) = true) : OexC K C :=
  ⟨⟨nm, q, N, bs, bm, sn, sub, ab, col, dd, k0, k1, k2, k3, k5, xL, hb⟩, sa, eC, tC, kC⟩
end DE
namespace k00
open PySem PySem.Spec L2 DE
open PyProof.Rows hiding St
set_option maxHeartbeats 8000000 in
theorem all_mk {P : Program} {wd : World} {K : PySem.W.Frag} {h : Heap} {mg : Str → Option Value} {fa : Addr} (X : K.In h) (G : h.Ns mainGlobals mg) (hfa : mg "law" = some (.ref fa))
    {C2 C3 C4 C5 : Addr} {I5 : Addr} {J5 : FuncData}
    (d7 : DefAt K "is_integer" (topS 7))
    (d16 : DefAt K "is_pair" (topS 16))
    (d25 : DefAt K "_law_draw" (topS 25))
    (d30 : DefAt K "_law_is" (topS 30))
    (d36 : DefAt K "_law_no_pairs" (topS 36))
    (d8 : DefAt K "is_number" (topS 8))
    (d17 : DefAt K "is_whole" (topS 17))
    (d26 : DefAt K "_law_number" (topS 26))
    (d29 : DefAt K "_law_no_prices" (topS 29))
    (d35 : DefAt K "_law_bad_numbers" (topS 35))
    (d10 : DefAt K "is_price" (topS 10))
    (d14 : DefAt K "is_ascending" (topS 14))
    (d18 : DefAt K "is_numbers" (topS 18))
    (d27 : DefAt K "_law_numbers" (topS 27))
    (d28 : DefAt K "_law_coprime" (topS 28))
    (d39 : DefAt K "_law_spoilt" (topS 39))
    (d9 : DefAt K "is_quotient" (topS 9))
    (d12 : DefAt K "is_row" (topS 12))
    (d13 : DefAt K "is_lot" (topS 13))
    (d20 : DefAt K "is_deed" (topS 20))
    (d21 : DefAt K "check_deed" (topS 21))
    (d11 : DefAt K "is_fill" (topS 11))
    (d22 : DefAt K "lets_book" (topS 22))
    (d23 : DefAt K "is_book" (topS 23))
    (d31 : DefAt K "_law_integers_hold" (topS 31))
    (d34 : DefAt K "_law_lots_hold" (topS 34))
    (d37 : DefAt K "_law_deeds_hold" (topS 37))
    (d32 : DefAt K "_law_quotients_hold" (topS 32))
    (d33 : DefAt K "_law_rows_hold" (topS 33))
    (d38 : DefAt K "_law_told" (topS 38))
    (d40 : DefAt K "_law_books_hold" (topS 40))
    (d41 : DefAt K "law" (topS 41))
    (n_ValueError : PySem.W.nsIn K mainGlobals "ValueError" = some none)
    (n_all : PySem.W.nsIn K mainGlobals "all" = some none)
    (n_bool : PySem.W.nsIn K mainGlobals "bool" = some none)
    (n_enumerate : PySem.W.nsIn K mainGlobals "enumerate" = some none)
    (n_int : PySem.W.nsIn K mainGlobals "int" = some none)
    (n_isinstance : PySem.W.nsIn K mainGlobals "isinstance" = some none)
    (n_len : PySem.W.nsIn K mainGlobals "len" = some none)
    (n_list : PySem.W.nsIn K mainGlobals "list" = some none)
    (n_max : PySem.W.nsIn K mainGlobals "max" = some none)
    (n_min : PySem.W.nsIn K mainGlobals "min" = some none)
    (n_range : PySem.W.nsIn K mainGlobals "range" = some none)
    (n_repr : PySem.W.nsIn K mainGlobals "repr" = some none)
    (n_str : PySem.W.nsIn K mainGlobals "str" = some none)
    (n_tuple : PySem.W.nsIn K mainGlobals "tuple" = some none)
    (n_zip : PySem.W.nsIn K mainGlobals "zip" = some none)
    (n_gcd : PySem.W.nsIn K mainGlobals "gcd" = some (some (.builtin "math.gcd")))
    (a2 : PySem.W.nsIn K mainGlobals "HadError" = some (some (.ref C2)))
    (a3 : PySem.W.nsIn K mainGlobals "PaperError" = some (some (.ref C3)))
    (a4 : PySem.W.nsIn K mainGlobals "BookError" = some (some (.ref C4)))
    (e5 : ErrAt K "InvalidPaper" (inClass (topS 5) 0) ["word", "at"] "InvalidPaper.__init__" C5 I5 J5)
    (xc_InvalidPaper : L2.ExcC K C5) (xf_InvalidPaper : XfC K C5)
    (e_InvalidPaper_InvalidPaper : PySem.W.exmOne K (.ref C5) (.ref C5) = some true)
    (i_InvalidPaper_BookError : PySem.W.kitOne K (.ref C5) (.ref C4) = some false)
    (i_InvalidPaper_HadError : PySem.W.kitOne K (.ref C5) (.ref C2) = some true)
    (i_InvalidPaper_PaperError : PySem.W.kitOne K (.ref C5) (.ref C3) = some true)
    (i_InvalidPaper_ValueError : PySem.W.kitOne K (.ref C5) (.type "ValueError") = some true) :
    ∃ fd : FuncData, (∀ (s : Shared) (u : Value), BindsTo s fd ⟨[u], []⟩ [("_law_script", u)]) ∧ ∀ base : Heap, K.In base → base.Ns mainGlobals mg → FnG P wd K mg base 8 fa fd ["_law_script"] (SpF ⟨K, mg, none⟩ 1 F_law) := by
  obtain ⟨f7, g7, m7, u7⟩ := d7
  obtain ⟨f16, g16, m16, u16⟩ := d16
  obtain ⟨f25, g25, m25, u25⟩ := d25
  obtain ⟨f30, g30, m30, u30⟩ := d30
  obtain ⟨f36, g36, m36, u36⟩ := d36
  obtain ⟨f8, g8, m8, u8⟩ := d8
  obtain ⟨f17, g17, m17, u17⟩ := d17
  obtain ⟨f26, g26, m26, u26⟩ := d26
  obtain ⟨f29, g29, m29, u29⟩ := d29
  obtain ⟨f35, g35, m35, u35⟩ := d35
  obtain ⟨f10, g10, m10, u10⟩ := d10
  obtain ⟨f14, g14, m14, u14⟩ := d14
  obtain ⟨f18, g18, m18, u18⟩ := d18
  obtain ⟨f27, g27, m27, u27⟩ := d27
  obtain ⟨f28, g28, m28, u28⟩ := d28
  obtain ⟨f39, g39, m39, u39⟩ := d39
  obtain ⟨f9, g9, m9, u9⟩ := d9
  obtain ⟨f12, g12, m12, u12⟩ := d12
  obtain ⟨f13, g13, m13, u13⟩ := d13
  obtain ⟨f20, g20, m20, u20⟩ := d20
  obtain ⟨f21, g21, m21, u21⟩ := d21
  obtain ⟨f11, g11, m11, u11⟩ := d11
  obtain ⟨f22, g22, m22, u22⟩ := d22
  obtain ⟨f23, g23, m23, u23⟩ := d23
  obtain ⟨f31, g31, m31, u31⟩ := d31
  obtain ⟨f34, g34, m34, u34⟩ := d34
  obtain ⟨f37, g37, m37, u37⟩ := d37
  obtain ⟨f32, g32, m32, u32⟩ := d32
  obtain ⟨f33, g33, m33, u33⟩ := d33
  obtain ⟨f38, g38, m38, u38⟩ := d38
  obtain ⟨f40, g40, m40, u40⟩ := d40
  obtain ⟨f41, g41, m41, u41⟩ := d41
  have e := hfa.symm.trans (PySem.W.mg_of X G m41)
  cases e
  have bb7 : ∀ (s : Shared) (us : List Value), us.length = (["thing"] : List Str).length → BindsTo s g7 ⟨us, []⟩ ((["thing"] : List Str).zip us) := by
    obtain ⟨oc, od, kV, doc, pm, an, cdv, ct, osl, rfl, lk, hcd⟩ := u7.ex
    exact fun s us hu => match us, hu with | [_], _ => .of_eq rfl
  have bb16 : ∀ (s : Shared) (us : List Value), us.length = (["thing"] : List Str).length → BindsTo s g16 ⟨us, []⟩ ((["thing"] : List Str).zip us) := by
    obtain ⟨oc, od, kV, doc, pm, an, cdv, ct, osl, rfl, lk, hcd⟩ := u16.ex
    exact fun s us hu => match us, hu with | [_], _ => .of_eq rfl
  have bb25 : ∀ (s : Shared) (us : List Value), us.length = (["_law_flow", "_law_many"] : List Str).length → BindsTo s g25 ⟨us, []⟩ ((["_law_flow", "_law_many"] : List Str).zip us) := by
    obtain ⟨oc, od, kV, doc, pm, an, cdv, ct, osl, rfl, lk, hcd⟩ := u25.ex
    exact fun s us hu => match us, hu with | [_, _], _ => .of_eq rfl
  have bb30 : ∀ (s : Shared) (us : List Value), us.length = (["_law_actual", "_law_due"] : List Str).length → BindsTo s g30 ⟨us, []⟩ ((["_law_actual", "_law_due"] : List Str).zip us) := by
    obtain ⟨oc, od, kV, doc, pm, an, cdv, ct, osl, rfl, lk, hcd⟩ := u30.ex
    exact fun s us hu => match us, hu with | [_, _], _ => .of_eq rfl
  have bb36 : ∀ (s : Shared) (us : List Value), us.length = (["_law_take", "_law_give"] : List Str).length → BindsTo s g36 ⟨us, []⟩ ((["_law_take", "_law_give"] : List Str).zip us) := by
    obtain ⟨oc, od, kV, doc, pm, an, cdv, ct, osl, rfl, lk, hcd⟩ := u36.ex
    exact fun s us hu => match us, hu with | [_, _], _ => .of_eq rfl
  have bb8 : ∀ (s : Shared) (us : List Value), us.length = (["thing"] : List Str).length → BindsTo s g8 ⟨us, []⟩ ((["thing"] : List Str).zip us) := by
    obtain ⟨oc, od, kV, doc, pm, an, cdv, ct, osl, rfl, lk, hcd⟩ := u8.ex
    exact fun s us hu => match us, hu with | [_], _ => .of_eq rfl
  have bb17 : ∀ (s : Shared) (us : List Value), us.length = (["thing"] : List Str).length → BindsTo s g17 ⟨us, []⟩ ((["thing"] : List Str).zip us) := by
    obtain ⟨oc, od, kV, doc, pm, an, cdv, ct, osl, rfl, lk, hcd⟩ := u17.ex
    exact fun s us hu => match us, hu with | [_], _ => .of_eq rfl
  have bb26 : ∀ (s : Shared) (us : List Value), us.length = (["_law_flow"] : List Str).length → BindsTo s g26 ⟨us, []⟩ ((["_law_flow"] : List Str).zip us) := by
    obtain ⟨oc, od, kV, doc, pm, an, cdv, ct, osl, rfl, lk, hcd⟩ := u26.ex
    exact fun s us hu => match us, hu with | [_], _ => .of_eq rfl
  have bb29 : ∀ (s : Shared) (us : List Value), us.length = (["_law_flow", "_law_one"] : List Str).length → BindsTo s g29 ⟨us, []⟩ ((["_law_flow", "_law_one"] : List Str).zip us) := by
    obtain ⟨oc, od, kV, doc, pm, an, cdv, ct, osl, rfl, lk, hcd⟩ := u29.ex
    exact fun s us hu => match us, hu with | [_, _], _ => .of_eq rfl
  have bb35 : ∀ (s : Shared) (us : List Value), us.length = (["_law_flow", "_law_good"] : List Str).length → BindsTo s g35 ⟨us, []⟩ ((["_law_flow", "_law_good"] : List Str).zip us) := by
    obtain ⟨oc, od, kV, doc, pm, an, cdv, ct, osl, rfl, lk, hcd⟩ := u35.ex
    exact fun s us hu => match us, hu with | [_, _], _ => .of_eq rfl
  have bb10 : ∀ (s : Shared) (us : List Value), us.length = (["thing"] : List Str).length → BindsTo s g10 ⟨us, []⟩ ((["thing"] : List Str).zip us) := by
    obtain ⟨oc, od, kV, doc, pm, an, cdv, ct, osl, rfl, lk, hcd⟩ := u10.ex
    exact fun s us hu => match us, hu with | [_], _ => .of_eq rfl
  have bb14 : ∀ (s : Shared) (us : List Value), us.length = (["thing"] : List Str).length → BindsTo s g14 ⟨us, []⟩ ((["thing"] : List Str).zip us) := by
    obtain ⟨oc, od, kV, doc, pm, an, cdv, ct, osl, rfl, lk, hcd⟩ := u14.ex
    exact fun s us hu => match us, hu with | [_], _ => .of_eq rfl
  have bb18 : ∀ (s : Shared) (us : List Value), us.length = (["many", "thing"] : List Str).length → BindsTo s g18 ⟨us, []⟩ ((["many", "thing"] : List Str).zip us) := by
    obtain ⟨oc, od, kV, doc, pm, an, cdv, ct, osl, rfl, lk, hcd⟩ := u18.ex
    exact fun s us hu => match us, hu with | [_, _], _ => .of_eq rfl
  have bb27 : ∀ (s : Shared) (us : List Value), us.length = (["_law_flow", "_law_size"] : List Str).length → BindsTo s g27 ⟨us, []⟩ ((["_law_flow", "_law_size"] : List Str).zip us) := by
    obtain ⟨oc, od, kV, doc, pm, an, cdv, ct, osl, rfl, lk, hcd⟩ := u27.ex
    exact fun s us hu => match us, hu with | [_, _], _ => .of_eq rfl
  have bb28 : ∀ (s : Shared) (us : List Value), us.length = (["_law_flow"] : List Str).length → BindsTo s g28 ⟨us, []⟩ ((["_law_flow"] : List Str).zip us) := by
    obtain ⟨oc, od, kV, doc, pm, an, cdv, ct, osl, rfl, lk, hcd⟩ := u28.ex
    exact fun s us hu => match us, hu with | [_], _ => .of_eq rfl
  have bb39 : ∀ (s : Shared) (us : List Value), us.length = (["_law_flow", "_law_size", "_law_deeds"] : List Str).length → BindsTo s g39 ⟨us, []⟩ ((["_law_flow", "_law_size", "_law_deeds"] : List Str).zip us) := by
    obtain ⟨oc, od, kV, doc, pm, an, cdv, ct, osl, rfl, lk, hcd⟩ := u39.ex
    exact fun s us hu => match us, hu with | [_, _, _], _ => .of_eq rfl
  have bb9 : ∀ (s : Shared) (us : List Value), us.length = (["thing"] : List Str).length → BindsTo s g9 ⟨us, []⟩ ((["thing"] : List Str).zip us) := by
    obtain ⟨oc, od, kV, doc, pm, an, cdv, ct, osl, rfl, lk, hcd⟩ := u9.ex
    exact fun s us hu => match us, hu with | [_], _ => .of_eq rfl
  have bb12 : ∀ (s : Shared) (us : List Value), us.length = (["size", "thing"] : List Str).length → BindsTo s g12 ⟨us, []⟩ ((["size", "thing"] : List Str).zip us) := by
    obtain ⟨oc, od, kV, doc, pm, an, cdv, ct, osl, rfl, lk, hcd⟩ := u12.ex
    exact fun s us hu => match us, hu with | [_, _], _ => .of_eq rfl
  have bb13 : ∀ (s : Shared) (us : List Value), us.length = (["size", "thing"] : List Str).length → BindsTo s g13 ⟨us, []⟩ ((["size", "thing"] : List Str).zip us) := by
    obtain ⟨oc, od, kV, doc, pm, an, cdv, ct, osl, rfl, lk, hcd⟩ := u13.ex
    exact fun s us hu => match us, hu with | [_, _], _ => .of_eq rfl
  have bb20 : ∀ (s : Shared) (us : List Value), us.length = (["size", "thing"] : List Str).length → BindsTo s g20 ⟨us, []⟩ ((["size", "thing"] : List Str).zip us) := by
    obtain ⟨oc, od, kV, doc, pm, an, cdv, ct, osl, rfl, lk, hcd⟩ := u20.ex
    exact fun s us hu => match us, hu with | [_, _], _ => .of_eq rfl
  have bb21 : ∀ (s : Shared) (us : List Value), us.length = (["size", "deed", "place"] : List Str).length → BindsTo s g21 ⟨us, []⟩ ((["size", "deed", "place"] : List Str).zip us) := by
    obtain ⟨oc, od, kV, doc, pm, an, cdv, ct, osl, rfl, lk, hcd⟩ := u21.ex
    exact fun s us hu => match us, hu with | [_, _, _], _ => .of_eq rfl
  have bb11 : ∀ (s : Shared) (us : List Value), us.length = (["size", "thing"] : List Str).length → BindsTo s g11 ⟨us, []⟩ ((["size", "thing"] : List Str).zip us) := by
    obtain ⟨oc, od, kV, doc, pm, an, cdv, ct, osl, rfl, lk, hcd⟩ := u11.ex
    exact fun s us hu => match us, hu with | [_, _], _ => .of_eq rfl
  have bb22 : ∀ (s : Shared) (us : List Value), us.length = (["thing"] : List Str).length → BindsTo s g22 ⟨us, []⟩ ((["thing"] : List Str).zip us) := by
    obtain ⟨oc, od, kV, doc, pm, an, cdv, ct, osl, rfl, lk, hcd⟩ := u22.ex
    exact fun s us hu => match us, hu with | [_], _ => .of_eq rfl
  have bb23 : ∀ (s : Shared) (us : List Value), us.length = (["thing"] : List Str).length → BindsTo s g23 ⟨us, []⟩ ((["thing"] : List Str).zip us) := by
    obtain ⟨oc, od, kV, doc, pm, an, cdv, ct, osl, rfl, lk, hcd⟩ := u23.ex
    exact fun s us hu => match us, hu with | [_], _ => .of_eq rfl
  have bb31 : ∀ (s : Shared) (us : List Value), us.length = (["_law_flow"] : List Str).length → BindsTo s g31 ⟨us, []⟩ ((["_law_flow"] : List Str).zip us) := by
    obtain ⟨oc, od, kV, doc, pm, an, cdv, ct, osl, rfl, lk, hcd⟩ := u31.ex
    exact fun s us hu => match us, hu with | [_], _ => .of_eq rfl
  have bb34 : ∀ (s : Shared) (us : List Value), us.length = (["_law_flow"] : List Str).length → BindsTo s g34 ⟨us, []⟩ ((["_law_flow"] : List Str).zip us) := by
    obtain ⟨oc, od, kV, doc, pm, an, cdv, ct, osl, rfl, lk, hcd⟩ := u34.ex
    exact fun s us hu => match us, hu with | [_], _ => .of_eq rfl
  have bb37 : ∀ (s : Shared) (us : List Value), us.length = (["_law_flow"] : List Str).length → BindsTo s g37 ⟨us, []⟩ ((["_law_flow"] : List Str).zip us) := by
    obtain ⟨oc, od, kV, doc, pm, an, cdv, ct, osl, rfl, lk, hcd⟩ := u37.ex
    exact fun s us hu => match us, hu with | [_], _ => .of_eq rfl
  have bb32 : ∀ (s : Shared) (us : List Value), us.length = (["_law_flow"] : List Str).length → BindsTo s g32 ⟨us, []⟩ ((["_law_flow"] : List Str).zip us) := by
    obtain ⟨oc, od, kV, doc, pm, an, cdv, ct, osl, rfl, lk, hcd⟩ := u32.ex
    exact fun s us hu => match us, hu with | [_], _ => .of_eq rfl
  have bb33 : ∀ (s : Shared) (us : List Value), us.length = (["_law_flow"] : List Str).length → BindsTo s g33 ⟨us, []⟩ ((["_law_flow"] : List Str).zip us) := by
    obtain ⟨oc, od, kV, doc, pm, an, cdv, ct, osl, rfl, lk, hcd⟩ := u33.ex
    exact fun s us hu => match us, hu with | [_], _ => .of_eq rfl
  have bb38 : ∀ (s : Shared) (us : List Value), us.length = (["_law_thing"] : List Str).length → BindsTo s g38 ⟨us, []⟩ ((["_law_thing"] : List Str).zip us) := by
    obtain ⟨oc, od, kV, doc, pm, an, cdv, ct, osl, rfl, lk, hcd⟩ := u38.ex
    exact fun s us hu => match us, hu with | [_], _ => .of_eq rfl
  have bb40 : ∀ (s : Shared) (us : List Value), us.length = (["_law_flow"] : List Str).length → BindsTo s g40 ⟨us, []⟩ ((["_law_flow"] : List Str).zip us) := by
    obtain ⟨oc, od, kV, doc, pm, an, cdv, ct, osl, rfl, lk, hcd⟩ := u40.ex
    exact fun s us hu => match us, hu with | [_], _ => .of_eq rfl
  have bb41 : ∀ (s : Shared) (us : List Value), us.length = (["_law_script"] : List Str).length → BindsTo s g41 ⟨us, []⟩ ((["_law_script"] : List Str).zip us) := by
    obtain ⟨oc, od, kV, doc, pm, an, cdv, ct, osl, rfl, lk, hcd⟩ := u41.ex
    exact fun s us hu => match us, hu with | [_], _ => .of_eq rfl
  have kk0 : KwB g8 ["thing"] 0 ["thing"] [0] := by
    obtain ⟨oc, od, kV, doc, pm, an, cdv, ct, osl, rfl, lk, hcd⟩ := u8.ex
    exact ⟨rfl, fun s us ws hu hw => match us, hu, ws, hw with | [], _, [_], _ => .of_eq rfl⟩
  have kk1 : KwB g7 ["thing"] 0 ["thing"] [0] := by
    obtain ⟨oc, od, kV, doc, pm, an, cdv, ct, osl, rfl, lk, hcd⟩ := u7.ex
    exact ⟨rfl, fun s us ws hu hw => match us, hu, ws, hw with | [], _, [_], _ => .of_eq rfl⟩
  have kk2 : KwB g13 ["size", "thing"] 0 ["thing", "size"] [1, 0] := by
    obtain ⟨oc, od, kV, doc, pm, an, cdv, ct, osl, rfl, lk, hcd⟩ := u13.ex
    exact ⟨rfl, fun s us ws hu hw => match us, hu, ws, hw with | [], _, [_, _], _ => .of_eq rfl⟩
  have kk3 : KwB g20 ["size", "thing"] 0 ["size", "thing"] [0, 1] := by
    obtain ⟨oc, od, kV, doc, pm, an, cdv, ct, osl, rfl, lk, hcd⟩ := u20.ex
    exact ⟨rfl, fun s us ws hu hw => match us, hu, ws, hw with | [], _, [_, _], _ => .of_eq rfl⟩
  have kk4 : KwB g20 ["size", "thing"] 0 ["thing", "size"] [1, 0] := by
    obtain ⟨oc, od, kV, doc, pm, an, cdv, ct, osl, rfl, lk, hcd⟩ := u20.ex
    exact ⟨rfl, fun s us ws hu hw => match us, hu, ws, hw with | [], _, [_, _], _ => .of_eq rfl⟩
  have kk5 : KwB g10 ["thing"] 0 ["thing"] [0] := by
    obtain ⟨oc, od, kV, doc, pm, an, cdv, ct, osl, rfl, lk, hcd⟩ := u10.ex
    exact ⟨rfl, fun s us ws hu hw => match us, hu, ws, hw with | [], _, [_], _ => .of_eq rfl⟩
  have kk6 : KwB g9 ["thing"] 0 ["thing"] [0] := by
    obtain ⟨oc, od, kV, doc, pm, an, cdv, ct, osl, rfl, lk, hcd⟩ := u9.ex
    exact ⟨rfl, fun s us ws hu hw => match us, hu, ws, hw with | [], _, [_], _ => .of_eq rfl⟩
  have kk7 : KwB g12 ["size", "thing"] 0 ["size", "thing"] [0, 1] := by
    obtain ⟨oc, od, kV, doc, pm, an, cdv, ct, osl, rfl, lk, hcd⟩ := u12.ex
    exact ⟨rfl, fun s us ws hu hw => match us, hu, ws, hw with | [], _, [_, _], _ => .of_eq rfl⟩
  have kk8 : KwB g11 ["size", "thing"] 0 ["thing", "size"] [1, 0] := by
    obtain ⟨oc, od, kV, doc, pm, an, cdv, ct, osl, rfl, lk, hcd⟩ := u11.ex
    exact ⟨rfl, fun s us ws hu hw => match us, hu, ws, hw with | [], _, [_, _], _ => .of_eq rfl⟩
  have kk9 : KwB g23 ["thing"] 0 ["thing"] [0] := by
    obtain ⟨oc, od, kV, doc, pm, an, cdv, ct, osl, rfl, lk, hcd⟩ := u23.ex
    exact ⟨rfl, fun s us ws hu hw => match us, hu, ws, hw with | [], _, [_], _ => .of_eq rfl⟩
  have kk10 : KwB g22 ["thing"] 0 ["thing"] [0] := by
    obtain ⟨oc, od, kV, doc, pm, an, cdv, ct, osl, rfl, lk, hcd⟩ := u22.ex
    exact ⟨rfl, fun s us ws hu hw => match us, hu, ws, hw with | [], _, [_], _ => .of_eq rfl⟩
  have jb5 : Binds K J5 ["self", "word", "at"] [] := e5.fn.binds (ps := ["self", "word", "at"]) fun _ _ _ _ _ _ us hl => match us, hl with | [_, _, _], _ => rfl
  have T : Txt K mg (fun n => List.getD [f7, f7, f7, f7, f7, f7, f7, f7, f8, f9, f10, f11, f12, f13, f14, f7, f16, f17, f18, f7, f20, f21, f22, f23, f7, f25, f26, f27, f28, f29, f30, f31, f32, f33, f34, f35, f36, f37, f38, f39, f40, fa] n f7) (fun n => List.getD [g7, g7, g7, g7, g7, g7, g7, g7, g8, g9, g10, g11, g12, g13, g14, g7, g16, g17, g18, g7, g20, g21, g22, g23, g7, g25, g26, g27, g28, g29, g30, g31, g32, g33, g34, g35, g36, g37, g38, g39, g40, g41] n g7) (fun n => List.getD [C2, C2, C2, C3, C4, C5] n C2) (fun n => List.getD [I5, I5, I5, I5, I5, I5] n I5) (fun n => List.getD [J5, J5, J5, J5, J5, J5] n J5) := {
    u7 := u7
    g7 := PySem.W.mg_of X G m7
    b7 := bb7
    u16 := u16
    g16 := PySem.W.mg_of X G m16
    b16 := bb16
    u25 := u25
    g25 := PySem.W.mg_of X G m25
    b25 := bb25
    u30 := u30
    g30 := PySem.W.mg_of X G m30
    b30 := bb30
    u36 := u36
    g36 := PySem.W.mg_of X G m36
    b36 := bb36
    u8 := u8
    g8 := PySem.W.mg_of X G m8
    b8 := bb8
    u17 := u17
    g17 := PySem.W.mg_of X G m17
    b17 := bb17
    u26 := u26
    g26 := PySem.W.mg_of X G m26
    b26 := bb26
    u29 := u29
    g29 := PySem.W.mg_of X G m29
    b29 := bb29
    u35 := u35
    g35 := PySem.W.mg_of X G m35
    b35 := bb35
    u10 := u10
    g10 := PySem.W.mg_of X G m10
    b10 := bb10
    u14 := u14
    g14 := PySem.W.mg_of X G m14
    b14 := bb14
    u18 := u18
    g18 := PySem.W.mg_of X G m18
    b18 := bb18
    u27 := u27
    g27 := PySem.W.mg_of X G m27
    b27 := bb27
    u28 := u28
    g28 := PySem.W.mg_of X G m28
    b28 := bb28
    u39 := u39
    g39 := PySem.W.mg_of X G m39
    b39 := bb39
    u9 := u9
    g9 := PySem.W.mg_of X G m9
    b9 := bb9
    u12 := u12
    g12 := PySem.W.mg_of X G m12
    b12 := bb12
    u13 := u13
    g13 := PySem.W.mg_of X G m13
    b13 := bb13
    u20 := u20
    g20 := PySem.W.mg_of X G m20
    b20 := bb20
    u21 := u21
    g21 := PySem.W.mg_of X G m21
    b21 := bb21
    u11 := u11
    g11 := PySem.W.mg_of X G m11
    b11 := bb11
    u22 := u22
    g22 := PySem.W.mg_of X G m22
    b22 := bb22
    u23 := u23
    g23 := PySem.W.mg_of X G m23
    b23 := bb23
    u31 := u31
    g31 := PySem.W.mg_of X G m31
    b31 := bb31
    u34 := u34
    g34 := PySem.W.mg_of X G m34
    b34 := bb34
    u37 := u37
    g37 := PySem.W.mg_of X G m37
    b37 := bb37
    u32 := u32
    g32 := PySem.W.mg_of X G m32
    b32 := bb32
    u33 := u33
    g33 := PySem.W.mg_of X G m33
    b33 := bb33
    u38 := u38
    g38 := PySem.W.mg_of X G m38
    b38 := bb38
    u40 := u40
    g40 := PySem.W.mg_of X G m40
    b40 := bb40
    u41 := u41
    g41 := PySem.W.mg_of X G m41
    b41 := bb41
    k0 := kk0
    k1 := kk1
    k2 := kk2
    k3 := kk3
    k4 := kk4
    k5 := kk5
    k6 := kk6
    k7 := kk7
    k8 := kk8
    k9 := kk9
    k10 := kk10
    n_ValueError := PySem.W.mg_none_of X G n_ValueError
    n_all := PySem.W.mg_none_of X G n_all
    n_bool := PySem.W.mg_none_of X G n_bool
    n_enumerate := PySem.W.mg_none_of X G n_enumerate
    n_int := PySem.W.mg_none_of X G n_int
    n_isinstance := PySem.W.mg_none_of X G n_isinstance
    n_len := PySem.W.mg_none_of X G n_len
    n_list := PySem.W.mg_none_of X G n_list
    n_max := PySem.W.mg_none_of X G n_max
    n_min := PySem.W.mg_none_of X G n_min
    n_range := PySem.W.mg_none_of X G n_range
    n_repr := PySem.W.mg_none_of X G n_repr
    n_str := PySem.W.mg_none_of X G n_str
    n_tuple := PySem.W.mg_none_of X G n_tuple
    n_zip := PySem.W.mg_none_of X G n_zip
    n_gcd := PySem.W.mg_of X G n_gcd
    x_InvalidPaper := ⟨e5.oex, PySem.W.mg_of X G e5.a, e5.init, e5.ty, e5.no⟩
    xu_InvalidPaper := e5.fn
    xb_InvalidPaper := jb5
    xc_InvalidPaper := xc_InvalidPaper
    xf_InvalidPaper := xf_InvalidPaper
    e_InvalidPaper_InvalidPaper := e_InvalidPaper_InvalidPaper
    i_InvalidPaper_BookError := i_InvalidPaper_BookError
    i_InvalidPaper_HadError := i_InvalidPaper_HadError
    i_InvalidPaper_PaperError := i_InvalidPaper_PaperError
    i_InvalidPaper_ValueError := i_InvalidPaper_ValueError
    c_BookError := PySem.W.mg_of X G a4
    c_HadError := PySem.W.mg_of X G a2
    c_PaperError := PySem.W.mg_of X G a3 }
  refine ⟨g41, fun s u => bb41 s [u] rfl, fun base _ _ => ?_⟩
  exact (G_law (P := P) (wd := wd) (base := base) T).fn
end k00
open PySem PySem.W PyProof.Rows
set_option maxHeartbeats 0 in
theorem PySem.Challenge.cw_stillhad_k00_kinds_and_first_faults_holds : PySem.Challenge.rw_stillhad_k00_kinds_and_first_faults.Holds := by
  w_on; o_law; k_head; (case hw => w_witness2)
  k_fill
  refine DE.walk_fd (l := PySem.Challenge.rw_stillhad_k00_kinds_and_first_faults) (n := 63) (k := 8) (x := "_law_script") (F := k00.F_law) rfl (by decide) rfl ⟨rfl, by decide, by decide⟩ (fun w h Y => PySem.W.kIn_of Y) ?F (fun ns hn => k00.law_true ns hn)
  case F =>
    intro w mg fa h KX G hmg
    refine' k00.all_mk KX G hmg ?d7 ?d16 ?d25 ?d30 ?d36 ?d8 ?d17 ?d26 ?d29 ?d35 ?d10 ?d14 ?d18 ?d27 ?d28 ?d39 ?d9 ?d12 ?d13 ?d20 ?d21 ?d11 ?d22 ?d23 ?d31 ?d34 ?d37 ?d32 ?d33 ?d38 ?d40 ?d41 ?n_ValueError ?n_all ?n_bool ?n_enumerate ?n_int ?n_isinstance ?n_len ?n_list ?n_max ?n_min ?n_range ?n_repr ?n_str ?n_tuple ?n_zip ?n_gcd ?a2 ?a3 ?a4 ⟨?e5a, DE.oex_mk ?e5x ?e5b ?e5s ?e5e ?e5t ?e5k, ?e5i, ?e5y, List.forall_mem_cons.mpr ⟨?e5n0, List.forall_mem_cons.mpr ⟨?e5n1, fun _ hf => nomatch hf⟩⟩, L2.fun_mk ?e5l ?e5c ?e5p⟩ ⟨?xcInvalidPaper0, ?xcInvalidPaper1, ?xcInvalidPaper2, ?xcInvalidPaper3, ?xcInvalidPaper4, ?xcInvalidPaper5, ?xcInvalidPaper6, ?xcInvalidPaper7⟩ ⟨?xfInvalidPaper0, ?xfInvalidPaper1, ?xfInvalidPaper2, ?xfInvalidPaper3⟩ ?e_InvalidPaper_InvalidPaper ?i_InvalidPaper_BookError ?i_InvalidPaper_HadError ?i_InvalidPaper_PaperError ?i_InvalidPaper_ValueError 
    (case d7 =>
      refine' DE.defAt_mk ?a ?l ?c ?k
      (case a => k_is); (case l => k_is); (case c => k_is); (case k => k_is))
    (case d16 =>
      refine' DE.defAt_mk ?a ?l ?c ?k
      (case a => k_is); (case l => k_is); (case c => k_is); (case k => k_is))
    (case d25 =>
      refine' DE.defAt_mk ?a ?l ?c ?k
      (case a => k_is); (case l => k_is); (case c => k_is); (case k => k_is))
    (case d30 =>
      refine' DE.defAt_mk ?a ?l ?c ?k
      (case a => k_is); (case l => k_is); (case c => k_is); (case k => k_is))
    (case d36 =>
      refine' DE.defAt_mk ?a ?l ?c ?k
      (case a => k_is); (case l => k_is); (case c => k_is); (case k => k_is))
    (case d8 =>
      refine' DE.defAt_mk ?a ?l ?c ?k
      (case a => k_is); (case l => k_is); (case c => k_is); (case k => k_is))
    (case d17 =>
      refine' DE.defAt_mk ?a ?l ?c ?k
      (case a => k_is); (case l => k_is); (case c => k_is); (case k => k_is))
    (case d26 =>
      refine' DE.defAt_mk ?a ?l ?c ?k
      (case a => k_is); (case l => k_is); (case c => k_is); (case k => k_is))
    (case d29 =>
      refine' DE.defAt_mk ?a ?l ?c ?k
      (case a => k_is); (case l => k_is); (case c => k_is); (case k => k_is))
    (case d35 =>
      refine' DE.defAt_mk ?a ?l ?c ?k
      (case a => k_is); (case l => k_is); (case c => k_is); (case k => k_is))
    (case d10 =>
      refine' DE.defAt_mk ?a ?l ?c ?k
      (case a => k_is); (case l => k_is); (case c => k_is); (case k => k_is))
    (case d14 =>
      refine' DE.defAt_mk ?a ?l ?c ?k
      (case a => k_is); (case l => k_is); (case c => k_is); (case k => k_is))
    (case d18 =>
      refine' DE.defAt_mk ?a ?l ?c ?k
      (case a => k_is); (case l => k_is); (case c => k_is); (case k => k_is))
    (case d27 =>
      refine' DE.defAt_mk ?a ?l ?c ?k
      (case a => k_is); (case l => k_is); (case c => k_is); (case k => k_is))
    (case d28 =>
      refine' DE.defAt_mk ?a ?l ?c ?k
      (case a => k_is); (case l => k_is); (case c => k_is); (case k => k_is))
    (case d39 =>
      refine' DE.defAt_mk ?a ?l ?c ?k
      (case a => k_is); (case l => k_is); (case c => k_is); (case k => k_is))
    (case d9 =>
      refine' DE.defAt_mk ?a ?l ?c ?k
      (case a => k_is); (case l => k_is); (case c => k_is); (case k => k_is))
    (case d12 =>
      refine' DE.defAt_mk ?a ?l ?c ?k
      (case a => k_is); (case l => k_is); (case c => k_is); (case k => k_is))
    (case d13 =>
      refine' DE.defAt_mk ?a ?l ?c ?k
      (case a => k_is); (case l => k_is); (case c => k_is); (case k => k_is))
    (case d20 =>
      refine' DE.defAt_mk ?a ?l ?c ?k
      (case a => k_is); (case l => k_is); (case c => k_is); (case k => k_is))
    (case d21 =>
      refine' DE.defAt_mk ?a ?l ?c ?k
      (case a => k_is); (case l => k_is); (case c => k_is); (case k => k_is))
    (case d11 =>
      refine' DE.defAt_mk ?a ?l ?c ?k
      (case a => k_is); (case l => k_is); (case c => k_is); (case k => k_is))
    (case d22 =>
      refine' DE.defAt_mk ?a ?l ?c ?k
      (case a => k_is); (case l => k_is); (case c => k_is); (case k => k_is))
    (case d23 =>
      refine' DE.defAt_mk ?a ?l ?c ?k
      (case a => k_is); (case l => k_is); (case c => k_is); (case k => k_is))
    (case d31 =>
      refine' DE.defAt_mk ?a ?l ?c ?k
      (case a => k_is); (case l => k_is); (case c => k_is); (case k => k_is))
    (case d34 =>
      refine' DE.defAt_mk ?a ?l ?c ?k
      (case a => k_is); (case l => k_is); (case c => k_is); (case k => k_is))
    (case d37 =>
      refine' DE.defAt_mk ?a ?l ?c ?k
      (case a => k_is); (case l => k_is); (case c => k_is); (case k => k_is))
    (case d32 =>
      refine' DE.defAt_mk ?a ?l ?c ?k
      (case a => k_is); (case l => k_is); (case c => k_is); (case k => k_is))
    (case d33 =>
      refine' DE.defAt_mk ?a ?l ?c ?k
      (case a => k_is); (case l => k_is); (case c => k_is); (case k => k_is))
    (case d38 =>
      refine' DE.defAt_mk ?a ?l ?c ?k
      (case a => k_is); (case l => k_is); (case c => k_is); (case k => k_is))
    (case d40 =>
      refine' DE.defAt_mk ?a ?l ?c ?k
      (case a => k_is); (case l => k_is); (case c => k_is); (case k => k_is))
    (case d41 =>
      refine' DE.defAt_mk ?a ?l ?c ?k
      (case a => k_is); (case l => k_is); (case c => k_is); (case k => k_is))
    (case n_ValueError => k_is)
    (case n_all => k_is)
    (case n_bool => k_is)
    (case n_enumerate => k_is)
    (case n_int => k_is)
    (case n_isinstance => k_is)
    (case n_len => k_is)
    (case n_list => k_is)
    (case n_max => k_is)
    (case n_min => k_is)
    (case n_range => k_is)
    (case n_repr => k_is)
    (case n_str => k_is)
    (case n_tuple => k_is)
    (case n_zip => k_is)
    (case n_gcd => k_is)
    (case a2 => first | k_is | rfl | decide +kernel)
    (case a3 => first | k_is | rfl | decide +kernel)
    (case a4 => first | k_is | rfl | decide +kernel)
    (case e5a => first | k_is | rfl | decide +kernel)
    (case e5x => first | k_is | rfl | decide +kernel)
    (case e5b => first | k_is | rfl | decide +kernel)
    (case e5s => first | k_is | rfl | decide +kernel)
    (case e5e => first | k_is | rfl | decide +kernel)
    (case e5t => first | k_is | rfl | decide +kernel)
    (case e5k => first | k_is | rfl | decide +kernel)
    (case e5i => first | k_is | rfl | decide +kernel)
    (case e5y => first | k_is | rfl | decide +kernel)
    (case e5n0 => first | k_is | rfl | decide +kernel)
    (case e5n1 => first | k_is | rfl | decide +kernel)
    (case e5l => first | k_is | rfl | decide +kernel)
    (case e5c => first | k_is | rfl | decide +kernel)
    (case e5p => first | k_is | rfl | decide +kernel)
    (case xcInvalidPaper0 => first | k_is | rfl | decide +kernel)
    (case xcInvalidPaper1 => first | k_is | rfl | decide +kernel)
    (case xcInvalidPaper2 => first | k_is | rfl | decide +kernel)
    (case xcInvalidPaper3 => first | k_is | rfl | decide +kernel)
    (case xcInvalidPaper4 => first | k_is | rfl | decide +kernel)
    (case xcInvalidPaper5 => first | k_is | rfl | decide +kernel)
    (case xcInvalidPaper6 => first | k_is | rfl | decide +kernel)
    (case xcInvalidPaper7 => first | k_is | rfl | decide +kernel)
    (case xfInvalidPaper0 => first | k_is | rfl | decide +kernel)
    (case xfInvalidPaper1 => first | k_is | rfl | decide +kernel)
    (case xfInvalidPaper2 => first | k_is | rfl | decide +kernel)
    (case xfInvalidPaper3 => first | k_is | rfl | decide +kernel)
    (case e_InvalidPaper_InvalidPaper => first | k_is | rfl | decide +kernel)
    (case i_InvalidPaper_BookError => first | k_is | rfl | decide +kernel)
    (case i_InvalidPaper_HadError => first | k_is | rfl | decide +kernel)
    (case i_InvalidPaper_PaperError => first | k_is | rfl | decide +kernel)
    (case i_InvalidPaper_ValueError => first | k_is | rfl | decide +kernel)
#print axioms PySem.Challenge.cw_stillhad_k00_kinds_and_first_faults_holds
