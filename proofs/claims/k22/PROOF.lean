import PyProof.Rows.All
import Wide.All
import OpenK.AllK
import Wide.FinOn
import HandS.ForMost
import HandS.Walk
import HandS.IsInst
import HandS.CallLocal
import HandS.Defaults
import HandS.Evl
import HandS.WideBits
import HandS.DictComp
import HandS.Style
import PySem.Challenge.RW_firstclause_k22_clauses_by_name
set_option Elab.async false
set_option linter.all false
set_option maxRecDepth 100000
set_option maxHeartbeats 4000000
/-! Data logic over the hand layer: slots hold data (PyData), a base heap B within the heap H. -/
namespace FC
open PySem PySem.Spec PyProof.Rows L2
open Evl (Ex)

abbrev Dat := PyData
/-! ### data in a heap -/
theorem ex_rd {H H' : Hp} {a : Addr} {u : HO} (e : Ex H H') (h : Rd H a u) : Rd H' a u := by
  rcases h with h | ⟨o, h⟩
  · exact .inl (e a _ h)
  · exact .inr ⟨o, e a _ h⟩
theorem ex_l {K : PySem.W.Frag} {H H' : Hp} {a : Addr} {xs : List V} (e : Ex H H') (h : SqL K H a xs) : SqL K H' a xs := by
  rcases h with h | h
  · exact .inl (ex_rd e h)
  · exact .inr h
theorem ex_t {K : PySem.W.Frag} {H H' : Hp} {a : Addr} {xs : List V} (e : Ex H H') (h : SqT K H a xs) : SqT K H' a xs := by
  rcases h with h | h
  · exact .inl (ex_rd e h)
  · exact .inr h
mutual
theorem dp_ex {K : PySem.W.Frag} {H H' : Hp} (e : Ex H H') : ∀ (d : PyData) (v : V), Dp K H v d → Dp K H' v d
  | .none, _, h => by cases h; exact .non
  | .bool b, _, h => by cases h; exact .bl b
  | .int i, _, h => by cases h; exact .int i
  | .str s, _, h => by cases h; exact .str s
  | .list ds, _, h => by
    cases h with
    | lst hs ha => exact .lst (ex_l e hs) (dps_ex e ds _ ha)
  | .tuple ds, _, h => by
    cases h with
    | tup hs ha => exact .tup (ex_t e hs) (dps_ex e ds _ ha)
  | .dict _, _, h => by cases h
theorem dps_ex {K : PySem.W.Frag} {H H' : Hp} (e : Ex H H') : ∀ (ds : List PyData) (vs : List V), DpAll K H vs ds → DpAll K H' vs ds
  | [], _, h => by cases h; exact .nil
  | d :: ds, _, h => by
    cases h with
    | cons h1 h2 => exact .cons (dp_ex e d _ h1) (dps_ex e ds _ h2)
end
theorem dps_len {K : PySem.W.Frag} {H : Hp} : ∀ {ds : List PyData} {vs : List V}, DpAll K H vs ds → vs.length = ds.length
  | [], _, h => by cases h; rfl
  | _ :: ds, _, h => by
    cases h with
    | cons _ h2 => simp [dps_len h2]
theorem dps_get {K : PySem.W.Frag} {H : Hp} : ∀ {ds : List PyData} {vs : List V} {i : Nat} {d : PyData}, DpAll K H vs ds → ds[i]? = some d → ∃ v, vs[i]? = some v ∧ Dp K H v d
  | [], _, _, _, _, e => by simp at e
  | _ :: _, _, 0, _, h, e => by
    cases h with
    | cons h1 _ =>
      simp at e
      subst e
      exact ⟨_, rfl, h1⟩
  | _ :: ds, _, i + 1, d, h, e => by
    cases h with
    | cons _ h2 =>
      obtain ⟨v, h3, h4⟩ := dps_get (i := i) (d := d) h2 (by simpa using e)
      exact ⟨v, by simpa using h3, h4⟩
theorem dps_snoc {K : PySem.W.Frag} {H : Hp} {v : V} {d : PyData} (r : Dp K H v d) : ∀ {ds : List PyData} {vs : List V}, DpAll K H vs ds → DpAll K H (vs ++ [v]) (ds ++ [d])
  | [], _, h => by cases h; exact .cons r .nil
  | _ :: _, _, h => by
    cases h with
    | cons h1 h2 => exact .cons h1 (dps_snoc r h2)
theorem dps_append {K : PySem.W.Frag} {H : Hp} {es : List PyData} {ws : List V} (r : DpAll K H ws es) : ∀ {ds : List PyData} {vs : List V}, DpAll K H vs ds → DpAll K H (vs ++ ws) (ds ++ es)
  | [], _, h => by cases h; exact r
  | _ :: _, _, h => by
    cases h with
    | cons h1 h2 => exact .cons h1 (dps_append r h2)
/-- the pairs of a dict with texts as keys -/
def KR (K : PySem.W.Frag) (H : Hp) (ks : List (Key × V)) (kvs : List (Str × PyData)) : Prop :=
  Paired (fun (p : Key × V) (q : Str × PyData) => p.1 = Sum.inr q.1 ∧ Dp K H p.2 q.2) ks kvs
def bodyOf (kvs : List (Str × PyData)) : List (PyData × PyData) := kvs.map fun q => (.str q.1, q.2)
/-- a dict, locked or not; one that is not locked; one that is locked, at a -/
def dictOf (kvs : List (Str × PyData)) : PyData := .dict (bodyOf kvs)
def dictU (kvs : List (Str × PyData)) : PyData := .dict ((.none, .none) :: bodyOf kvs)
def dictL (a : Addr) (kvs : List (Str × PyData)) : PyData := .dict ((.int (a : Nat), .none) :: bodyOf kvs)
/-- a list that stands by itself (tracked, not locked) -/
def listX (ds : List PyData) : PyData := .dict [(.bool true, .list ds)]
inductive Rt (K : PySem.W.Frag) (H : Hp) : V → PyData → Prop where
  | d {v : V} {x : PyData} (h : Dp K H v x) : Rt K H v x
  | dict {a : Addr} {ks : List (Key × V)} {kvs : List (Str × PyData)} (e : Rd H a (.dK ks)) (h : KR K H ks kvs) (nd : (kvs.map (·.1)).Nodup) : Rt K H (.ref a) (dictOf kvs)
  | dictU {a : Addr} {ks : List (Key × V)} {kvs : List (Str × PyData)} (e : H a = some (.dK ks)) (h : KR K H ks kvs) (nd : (kvs.map (·.1)).Nodup) : Rt K H (.ref a) (dictU kvs)
  | dictL {a : Addr} {o : Obj} {ks : List (Key × V)} {kvs : List (Str × PyData)} (e : H a = some (.frz o (.dK ks))) (h : KR K H ks kvs) (nd : (kvs.map (·.1)).Nodup) : Rt K H (.ref a) (dictL a kvs)
  | lstX {a : Addr} {vs : List V} {ds : List PyData} (e : H a = some (.lst vs)) (h : DpAll K H vs ds) : Rt K H (.ref a) (listX ds)
theorem kr_ex {K : PySem.W.Frag} {H H' : Hp} (e : Ex H H') : ∀ {ks : List (Key × V)} {kvs : List (Str × PyData)}, KR K H ks kvs → KR K H' ks kvs
  | _, _, .nil => .nil
  | _, _, .cons r t => .cons ⟨r.1, dp_ex e _ _ r.2⟩ (kr_ex e t)
theorem Rt.ex {K : PySem.W.Frag} {H H' : Hp} {v : V} {x : PyData} (e : Ex H H') (h : Rt K H v x) : Rt K H' v x := by
  cases h with
  | d h => exact .d (dp_ex e _ _ h)
  | dict e1 h nd => exact .dict (ex_rd e e1) (kr_ex e h) nd
  | dictU e1 h nd => exact .dictU (e _ _ e1) (kr_ex e h) nd
  | dictL e1 h nd => exact .dictL (e _ _ e1) (kr_ex e h) nd
  | lstX e1 h => exact .lstX (e _ _ e1) (dps_ex e _ _ h)
theorem bodyOf_inj : ∀ {k1 k2 : List (Str × PyData)}, bodyOf k1 = bodyOf k2 → k1 = k2
  | [], [], _ => rfl
  | [], _ :: _, h => by simp [bodyOf] at h
  | _ :: _, [], h => by simp [bodyOf] at h
  | (a, b) :: r, (c, d) :: s, h => by
    simp only [bodyOf, List.map_cons, List.cons.injEq, Prod.mk.injEq, PyData.str.injEq] at h
    obtain ⟨⟨h1, h2⟩, h3⟩ := h
    rw [h1, h2, bodyOf_inj (k1 := r) (k2 := s) h3]
theorem body_ne {kvs : List (Str × PyData)} {x : PyData × PyData} {r : List (PyData × PyData)} (hx : ∀ s, x.1 ≠ .str s) : bodyOf kvs ≠ x :: r := by
  cases kvs with
  | nil => intro h; simp [bodyOf] at h
  | cons q qs =>
    intro h
    simp only [bodyOf, List.map_cons, List.cons.injEq] at h
    exact hx q.1 (by rw [← h.1])
theorem rt_dict {K : PySem.W.Frag} {B : Hp} {v : V} {kvs : List (Str × PyData)} (h : Rt K B v (dictOf kvs)) : ∃ a ks, v = .ref a ∧ Rd B a (.dK ks) ∧ KR K B ks kvs ∧ (kvs.map (·.1)).Nodup := by
  generalize hd : dictOf kvs = dd at h
  cases h with
  | d h =>
    subst hd
    cases h
  | dict e1 h nd =>
    have e := bodyOf_inj (PyData.dict.inj hd)
    subst e
    exact ⟨_, _, rfl, e1, h, nd⟩
  | dictU e1 h nd => exact (body_ne (x := (.none, .none)) (fun s z => by cases z) (PyData.dict.inj hd)).elim
  | @dictL a2 o ks kv2 e1 h nd => exact (body_ne (x := (.int (a2 : Nat), .none)) (fun s z => by cases z) (PyData.dict.inj hd)).elim
  | @lstX a2 vs ds2 e1 h => exact (body_ne (x := (.bool true, .list ds2)) (fun s z => by cases z) (PyData.dict.inj hd)).elim
theorem rt_dictU {K : PySem.W.Frag} {B : Hp} {v : V} {kvs : List (Str × PyData)} (h : Rt K B v (dictU kvs)) : ∃ a ks, v = .ref a ∧ B a = some (.dK ks) ∧ KR K B ks kvs ∧ (kvs.map (·.1)).Nodup := by
  generalize hd : dictU kvs = dd at h
  cases h with
  | d h =>
    subst hd
    cases h
  | dict e1 h nd => exact (body_ne (x := (.none, .none)) (fun s z => by cases z) (PyData.dict.inj hd).symm).elim
  | dictU e1 h nd =>
    have e := bodyOf_inj (List.cons.inj (PyData.dict.inj hd)).2
    subst e
    exact ⟨_, _, rfl, e1, h, nd⟩
  | dictL e1 h nd =>
    have e := (List.cons.inj (PyData.dict.inj hd)).1
    simp at e
  | lstX e1 h =>
    have e := (List.cons.inj (PyData.dict.inj hd)).1
    simp at e
theorem rt_dictL {K : PySem.W.Frag} {B : Hp} {v : V} {a : Addr} {kvs : List (Str × PyData)} (h : Rt K B v (dictL a kvs)) : ∃ o ks, v = .ref a ∧ B a = some (.frz o (.dK ks)) ∧ KR K B ks kvs ∧ (kvs.map (·.1)).Nodup := by
  generalize hd : dictL a kvs = dd at h
  cases h with
  | d h =>
    subst hd
    cases h
  | dict e1 h nd => exact (body_ne (x := (.int (a : Nat), .none)) (fun s z => by cases z) (PyData.dict.inj hd).symm).elim
  | dictU e1 h nd =>
    have e := (List.cons.inj (PyData.dict.inj hd)).1
    simp at e
  | @dictL a2 o ks kv2 e1 h nd =>
    have e := bodyOf_inj (List.cons.inj (PyData.dict.inj hd)).2
    have e2 := (List.cons.inj (PyData.dict.inj hd)).1
    simp only [Prod.mk.injEq, PyData.int.injEq, and_true] at e2
    have e3 : a = a2 := Int.ofNat.inj e2
    subst e e3
    exact ⟨_, _, rfl, e1, h, nd⟩
  | lstX e1 h =>
    have e := (List.cons.inj (PyData.dict.inj hd)).1
    simp at e
theorem rt_listX {K : PySem.W.Frag} {B : Hp} {v : V} {ds : List PyData} (h : Rt K B v (listX ds)) : ∃ a vs, v = .ref a ∧ B a = some (.lst vs) ∧ DpAll K B vs ds := by
  generalize hd : listX ds = dd at h
  cases h with
  | d h =>
    subst hd
    cases h
  | dict e1 h nd => exact (body_ne (x := (.bool true, .list ds)) (fun s z => by cases z) (PyData.dict.inj hd).symm).elim
  | dictU e1 h nd =>
    have e := (List.cons.inj (PyData.dict.inj hd)).1
    simp at e
  | dictL e1 h nd =>
    have e := (List.cons.inj (PyData.dict.inj hd)).1
    simp at e
  | lstX e1 h =>
    have e := (List.cons.inj (PyData.dict.inj hd)).1
    simp only [Prod.mk.injEq, PyData.list.injEq, true_and] at e
    subst e
    exact ⟨_, _, rfl, e1, h⟩
theorem rt_ofX {K : PySem.W.Frag} {B : Hp} {v : V} {ds : List PyData} (h : Rt K B v (listX ds)) : Rt K B v (.list ds) := by
  obtain ⟨a, vs, rfl, e, h⟩ := rt_listX h
  exact .d (.lst (.inl (.inl e)) h)
theorem rt_ofU {K : PySem.W.Frag} {B : Hp} {v : V} {kvs : List (Str × PyData)} (h : Rt K B v (dictU kvs)) : Rt K B v (dictOf kvs) := by
  obtain ⟨a, ks, rfl, e, kr, nd⟩ := rt_dictU h
  exact .dict (.inl e) kr nd
theorem rt_ofL {K : PySem.W.Frag} {B : Hp} {v : V} {a : Addr} {kvs : List (Str × PyData)} (h : Rt K B v (dictL a kvs)) : Rt K B v (dictOf kvs) := by
  obtain ⟨o, ks, rfl, e, kr, nd⟩ := rt_dictL h
  exact .dict (.inr ⟨o, e⟩) kr nd
def plain : PyData → Bool
  | .dict _ => false
  | _ => true
theorem Rt.dp {K : PySem.W.Frag} {H : Hp} {v : V} {x : PyData} (h : Rt K H v x) (p : plain x = true) : Dp K H v x := by
  cases h with
  | d h => exact h
  | dict e1 h nd => simp [plain, dictOf] at p
  | dictU e1 h nd => simp [plain, FC.dictU] at p
  | dictL e1 h nd => simp [plain, FC.dictL] at p
  | lstX e1 h => simp [plain, FC.listX] at p
abbrev RtA (K : PySem.W.Frag) (H : Hp) : List V → List PyData → Prop := Paired (Rt K H)
theorem RtA.ex {K : PySem.W.Frag} {H H' : Hp} (e : Ex H H') : ∀ {vs : List V} {ds : List PyData}, RtA K H vs ds → RtA K H' vs ds
  | _, _, .nil => .nil
  | _, _, .cons r t => .cons (r.ex e) (RtA.ex e t)
theorem RtA.dps {K : PySem.W.Frag} {H : Hp} : ∀ {vs : List V} {ds : List PyData}, RtA K H vs ds → ds.all plain = true → DpAll K H vs ds
  | _, _, .nil, _ => .nil
  | _, _, .cons r t, h => by
    simp only [List.all_cons, Bool.and_eq_true] at h
    exact .cons (r.dp h.1) (RtA.dps t h.2)
/-! ### the slots -/
structure En (K : PySem.W.Frag) (B : Hp) (σ : L2.St) (G : List (Option PyData)) : Prop where
  len : σ.length = G.length
  get : ∀ (i : Nat) (d : PyData), G[i]? = some (some d) → ∃ v, σ[i]? = some (some v) ∧ Rt K B v d
theorem En.ex {K : PySem.W.Frag} {B B' : Hp} {σ : L2.St} {G : List (Option PyData)} (e : Ex B B') (h : En K B σ G) : En K B' σ G :=
  ⟨h.len, fun i d q => by
    obtain ⟨v, h1, h2⟩ := h.get i d q
    exact ⟨v, h1, h2.ex e⟩⟩
theorem En.set {K : PySem.W.Frag} {B : Hp} {σ : L2.St} {G : List (Option PyData)} {v : V} {d : PyData} (j : Nat) (h : En K B σ G) (r : Rt K B v d) : En K B (σ.set j (some v)) (G.set j (some d)) := by
  refine ⟨by rw [List.length_set, List.length_set, h.len], fun i e q => ?_⟩
  by_cases hij : j = i
  · subst hij
    have hl : j < G.length := by
      have := (List.getElem?_eq_some_iff.mp q).1
      simpa using this
    rw [List.getElem?_set_self hl] at q
    cases q
    exact ⟨v, List.getElem?_set_self (by rw [h.len]; exact hl), r⟩
  · rw [List.getElem?_set_ne hij] at q
    obtain ⟨u, h1, h2⟩ := h.get i e q
    exact ⟨u, by rw [List.getElem?_set_ne hij]; exact h1, h2⟩
/-- a slot whose value is not told -/
theorem En.setN {K : PySem.W.Frag} {B : Hp} {σ : L2.St} {G : List (Option PyData)} {x : Option V} (j : Nat) (h : En K B σ G) : En K B (σ.set j x) (G.set j none) := by
  refine ⟨by rw [List.length_set, List.length_set, h.len], fun i e q => ?_⟩
  by_cases hij : j = i
  · subst hij
    have hl : j < G.length := by
      have := (List.getElem?_eq_some_iff.mp q).1
      simpa using this
    rw [List.getElem?_set_self hl] at q
    cases q
  · rw [List.getElem?_set_ne hij] at q
    obtain ⟨u, h1, h2⟩ := h.get i e q
    exact ⟨u, by rw [List.getElem?_set_ne hij]; exact h1, h2⟩
def wipeG (G : List (Option PyData)) : List Nat → List (Option PyData)
  | [] => G
  | v :: vs => (wipeG G vs).set v none
theorem En.wipe {K : PySem.W.Frag} {B : Hp} {σ : L2.St} {G : List (Option PyData)} (h : En K B σ G) : ∀ vs, En K B (wipe σ vs) (wipeG G vs)
  | [] => h
  | v :: vs => (h.wipe vs).setN v
def startG (N : List Str) (ds : List PyData) : List (Option PyData) := ds.map some ++ List.replicate (N.length - ds.length) none
theorem En.start {K : PySem.W.Frag} {B : Hp} {N : List Str} {vs : List V} {ds : List PyData} (h : RtA K B vs ds) : En K B (start N vs) (startG N ds) := by
  have hl : vs.length = ds.length := Paired.length h
  unfold L2.start startG
  refine ⟨by simp [hl], fun i d q => ?_⟩
  rw [List.getElem?_append] at q
  split at q
  · rename_i hi
    rw [List.length_map] at hi
    rw [List.getElem?_map] at q
    have hi' : i < vs.length := by omega
    have e1 : ds[i]? = some d := by
      cases e : ds[i]? with
      | none => rw [e] at q; cases q
      | some x => rw [e] at q; simpa using q
    have key : ∀ {vs : List V} {ds : List PyData} {i : Nat}, RtA K B vs ds → ds[i]? = some d → ∃ v, vs[i]? = some v ∧ Rt K B v d := by
      intro vs ds i h
      induction h generalizing i with
      | nil => intro e; simp at e
      | cons r t ih =>
        intro e
        cases i with
        | zero =>
          simp at e
          subst e
          exact ⟨_, rfl, r⟩
        | succ i => simpa using ih (by simpa using e)
    obtain ⟨v, h1, h2⟩ := key h e1
    refine ⟨v, ?_, h2⟩
    rw [List.getElem?_append_left (by simpa using hi'), List.getElem?_map, h1]
    rfl
  · rename_i hi
    have : ∀ (n j : Nat), (List.replicate n (none : Option PyData))[j]? = some (some d) → False := by
      intro n j e
      rw [List.getElem?_replicate] at e
      split at e <;> simp at e
    exact (this _ _ q).elim
/-! ### steps of (B, H) -/
structure Go (B H B' H' : Hp) : Prop where
  eb : Ex B B'
  eh : Ex H H'
  sub : Ex B' H'
  fr : ∀ a o, H a = some o → B a = none → B' a = none
theorem Go.refl {B H : Hp} (e : Ex B H) : Go B H B H := ⟨Evl.Ex.refl _, Evl.Ex.refl _, e, fun _ _ _ n => n⟩
theorem Go.trans {B H B1 H1 B2 H2 : Hp} (a : Go B H B1 H1) (b : Go B1 H1 B2 H2) : Go B H B2 H2 :=
  ⟨a.eb.trans b.eb, a.eh.trans b.eh, b.sub, fun c o h n => b.fr c o (a.eh c o h) (a.fr c o h n)⟩
theorem sub_none {B H : Hp} {p : Addr} (e : Ex B H) (n : H p = none) : B p = none := Evl.fresh_back e n
theorem Go.new {B H : Hp} {p : Addr} {o : HO} (e : Ex B H) (n : H p = none) : Go B H (upd B p o) (upd H p o) :=
  ⟨Evl.Ex.new (sub_none e n), Evl.Ex.new n, fun a u h => by
    by_cases ha : a = p
    · subst ha
      rw [upd_same] at h ⊢
      exact h
    · rw [upd_ne ha] at h ⊢
      exact e a u h, fun a u h nb => by
    rw [upd_ne (ne_of_none h n)]
    exact nb⟩
/-- a new object that B does not learn of -/
theorem Go.own {B H : Hp} {p : Addr} {o : HO} (e : Ex B H) (n : H p = none) : Go B H B (upd H p o) :=
  ⟨Evl.Ex.refl _, Evl.Ex.new n, e.trans (Evl.Ex.new n), fun _ _ _ nb => nb⟩

/-! ### judgements -/
section
variable (K : PySem.W.Frag)
def DE (te : TE) (G : List (Option PyData)) (d : PyData) : Prop :=
  ∀ σ B H, Ex B H → En K B σ G → ∀ Q : VK, (∀ v B' H', Go B H B' H' → Rt K B' v d → Q v H') → te σ H Q
def DT (tt : TT) (G : List (Option PyData)) (b : Bool) : Prop :=
  ∀ σ B H, Ex B H → En K B σ G → ∀ Q : Bool → Hp → Prop, (∀ B' H', Go B H B' H' → Q b H') → tt σ H Q
def DA (ta : TA) (G : List (Option PyData)) (ds : List PyData) : Prop :=
  ∀ σ B H, Ex B H → En K B σ G → ∀ Q : List V → Hp → Prop, (∀ vs B' H', Go B H B' H' → RtA K B' vs ds → Q vs H') → ta σ H Q
inductive Out where
  | nx (G : List (Option PyData)) | rt (d : PyData)
def Out.Ok (B H : Hp) (D : Ends) : Out → Prop
  | .nx G => ∀ σ' B' H', Go B H B' H' → En K B' σ' G → D.nx σ' H'
  | .rt d => ∀ v B' H', Go B H B' H' → Rt K B' v d → D.rt v H'
def DS (ts : TS) (G : List (Option PyData)) (r : Out) : Prop :=
  ∀ D σ B H, Ex B H → En K B σ G → r.Ok K B H D → ts D σ H
/-- the promise of a def: data in, data out, nothing that stood is changed -/
def spD (n : Nat) (pre : List PyData → Prop) (F : List PyData → PyData) : Sp := fun vs H Q _ =>
  ∃ B ds, Ex B H ∧ RtA K B vs ds ∧ ds.length = n ∧ pre ds ∧ ∀ v B' H', Go B H B' H' → Rt K B' v (F ds) → Q v H'
end
theorem Out.Ok.go {K : PySem.W.Frag} {B H B1 H1 : Hp} {D : Ends} (g : Go B H B1 H1) {r : Out} (h : r.Ok K B H D) : r.Ok K B1 H1 D := by
  cases r with
  | nx G => exact fun σ' B' H' g' e => h σ' B' H' (g.trans g') e
  | rt d => exact fun v B' H' g' e => h v B' H' (g.trans g') e
section
variable {K : PySem.W.Frag} {G : List (Option PyData)} {ta tb te tc : TE} {t u : TT} {d e f : PyData} {b c : Bool}
theorem DE.fin {n : Nat} {pre : List PyData → Prop} {F : List PyData → PyData} {N : List Str} {ts : TS} {vs : List V} {ds : List PyData} {B H : Hp} {Q : VK} (h : DS K ts (startG N ds) (.rt (F ds)))
    (e : Ex B H) (r : RtA K B vs ds) (q : ∀ v B' H', Go B H B' H' → Rt K B' v (F ds) → Q v H') : ts { nx := fun _ H' => Q .non H', rt := Q } (start N vs) H :=
  h _ _ B H e (En.start r) q
theorem de_ofU {kvs : List (Str × PyData)} (h : DE K te G (dictU kvs)) : DE K te G (dictOf kvs) := fun σ B H x en Q q => h σ B H x en _ fun v B' H' g r => q v B' H' g (rt_ofU r)
theorem de_ofL {a : Addr} {kvs : List (Str × PyData)} (h : DE K te G (dictL a kvs)) : DE K te G (dictOf kvs) := fun σ B H x en Q q => h σ B H x en _ fun v B' H' g r => q v B' H' g (rt_ofL r)
theorem de_ofX {ds : List PyData} (h : DE K te G (listX ds)) : DE K te G (.list ds) := fun σ B H x en Q q => h σ B H x en _ fun v B' H' g r => q v B' H' g (rt_ofX r)
theorem de_is (h : DE K te G d) (x : d = e) : DE K te G e := x ▸ h
theorem dt_is (h : DT K t G b) (x : b = c) : DT K t G c := x ▸ h
theorem de_var {i : Nat} (h : G[i]? = some (some d)) : DE K (tVar i) G d := fun σ B H x en Q q => by
  obtain ⟨v, h1, h2⟩ := en.get i d h
  exact ⟨v, h1, q v B H (.refl x) h2⟩
theorem de_int {i : Int} : DE K (tC (.int i)) G (.int i) := fun σ B H x en Q q => q _ B H (.refl x) (.d (.int i))
theorem de_bl {b : Bool} : DE K (tC (.bl b)) G (.bool b) := fun σ B H x en Q q => q _ B H (.refl x) (.d (.bl b))
theorem de_non : DE K (tC .non) G .none := fun σ B H x en Q q => q _ B H (.refl x) (.d .non)
theorem de_str {s : Str} : DE K (tC (.str s)) G (.str s) := fun σ B H x en Q q => q _ B H (.refl x) (.d (.str s))
theorem da_nil : DA K tNil G [] := fun σ B H x en Q q => q [] B H (.refl x) .nil
theorem da_cons {tr : TA} {ds : List PyData} (h : DE K te G d) (hr : DA K tr G ds) : DA K (tCons te tr) G (d :: ds) := fun σ B H x en Q q =>
  h σ B H x en _ fun v B1 H1 g1 r1 => hr σ B1 H1 g1.sub (en.ex g1.eb) _ fun vs B2 H2 g2 r2 => q (v :: vs) B2 H2 (g1.trans g2) (.cons (r1.ex g2.eb) r2)
theorem de_tup {tr : TA} {ds : List PyData} (h : DA K tr G ds) (hp : ds.all plain = true) (hl : ds.length ≤ 1000) : DE K (tTup tr) G (.tuple ds) := fun σ B H x en Q q =>
  h σ B H x en _ fun vs B1 H1 g1 r1 => ⟨by rw [Paired.length r1]; exact Nat.le_trans hl (by decide), fun p hn => by
    have g2 : Go B1 H1 (upd B1 p (.tup vs)) (upd H1 p (.tup vs)) := Go.new g1.sub hn
    exact q _ _ _ (g1.trans g2) (.d (.tup (.inl (.inl upd_same)) ((RtA.ex g2.eb r1).dps hp)))⟩
theorem de_lst {tr : TA} {ds : List PyData} (h : DA K tr G ds) (hp : ds.all plain = true) (hl : ds.length ≤ 1000) : DE K (tLst tr) G (.list ds) := fun σ B H x en Q q =>
  h σ B H x en _ fun vs B1 H1 g1 r1 => ⟨by rw [Paired.length r1]; exact Nat.le_trans hl (by decide), fun p hn => by
    have g2 : Go B1 H1 (upd B1 p (.lst vs)) (upd H1 p (.lst vs)) := Go.new g1.sub hn
    exact q _ _ _ (g1.trans g2) (.d (.lst (.inl (.inl upd_same)) ((RtA.ex g2.eb r1).dps hp)))⟩
theorem de_lstX {tr : TA} {ds : List PyData} (h : DA K tr G ds) (hp : ds.all plain = true) (hl : ds.length ≤ 1000) : DE K (tLst tr) G (listX ds) := fun σ B H x en Q q =>
  h σ B H x en _ fun vs B1 H1 g1 r1 => ⟨by rw [Paired.length r1]; exact Nat.le_trans hl (by decide), fun p hn => by
    have g2 : Go B1 H1 (upd B1 p (.lst vs)) (upd H1 p (.lst vs)) := Go.new g1.sub hn
    exact q _ _ _ (g1.trans g2) (.lstX upd_same ((RtA.ex g2.eb r1).dps hp))⟩
theorem rt_bool {B : Hp} {v : V} (h : Rt K B v (.bool b)) : v = .bl b := by
  have h := h.dp rfl
  cases h
  rfl
theorem rt_int {B : Hp} {v : V} {i : Int} (h : Rt K B v (.int i)) : v = .int i := by
  have h := h.dp rfl
  cases h
  rfl
theorem rt_str {B : Hp} {v : V} {s : Str} (h : Rt K B v (.str s)) : v = .str s := by
  have h := h.dp rfl
  cases h
  rfl
theorem de_and (h1 : DE K ta G (.bool b)) (h2 : b = true → DE K tb G (.bool c)) : DE K (tAndV ta tb) G (.bool (b && c)) := fun σ B H x en Q q =>
  h1 σ B H x en _ fun v B1 H1 g1 r1 => ⟨b, rt_bool r1, by
    cases b with
    | true =>
      rw [if_pos rfl]
      exact h2 rfl σ B1 H1 g1.sub (en.ex g1.eb) _ fun v B2 H2 g2 r2 => q v B2 H2 (g1.trans g2) r2
    | false =>
      rw [if_neg Bool.false_ne_true]
      exact q _ B1 H1 g1 (.d (.bl false))⟩
theorem de_or (h1 : DE K ta G (.bool b)) (h2 : b = false → DE K tb G (.bool c)) : DE K (tOrV ta tb) G (.bool (b || c)) := fun σ B H x en Q q =>
  h1 σ B H x en _ fun v B1 H1 g1 r1 => ⟨b, rt_bool r1, by
    cases b with
    | true =>
      rw [if_pos rfl]
      exact q _ B1 H1 g1 (.d (.bl true))
    | false =>
      rw [if_neg Bool.false_ne_true]
      exact h2 rfl σ B1 H1 g1.sub (en.ex g1.eb) _ fun v B2 H2 g2 r2 => q v B2 H2 (g1.trans g2) r2⟩
theorem de_not (h1 : DE K ta G (.bool b)) : DE K (tNotV ta) G (.bool (!b)) := fun σ B H x en Q q =>
  h1 σ B H x en _ fun v B1 H1 g1 r1 => ⟨b, rt_bool r1, q _ B1 H1 g1 (.d (.bl _))⟩
theorem de_if (h : DT K t G b) (h1 : b = true → DE K ta G d) (h2 : b = false → DE K tb G d) : DE K (tIf t ta tb) G d := fun σ B H x en Q q =>
  h σ B H x en _ fun B1 H1 g1 => by
    cases b with
    | true =>
      rw [if_pos rfl]
      exact h1 rfl σ B1 H1 g1.sub (en.ex g1.eb) _ fun v B2 H2 g2 r2 => q v B2 H2 (g1.trans g2) r2
    | false =>
      rw [if_neg Bool.false_ne_true]
      exact h2 rfl σ B1 H1 g1.sub (en.ex g1.eb) _ fun v B2 H2 g2 r2 => q v B2 H2 (g1.trans g2) r2
theorem dt_B (h : DE K te G (.bool b)) : DT K (tB te) G b := fun σ B H x en Q q => h σ B H x en _ fun v B1 H1 g1 r1 => ⟨b, rt_bool r1, q B1 H1 g1⟩
theorem dt_test (h : DE K te G (.bool b)) : DT K (tTest te) G b := fun σ B H x en Q q => h σ B H x en _ fun v B1 H1 g1 r1 => ⟨b, rt_bool r1, q B1 H1 g1⟩
theorem dt_and (h1 : DT K t G b) (h2 : b = true → DT K u G c) : DT K (tAnd t u) G (b && c) := fun σ B H x en Q q =>
  h1 σ B H x en _ fun B1 H1 g1 => by
    cases b with
    | true =>
      rw [if_pos rfl]
      exact h2 rfl σ B1 H1 g1.sub (en.ex g1.eb) _ fun B2 H2 g2 => q B2 H2 (g1.trans g2)
    | false =>
      rw [if_neg Bool.false_ne_true]
      exact q B1 H1 g1
theorem dt_or (h1 : DT K t G b) (h2 : b = false → DT K u G c) : DT K (tOr t u) G (b || c) := fun σ B H x en Q q =>
  h1 σ B H x en _ fun B1 H1 g1 => by
    cases b with
    | true =>
      rw [if_pos rfl]
      exact q B1 H1 g1
    | false =>
      rw [if_neg Bool.false_ne_true]
      exact h2 rfl σ B1 H1 g1.sub (en.ex g1.eb) _ fun B2 H2 g2 => q B2 H2 (g1.trans g2)
theorem dt_not (h1 : DT K t G b) : DT K (tNot t) G (!b) := fun σ B H x en Q q => h1 σ B H x en _ fun B1 H1 g1 => q B1 H1 g1
/-- a value operation on two data -/
def RD (K : PySem.W.Frag) (r : R2) (d e f : PyData) : Prop := ∀ B H v w, Ex B H → Rt K B v d → Rt K B w e → ∀ Q : VK, (∀ z B' H', Go B H B' H' → Rt K B' z f → Q z H') → r v w H Q
theorem de_op {r : R2} (h1 : DE K ta G d) (h2 : DE K tb G e) (hr : RD K r d e f) : DE K (tOp r ta tb) G f := fun σ B H x en Q q =>
  h1 σ B H x en _ fun v B1 H1 g1 r1 => h2 σ B1 H1 g1.sub (en.ex g1.eb) _ fun w B2 H2 g2 r2 =>
    hr B2 H2 v w g2.sub (r1.ex g2.eb) r2 _ fun z B3 H3 g3 r3 => q z B3 H3 (g1.trans (g2.trans g3)) r3
theorem de_chain {r r' : R2} {e' : PyData} (h1 : DE K ta G d) (h2 : DE K tb G e) (h3 : b = true → DE K tc G e') (hr : RD K r d e (.bool b)) (hr' : b = true → RD K r' e e' (.bool c)) :
    DE K (tChain r r' ta tb tc) G (.bool (b && c)) := fun σ B H x en Q q =>
  h1 σ B H x en _ fun v B1 H1 g1 r1 => h2 σ B1 H1 g1.sub (en.ex g1.eb) _ fun w B2 H2 g2 r2 =>
    hr B2 H2 v w g2.sub (r1.ex g2.eb) r2 _ fun z B3 H3 g3 r3 => ⟨b, rt_bool r3, by
      cases b with
      | true =>
        rw [if_pos rfl]
        exact h3 rfl σ B3 H3 g3.sub (((en.ex g1.eb).ex g2.eb).ex g3.eb) _ fun w' B4 H4 g4 r4 =>
          hr' rfl B4 H4 w w' g4.sub ((r2.ex g3.eb).ex g4.eb) r4 _ fun z5 B5 H5 g5 r5 => q z5 B5 H5 (g1.trans (g2.trans (g3.trans (g4.trans g5)))) r5
      | false =>
        rw [if_neg Bool.false_ne_true]
        exact q _ B3 H3 (g1.trans (g2.trans g3)) (.d (.bl false))⟩
/-- a call's rule on data -/
def CD (K : PySem.W.Frag) (r : List V → Hp → VK → Prop) (ds : List PyData) (f : PyData) : Prop := ∀ B H vs, Ex B H → RtA K B vs ds → ∀ Q : VK, (∀ z B' H', Go B H B' H' → Rt K B' z f → Q z H') → r vs H Q
theorem de_cb {r : List V → Hp → VK → Prop} {tr : TA} {ds : List PyData} (h : DA K tr G ds) (hr : CD K r ds f) : DE K (tCB r tr) G f := fun σ B H x en Q q =>
  h σ B H x en _ fun vs B1 H1 g1 r1 => hr B1 H1 vs g1.sub r1 _ fun z B2 H2 g2 r2 => q z B2 H2 (g1.trans g2) r2
theorem de_call {tr : TA} {ds : List PyData} {n : Nat} {pre : List PyData → Prop} {F : List PyData → PyData} {E : XK} (h : DA K tr G ds) (hn : ds.length = n) (hp : pre ds) : DE K (tCall (spD K n pre F) [] E tr) G (F ds) := fun σ B H x en Q q =>
  h σ B H x en _ fun vs B1 H1 g1 r1 => by
    rw [List.append_nil]
    exact ⟨B1, ds, g1.sub, r1, hn, hp, fun v B' H' g2 r2 => q v B' H' (g1.trans g2) r2⟩
/-! ### statements -/
variable {t1 t2 : TS} {r : Out}
theorem ds_seq {G1 : List (Option PyData)} (h1 : DS K t1 G (.nx G1)) (h2 : DS K t2 G1 r) : DS K (tSeq t1 t2) G r := fun D σ B H x en q =>
  h1 { D with nx := t2 D } σ B H x en fun σ' B' H' g e => h2 D σ' B' H' g.sub e (q.go g)
theorem ds_seqR (h1 : DS K t1 G (.rt d)) : DS K (tSeq t1 t2) G (.rt d) := fun D σ B H x en q => h1 { D with nx := t2 D } σ B H x en q
theorem ds_next : DS K tNext G (.nx G) := fun D σ B H x en q => q σ B H (.refl x) en
theorem ds_ret (h : DE K te G d) : DS K (tRet te) G (.rt d) := fun D σ B H x en q => h σ B H x en _ fun v B' H' g r => q v B' H' g r
theorem ds_set {i : Nat} (h : DE K te G d) : DS K (tAsg te (gName i)) G (.nx (G.set i (some d))) := fun D σ B H x en q =>
  h σ B H x en _ fun v B' H' g r => q _ B' H' g ((en.ex g.eb).set i r)
theorem ds_drop (h : DE K te G d) : DS K (tDrop te) G (.nx G) := fun D σ B H x en q => h σ B H x en _ fun v B' H' g r => q σ B' H' g (en.ex g.eb)
theorem ds_if (h : DT K t G b) (h1 : b = true → DS K t1 G r) (h2 : b = false → DS K t2 G r) : DS K (tIfS t t1 t2) G r := fun D σ B H x en q =>
  h σ B H x en _ fun B1 H1 g1 => by
    cases b with
    | true =>
      rw [if_pos rfl]
      exact h1 rfl D σ B1 H1 g1.sub (en.ex g1.eb) (q.go g1)
    | false =>
      rw [if_neg Bool.false_ne_true]
      exact h2 rfl D σ B1 H1 g1.sub (en.ex g1.eb) (q.go g1)
/-- if .. : return .. ; the rest -/
theorem ds_guard (h : DT K t G b) (h1 : b = true → DS K t1 G (.rt d)) (h2 : b = false → DS K t2 G (.rt d)) : DS K (tSeq (tIfS t t1 tNext) t2) G (.rt d) := fun D σ B H x en q =>
  h σ B H x en _ fun B1 H1 g1 => by
    cases b with
    | true =>
      rw [if_pos rfl]
      exact h1 rfl { D with nx := t2 D } σ B1 H1 g1.sub (en.ex g1.eb) (Out.Ok.go (K := K) (r := .rt d) g1 q)
    | false =>
      rw [if_neg Bool.false_ne_true]
      exact h2 rfl D σ B1 H1 g1.sub (en.ex g1.eb) (Out.Ok.go (K := K) (r := .rt d) g1 q)
end
end FC
/-! Data logic: the operations. -/
namespace FC
open PySem PySem.Spec PyProof.Rows L2
open Evl (Ex)
section
variable {X : Cx}
theorem pe_dead {e : Expr} : PE X e (fun _ _ _ => False) := ⟨fun _ _ _ _ _ _ h => h.elim⟩
theorem pt_dead {e : Expr} : PT X e (fun _ _ _ => False) := ⟨fun _ _ _ _ _ _ h => h.elim⟩
theorem pe_either {e : Expr} {t u : TE} (h : PE X e t) (h2 : PE X e u) : PE X e (fun σ H Q => t σ H Q ∨ u σ H Q) := ⟨fun pins s σ H Q I q => by
  rcases q with q | q
  · exact h.run pins s σ H Q I q
  · exact h2.run pins s σ H Q I q⟩
theorem ps_either {e : Stmt} {t u : TS} (h : PS X e t) (h2 : PS X e u) : PS X e (fun D σ H => t D σ H ∨ u D σ H) := ⟨fun pins s σ H D I q => by
  rcases q with q | q
  · exact h.run pins s σ H D I q
  · exact h2.run pins s σ H D I q⟩
end
/-- a def of the module by its name, its promise on data -/
structure Cl (P : Program) (w : World) (K : PySem.W.Frag) (mg : Str → Option Value) (base : Heap) (k : Nat) (x : Str) (sp : Sp) : Prop where
  ex : ∃ (f : Addr) (fd : FuncData) (ps : List Str), FnOk P w K mg base CX0 k f fd ps sp ∧ mg x = some (.ref f) ∧ PySem.W.keepIn K (.ref f) = true ∧ Binds K fd ps []
section
variable {X : Cx} {k j : Nat} {x : Str} {sp : Sp} {p pos : Pos} {e : Expr} {es : List Expr} {t : TA}
theorem pe_cl (c : Cl X.prog X.w X.K X.mg X.base k x sp) (hr : Room j X.A) (hk : k ≤ j) (hg : Gl X x) (ha : PA X (e :: es) t)
    (hdb : (x == ("__debug__" : Str)) = false := by decide) (he : starEach (e :: es) X.env = (false, eval e X.env) :: starEach es X.env := by rfl) (hpl : (backTo pos (starEach es X.env)).any (·.1) = false := by rfl) :
    PE X (.Call (.Name x p) (e :: es) [] pos) (tCall sp [] E0 t) := by
  obtain ⟨f, fd, ps, F, hm, kp, b⟩ := c.ex
  exact pe_call F (hr.mono hk) hg hm kp b .nil pass0 ha hdb he hpl
end
section
variable {K : PySem.W.Frag} {G : List (Option PyData)} {ta tb te tc : TE} {t u : TT} {d e f : PyData} {b c : Bool}
/-! ### == , is None, <= -/
theorem rd_eq (hd : SeqAt.shaped d = true) (he : SeqAt.shaped e = true) (pd : plain d = true) (pe : plain e = true) : RD K (rEqD K) d e (.bool (PyData.eqv d e)) := fun B H v w x r1 r2 Q q =>
  ⟨d, e, dp_ex x _ _ (r1.dp pd), dp_ex x _ _ (r2.dp pe), hd, he, q _ B H (.refl x) (.d (.bl _))⟩
theorem rd_ne (hd : SeqAt.shaped d = true) (he : SeqAt.shaped e = true) (pd : plain d = true) (pe : plain e = true) : RD K (rNeD K) d e (.bool (!PyData.eqv d e)) := fun B H v w x r1 r2 Q q =>
  ⟨d, e, dp_ex x _ _ (r1.dp pd), dp_ex x _ _ (r2.dp pe), hd, he, q _ B H (.refl x) (.d (.bl _))⟩
def isNon : PyData → Bool
  | .none => true
  | _ => false
theorem rt_isnon {B : Hp} {v : V} (h : Rt K B v d) : decide (v = V.non) = isNon d := by
  cases h with
  | d h => cases h <;> simp [isNon]
  | dict e1 h nd => simp [isNon, dictOf]
  | dictU e1 h nd => simp [isNon, dictU]
  | dictL e1 h nd => simp [isNon, dictL]
  | lstX e1 h => simp [isNon, listX]
theorem de_isN (h : DE K ta G d) : DE K (tIsN ta) G (.bool (isNon d)) := fun σ B H x en Q q => h σ B H x en _ fun v B' H' g r => by
  rw [rt_isnon r]
  exact q _ B' H' g (.d (.bl _))
theorem de_notN (h : DE K ta G d) : DE K (tNotN ta) G (.bool (!isNon d)) := fun σ B H x en Q q => h σ B H x en _ fun v B' H' g r => by
  rw [rt_isnon r]
  exact q _ B' H' g (.d (.bl _))
theorem rd_le {i j : Int} : RD K (rI0 fun i j => .bl (decide (i ≤ j))) (.int i) (.int j) (.bool (decide (i ≤ j))) := fun B H v w x r1 r2 Q q => ⟨i, j, rt_int r1, rt_int r2, q _ B H (.refl x) (.d (.bl _))⟩
theorem rd_ge {i j : Int} : RD K (rI0 fun i j => .bl (decide (j ≤ i))) (.int i) (.int j) (.bool (decide (j ≤ i))) := fun B H v w x r1 r2 Q q => ⟨i, j, rt_int r1, rt_int r2, q _ B H (.refl x) (.d (.bl _))⟩
theorem rd_gt {i j : Int} : RD K (rI0 fun i j => .bl (decide (j < i))) (.int i) (.int j) (.bool (decide (j < i))) := fun B H v w x r1 r2 Q q => ⟨i, j, rt_int r1, rt_int r2, q _ B H (.refl x) (.d (.bl _))⟩
theorem rd_lt {i j : Int} : RD K (rI0 fun i j => .bl (decide (i < j))) (.int i) (.int j) (.bool (decide (i < j))) := fun B H v w x r1 r2 Q q => ⟨i, j, rt_int r1, rt_int r2, q _ B H (.refl x) (.d (.bl _))⟩
theorem rd_add {i j : Int} : RD K (rI0 fun i j => .int (i + j)) (.int i) (.int j) (.int (i + j)) := fun B H v w x r1 r2 Q q => ⟨i, j, rt_int r1, rt_int r2, q _ B H (.refl x) (.d (.int _))⟩
theorem rd_sub {i j : Int} : RD K (rI0 fun i j => .int (i - j)) (.int i) (.int j) (.int (i - j)) := fun B H v w x r1 r2 Q q => ⟨i, j, rt_int r1, rt_int r2, q _ B H (.refl x) (.d (.int _))⟩
def rLeS : R2 := fun x y H Q => ∃ i j, x = .str i ∧ y = .str j ∧ Q (.bl (!decide (j.cps.toList < i.cps.toList))) H
theorem op_leS {X : Cx} : OpR X (compareOp .LtE) rLeS := op_le_str
theorem rd_leS {i j : Str} : RD K rLeS (.str i) (.str j) (.bool (!decide (j.cps.toList < i.cps.toList))) := fun B H v w x r1 r2 Q q => ⟨i, j, rt_str r1, rt_str r2, q _ B H (.refl x) (.d (.bl _))⟩
/-! ### items -/
theorem rd_ixT {ds : List PyData} {i : Int} {j : Nat} (hi : i = (j : Int)) (h : ds[j]? = some d) : RD K (rIxT K) (.tuple ds) (.int i) d := fun B H v w x r1 r2 Q q => by
  have r1 := r1.dp rfl
  cases r1 with
  | tup hs ha =>
    obtain ⟨y, h1, h2⟩ := dps_get ha h
    exact ⟨_, _, i, y, rfl, rt_int r2, ex_t x hs, by rw [hi]; exact atI_nat h1, q y B H (.refl x) (.d h2)⟩
theorem rd_ixL {ds : List PyData} {i : Int} {j : Nat} (hi : i = (j : Int)) (h : ds[j]? = some d) : RD K (rIxL K) (.list ds) (.int i) d := fun B H v w x r1 r2 Q q => by
  have r1 := r1.dp rfl
  cases r1 with
  | lst hs ha =>
    obtain ⟨y, h1, h2⟩ := dps_get ha h
    exact ⟨_, _, i, y, rfl, rt_int r2, ex_l x hs, by rw [hi]; exact atI_nat h1, q y B H (.refl x) (.d h2)⟩
/-! ### isinstance, len, all, any -/
def tyN : PyData → String
  | .none => "NoneType" | .bool _ => "bool" | .int _ => "int" | .str _ => "str" | .list _ => "list" | .tuple _ => "tuple" | .dict ((.bool true, _) :: _) => "list" | .dict _ => "dict"
theorem tyN_dictOf (kvs : List (Str × PyData)) : tyN (dictOf kvs) = "dict" := by
  cases kvs <;> rfl
theorem rt_ty {B H : Hp} {v : V} (x : Ex B H) (h : Rt K B v d) : TyX K H v (.type (tyN d)) := by
  cases h with
  | d h =>
    cases h with
    | non => exact .base .non
    | bl b => exact .base (.bl b)
    | int i => exact .base (.int i)
    | str s => exact .base (.str s)
    | lst hs _ =>
      rcases ex_l x hs with (h | ⟨o, h⟩) | ⟨o, its, n, h, hc, _⟩
      · exact .base (.lst h)
      · exact .base (.frz h)
      · exact .kList h hc
    | tup hs _ =>
      rcases ex_t x hs with (h | ⟨o, h⟩) | ⟨o, its, n, h, hc, _⟩
      · exact .base (.tup h)
      · exact .fTuple h
      · exact .kTuple h hc
  | dict e1 h nd =>
    rw [tyN_dictOf]
    rcases ex_rd x e1 with h | ⟨o, h⟩
    · exact .base (.dK h)
    · exact .fDict h
  | dictU e1 h nd => exact .base (.dK (x _ _ e1))
  | dictL e1 h nd => exact .fDict (x _ _ e1)
  | lstX e1 h => exact .base (.lst (x _ _ e1))
theorem de_isi {n : String} (h : DE K ta G d) (hk : kitB (tyN d) n = some b) : DE K (tCB (rIsi K) (tCons ta (tCons (tC (.ty n)) tNil))) G (.bool b) := fun σ B H x en Q q =>
  h σ B H x en _ fun v B' H' g r => ⟨v, .ty n, .type (tyN d), .type n, b, rfl, .ty n, rt_ty g.sub r, kit_ty hk, q _ B' H' g (.d (.bl b))⟩
theorem de_ty {n m : String} (h : DE K ta G d) (ht : tyN d = m) (hk : kitB m n = some b) : DE K (tCB (rIsi K) (tCons ta (tCons (tC (.ty n)) tNil))) G (.bool b) := de_isi h (by rw [ht]; exact hk)
def rLen (K : PySem.W.Frag) : List V → Hp → VK → Prop := fun xs H Q => ∃ x n, xs = [x] ∧ LenV K x H n ∧ Q (.int n) H
theorem call_lenR {X : Cx} : CallR X (.builtin "len") (rLen X.K) := call_len
theorem cd_lenL {ds : List PyData} : CD K (rLen K) [.list ds] (.int ds.length) := fun B H vs x r Q q => by
  cases r with
  | cons r1 r2 =>
    cases r2
    have r1 := r1.dp rfl
    cases r1 with
    | lst hs ha => exact ⟨_, _, rfl, .inl ⟨_, ex_l x hs, (dps_len ha).symm⟩, q _ B H (.refl x) (.d (.int _))⟩
theorem cd_lenT {ds : List PyData} : CD K (rLen K) [.tuple ds] (.int ds.length) := fun B H vs x r Q q => by
  cases r with
  | cons r1 r2 =>
    cases r2
    have r1 := r1.dp rfl
    cases r1 with
    | tup hs ha => exact ⟨_, _, rfl, .inr ⟨_, ex_t x hs, (dps_len ha).symm⟩, q _ B H (.refl x) (.d (.int _))⟩
theorem cd_lenS {s : Str} (hl : s.length ≤ sizeLine) : CD K (rLen K) [.str s] (.int s.length) := fun B H vs x r Q q => by
  cases r with
  | cons r1 r2 =>
    cases r2
    have r1 := r1.dp rfl
    cases r1
    exact ⟨_, _, rfl, ⟨hl, rfl⟩, q _ B H (.refl x) (.d (.int _))⟩
theorem bools_dp {B : Hp} : ∀ {bs : List Bool} {vs : List V}, DpAll K B vs (bs.map PyData.bool) → vs = bs.map V.bl
  | [], _, h => by cases h; rfl
  | _ :: bs, _, h => by
    cases h with
    | cons h1 h2 =>
      cases h1
      rw [bools_dp h2]
      rfl
theorem cd_all {bs : List Bool} : CD K (rAll K) [.list (bs.map .bool)] (.bool (bs.all id)) := fun B H vs x r Q q => by
  cases r with
  | cons r1 r2 =>
    cases r2
    have r1 := r1.dp rfl
    cases r1 with
    | lst hs ha => exact ⟨_, bs, rfl, by rw [← bools_dp ha]; exact ex_l x hs, q _ B H (.refl x) (.d (.bl _))⟩
theorem cd_any {bs : List Bool} : CD K (rAny K) [.list (bs.map .bool)] (.bool (bs.any id)) := fun B H vs x r Q q => by
  cases r with
  | cons r1 r2 =>
    cases r2
    have r1 := r1.dp rfl
    cases r1 with
    | lst hs ha => exact ⟨_, bs, rfl, by rw [← bools_dp ha]; exact ex_l x hs, q _ B H (.refl x) (.d (.bl _))⟩
end
end FC
/-! Data logic: what is walked; comprehensions, loops; dicts. -/
namespace FC
open PySem PySem.Spec PyProof.Rows L2
open Evl (Ex)
/-- a target's effect on the slots -/
def TgOk (K : PySem.W.Frag) (T : List Nat) (g : TG) (ff : List (Option PyData) → List (Option PyData)) (P : Hp → V → Hp → Prop) : Prop :=
  ∀ B H σ G x H', Ex B H → En K B σ G → P H x H' → ∀ Q : L2.St → Hp → Prop, (∀ σ' B' H2, Go B H B' H2 → En K B' σ' (ff G) → (∀ vs, (∀ j ∈ T, j ∈ vs) → wipe σ' vs = wipe σ vs) → Q σ' H2) → g x σ H' Q
/-- wi gives n turns; turn i sets the slots as ff i says -/
def DIat (K : PySem.W.Frag) (wi : TI) (g : TG) (T : List Nat) (n : Nat) (ff : Nat → List (Option PyData) → List (Option PyData)) (σ : L2.St) (B H : Hp) : Prop :=
  ∀ R : It → Hp → Prop, (∀ J B1 H1 Y, Go B H B1 H1 → Walk J n (fun H2 => Ex B1 H2) Y →
    (∀ i, i < n → ∀ B2 H2 σ2 G2 x H3, Ex B1 B2 → Ex B2 H2 → En K B2 σ2 G2 → Y i H2 x H3 → ∀ Q : L2.St → Hp → Prop, (∀ σ' B' H4, Go B2 H2 B' H4 → En K B' σ' (ff i G2) → (∀ vs, (∀ j ∈ T, j ∈ vs) → wipe σ' vs = wipe σ2 vs) → Q σ' H4) → g x σ2 H3 Q) → R J H1) → wi σ H R
def DI (K : PySem.W.Frag) (wi : TI) (g : TG) (T : List Nat) (G : List (Option PyData)) (n : Nat) (ff : Nat → List (Option PyData) → List (Option PyData)) : Prop :=
  ∀ σ B H, Ex B H → En K B σ G → DIat K wi g T n ff σ B H
theorem wipe_set : ∀ {vs : List Nat} {σ : L2.St} {j : Nat} {x : Option V}, j ∈ vs → wipe (σ.set j x) vs = wipe σ vs
  | [], _, _, _, h => by cases h
  | v :: vs, σ, j, x, h => by
    show (wipe (σ.set j x) vs).set v none = (wipe σ vs).set v none
    by_cases hj : j ∈ vs
    · rw [wipe_set hj]
    · have e : j = v := by
        rcases List.mem_cons.mp h with h | h
        · exact h
        · exact absurd h hj
      subst e
      have key : ∀ (ws : List Nat) (τ : L2.St), j ∉ ws → wipe (τ.set j x) ws = (wipe τ ws).set j x := by
        intro ws
        induction ws with
        | nil => intro τ _; rfl
        | cons w ws ih =>
          intro τ hn
          show (wipe (τ.set j x) ws).set w none = ((wipe τ ws).set w none).set j x
          rw [ih τ (fun z => hn (List.mem_cons_of_mem _ z))]
          exact List.set_comm _ _ (fun z => hn (by rw [z]; exact List.mem_cons_self ..))
      rw [key vs σ hj, List.set_set]
theorem wipe_wipe {σ : L2.St} : ∀ {vs ws : List Nat}, (∀ j ∈ vs, j ∈ ws) → wipe (wipe σ vs) ws = wipe σ ws
  | [], _, _ => rfl
  | v :: vs, ws, h => by
    show wipe ((wipe σ vs).set v none) ws = wipe σ ws
    rw [wipe_set (h v (List.mem_cons_self ..)), wipe_wipe fun j hj => h j (List.mem_cons_of_mem _ hj)]
section
variable {K : PySem.W.Frag} {G : List (Option PyData)} {te td : TE} {tt : TT} {n : Nat} {g : TG} {T : List Nat} {wi : TI} {ff : Nat → List (Option PyData) → List (Option PyData)}
/-- over a list of data, a name as target -/
theorem di_list {ds : List PyData} {j : Nat} (h : DE K te G (.list ds)) : DI K (iList K te) (gName j) [j] G ds.length (fun i G2 => G2.set j ds[i]?) := fun σ B H x en R q =>
  h σ B H x en _ fun v B1 H1 g1 r1 => by
    have r1 := r1.dp rfl
    cases r1 with
    | @lst a xs _ hs ha =>
      refine ⟨a, rfl, ⟨xs, ex_l g1.sub hs⟩, ?_⟩
      have hl := dps_len ha
      refine q (Itl K a) B1 H1 (YAt xs) g1 ?_ fun i hi B2 H2 σ2 G2 y H3 e1 e2 en2 hy Q k => ?_
      · rw [← hl]
        exact walk_list.mono (fun H2 e => ex_l e hs) fun _ _ _ _ _ _ y => y
      · obtain ⟨rfl, hy⟩ := hy
        have hd : ds[i]? = some ds[i] := List.getElem?_eq_getElem hi
        obtain ⟨y', h1, h2⟩ := dps_get ha hd
        have : y = y' := Option.some.inj (hy.symm.trans h1)
        subst this
        refine k _ B2 H3 (.refl e2) ?_ fun vs hv => wipe_set (hv j (List.mem_singleton.mpr rfl))
        show En K B2 _ (G2.set j ds[i]?)
        rw [hd]
        exact en2.set j (.d (dp_ex e1 _ _ h2))
theorem di_tup {ds : List PyData} {j : Nat} (h : DE K te G (.tuple ds)) : DI K (iTup K te) (gName j) [j] G ds.length (fun i G2 => G2.set j ds[i]?) := fun σ B H x en R q =>
  h σ B H x en _ fun v B1 H1 g1 r1 => by
    have r1 := r1.dp rfl
    cases r1 with
    | @tup a xs _ hs ha =>
      refine ⟨a, rfl, ⟨xs, ex_t g1.sub hs⟩, ?_⟩
      have hl := dps_len ha
      refine q (Itt K a) B1 H1 (YAt xs) g1 ?_ fun i hi B2 H2 σ2 G2 y H3 e1 e2 en2 hy Q k => ?_
      · rw [← hl]
        exact walk_tup.mono (fun H2 e => ex_t e hs) fun _ _ _ _ _ _ y => y
      · obtain ⟨rfl, hy⟩ := hy
        have hd : ds[i]? = some ds[i] := List.getElem?_eq_getElem hi
        obtain ⟨y', h1, h2⟩ := dps_get ha hd
        have : y = y' := Option.some.inj (hy.symm.trans h1)
        subst this
        refine k _ B2 H3 (.refl e2) ?_ fun vs hv => wipe_set (hv j (List.mem_singleton.mpr rfl))
        show En K B2 _ (G2.set j ds[i]?)
        rw [hd]
        exact en2.set j (.d (dp_ex e1 _ _ h2))
def sgnsOf (s : Str) : List PyData := s.cps.toList.map fun c => .str ⟨#[c]⟩
theorem di_str {s : Str} {j : Nat} (h : DE K te G (.str s)) : DI K (iStr te) (gName j) [j] G s.cps.size (fun i G2 => G2.set j (sgnsOf s)[i]?) := fun σ B H x en R q =>
  h σ B H x en _ fun v B1 H1 g1 r1 => by
    have e := rt_str r1
    subst e
    refine ⟨s, rfl, ?_⟩
    refine q (Its s) B1 H1 (fun i H v H' => H' = H ∧ ∃ c, s.cps[i]? = some c ∧ v = .str ⟨#[c]⟩) g1 ?_ fun i hi B2 H2 σ2 G2 y H3 e1 e2 en2 hy Q k => ?_
    · exact walk_str.mono (fun _ _ => trivial) fun _ _ _ _ _ _ y => y
    · obtain ⟨rfl, c, hc, rfl⟩ := hy
      have hd : (sgnsOf s)[i]? = some (.str ⟨#[c]⟩) := by
        unfold sgnsOf
        rw [List.getElem?_map, Array.getElem?_toList, hc]
        rfl
      refine k _ B2 H3 (.refl e2) ?_ fun vs hv => wipe_set (hv j (List.mem_singleton.mpr rfl))
      show En K _ _ (G2.set j (sgnsOf s)[i]?)
      rw [hd]
      exact en2.set j (.d (.str _))
/-- enumerate(list), target (name, (name, name)) with the items pairs: slots j, k, l -/
theorem di_enumP {ta : TA} {ps : List (PyData × PyData)} {j k l : Nat} (h : DA K ta G [.list (ps.map fun p => .tuple [p.1, p.2])]) :
    DI K (iEnum K ta) (gTup K 2 (gCons (gName j) (gCons (gTup K 2 (gCons (gName k) (gCons (gName l) gNil))) gNil))) [j, k, l] G ps.length
      (fun i G2 => ((G2.set j (some (.int i))).set k (ps[i]?.map (·.1))).set l (ps[i]?.map (·.2))) := fun σ B H x en R q =>
  h σ B H x en _ fun vs B1 H1 g1 r1 => by
    cases r1 with
    | cons r1 r2 =>
      cases r2
      have r1 := r1.dp rfl
      cases r1 with
      | @lst a xs _ hs ha =>
        refine ⟨a, xs, rfl, ex_l g1.sub hs, ?_⟩
        have hl := dps_len ha
        rw [List.length_map] at hl
        refine q (Ite K a) B1 H1 (YPair (fun i => some (.int (i : Nat))) (fun i => xs[i]?)) g1 ?_ fun i hi B2 H2 σ2 G2 y H3 e1 e2 en2 hy Q kk => ?_
        · rw [← hl]
          exact walk_enum.mono (fun H2 e => ex_l e hs) fun _ _ _ _ _ _ y => y
        · obtain ⟨t, y1, y2, rfl, ht, rfl, h1, h2⟩ := hy
          have hd : (ps.map fun p => PyData.tuple [p.1, p.2])[i]? = some (.tuple [ps[i].1, ps[i].2]) := by
            rw [List.getElem?_map, List.getElem?_eq_getElem hi]
            rfl
          obtain ⟨z, h3, h4⟩ := dps_get ha hd
          have ez : y2 = z := Option.some.inj (h2.symm.trans h3)
          have e1' : y1 = .int (i : Nat) := (Option.some.inj h1).symm
          subst ez e1'
          have h4 := dp_ex e1 _ _ h4
          cases h4 with
          | @tup b zs _ hz hza =>
            cases hza with
            | cons q1 hza =>
              cases hza with
              | cons q2 hza =>
                cases hza
                have gn : Go B2 H2 B2 (upd H2 t (.tup [.int (i : Nat), .ref b])) := Go.own e2 ht
                refine ⟨t, _, rfl, .inl (.inl upd_same), rfl, _, _, rfl, _, _, rfl, ⟨b, _, rfl, ex_t gn.sub hz, rfl, _, _, rfl, _, _, rfl, rfl, ?_⟩⟩
                refine ⟨rfl, ?_⟩
                refine kk _ B2 _ gn ?_ fun vs hv => ?_
                · show En K _ _ (((G2.set j (some (.int i))).set k (ps[i]?.map (·.1))).set l (ps[i]?.map (·.2)))
                  rw [List.getElem?_eq_getElem hi]
                  exact ((en2.set j (.d (.int _))).set k (.d q1)).set l (.d q2)
                · rw [wipe_set (hv l (by simp)), wipe_set (hv k (by simp)), wipe_set (hv j (by simp))]
theorem di_range {ta : TA} {m : Int} {j : Nat} (h : DA K ta G [.int m]) (h0 : 0 ≤ m) (h1 : m ≤ 100000) : DI K (iRng1 ta) (gName j) [j] G m.toNat (fun i G2 => G2.set j (some (.int (i : Nat)))) := fun σ B H x en R q =>
  h σ B H x en _ fun vs B1 H1 g1 r1 => by
    cases r1 with
    | cons r1 r2 =>
      cases r2
      have e := rt_int r1
      subst e
      refine ⟨m, rfl, by omega, by omega, ?_⟩
      refine q (Itr 0 m.toNat) B1 H1 (YFn fun i => .int (0 + (i : Nat))) g1 ?_ fun i hi B2 H2 σ2 G2 y H3 e1 e2 en2 hy Q k => ?_
      · exact walk_range.mono (fun _ _ => trivial) fun _ _ _ _ _ _ y => y
      · obtain ⟨rfl, rfl⟩ := hy
        show gName j (V.int (0 + (i : Int))) σ2 H3 Q
        rw [Int.zero_add]
        exact k _ B2 H3 (.refl e2) (en2.set j (.d (.int _))) fun vs hv => wipe_set (hv j (List.mem_singleton.mpr rfl))
/-- what a comprehension has made -/
def madeG (p : Nat → Bool) (d : Nat → PyData) (i : Nat) : List PyData := ((List.range i).filter p).map d
theorem madeG_yes {p : Nat → Bool} {d : Nat → PyData} {i : Nat} (h : p i = true) : madeG p d (i + 1) = madeG p d i ++ [d i] := by
  unfold madeG
  rw [List.range_succ, List.filter_append, List.map_append, List.filter_cons, if_pos h]
  rfl
theorem madeG_no {p : Nat → Bool} {d : Nat → PyData} {i : Nat} (h : p i = false) : madeG p d (i + 1) = madeG p d i := by
  unfold madeG
  rw [List.range_succ, List.filter_append, List.map_append, List.filter_cons, if_neg (by rw [h]; exact Bool.false_ne_true)]
  exact List.append_nil _
theorem madeG_len (p : Nat → Bool) (d : Nat → PyData) (i : Nat) : (madeG p d i).length ≤ i := by
  unfold madeG
  rw [List.length_map]
  have h := List.length_filter_le p (List.range i)
  rw [List.length_range] at h
  exact h
structure LcI (K : PySem.W.Frag) (B1 H1 : Hp) (D : Addr) (ds : List PyData) (B' H' : Hp) : Prop where
  go : Go B1 H1 B' H'
  nD : B' D = none
  acc : ∃ vs, H' D = some (.lst vs) ∧ DpAll K B' vs ds
theorem LcI.step {B1 H1 B' H' B2 H2 : Hp} {D : Addr} {ds : List PyData} (p : LcI K B1 H1 D ds B' H') (g : Go B' H' B2 H2) : LcI K B1 H1 D ds B2 H2 := by
  obtain ⟨vs, h1, h2⟩ := p.acc
  exact ⟨p.go.trans g, g.fr D _ h1 p.nD, vs, g.eh D _ h1, dps_ex g.eb _ _ h2⟩
theorem LcI.app {B1 H1 B' H' : Hp} {D : Addr} {ds : List PyData} {y : V} {d : PyData} (p : LcI K B1 H1 D ds B' H') (n1 : H1 D = none) (hl : ds.length ≤ 2000) (r : Dp K B' y d) :
    ∃ acc, H' D = some (.lst acc) ∧ acc.length < sizeLine ∧ LcI K B1 H1 D (ds ++ [d]) B' (upd H' D (.lst (acc ++ [y]))) := by
  obtain ⟨vs, h1, h2⟩ := p.acc
  have hlen := dps_len h2
  refine ⟨vs, h1, Nat.lt_of_le_of_lt (by rw [hlen]; exact hl) (by decide), ⟨⟨p.go.eb, Evl.Ex.mut p.go.eh n1, Evl.Ex.mut p.go.sub p.nD, p.go.fr⟩, p.nD, _, upd_same, dps_snoc r h2⟩⟩
theorem de_lcX {vs : List Nat} (p : Nat → Bool) (d : Nat → PyData) (hi : DI K wi g T G n ff) (hT : ∀ j ∈ T, j ∈ vs) (ht : ∀ i, i < n → DT K tt (ff i (wipeG G vs)) (p i)) (he : ∀ i, i < n → p i = true → DE K te (ff i (wipeG G vs)) (d i))
    (hp : ∀ i, i < n → p i = true → plain (d i) = true) (hn : n ≤ 2000) : DE K (tLc wi g tt te vs) G (listX (madeG p d n)) := fun σ B H x en Q q =>
  hi σ B H x en _ fun J B1 H1 Y g1 W turn => fun D hD => by
    refine lc_it W (fun i H' => ∃ B', LcI K B1 H1 D (madeG p d i) B' H') ⟨B1, Go.own g1.sub hD, sub_none g1.sub hD, [], upd_same, .nil⟩ (fun i H' _ ⟨B', p'⟩ => p'.go.eb.trans p'.go.sub) (fun i y H2 H3 hil ⟨B2, p2⟩ hy => ?_) (fun H2 ⟨B2, p2⟩ => ?_)
    · refine turn i hil B2 H2 (wipe σ vs) (wipeG G vs) y H3 p2.go.eb p2.go.sub ((en.ex (g1.eb.trans p2.go.eb)).wipe vs) hy _ fun σ' B3 H4 g3 en3 hw => ⟨?_, ?_⟩
      · exact (hw vs hT).trans (wipe_wipe fun _ h => h)
      · have p3 := p2.step g3
        refine ht i hil σ' B3 H4 g3.sub en3 _ fun B4 H5 g4 => ?_
        have p4 := p3.step g4
        cases hpi : p i with
        | true =>
          rw [if_pos rfl]
          refine he i hil hpi σ' B4 H5 g4.sub (en3.ex g4.eb) _ fun z B5 H6 g5 r5 => ?_
          have p5 := p4.step g5
          obtain ⟨acc, h1, h2, h3⟩ := p5.app hD (Nat.le_trans (madeG_len p d i) (by omega)) (r5.dp (hp i hil hpi))
          refine ⟨acc, h1, h2, B5, ?_⟩
          rw [madeG_yes hpi]
          exact h3
        | false =>
          rw [if_neg Bool.false_ne_true]
          refine ⟨B4, ?_⟩
          rw [madeG_no hpi]
          exact p4
    · obtain ⟨vs', h1, h2⟩ := p2.acc
      have gg : Go B H (upd B2 D (.lst vs')) H2 := by
        have g2 := g1.trans p2.go
        refine ⟨g2.eb.trans (Evl.Ex.new p2.nD), g2.eh, fun a o e => ?_, fun a o e nb => ?_⟩
        · by_cases ha : a = D
          · subst ha
            rw [upd_same] at e
            rw [← e]
            exact h1
          · rw [upd_ne ha] at e
            exact g2.sub a o e
        · have ha : a ≠ D := by
            intro z
            subst z
            have := Evl.fresh_back g1.eh hD
            rw [this] at e
            cases e
          rw [upd_ne ha]
          exact g2.fr a o e nb
      exact q _ _ _ gg (.lstX upd_same (dps_ex (Evl.Ex.new p2.nD) _ _ h2))
theorem de_lc {vs : List Nat} (p : Nat → Bool) (d : Nat → PyData) (hi : DI K wi g T G n ff) (hT : ∀ j ∈ T, j ∈ vs) (ht : ∀ i, i < n → DT K tt (ff i (wipeG G vs)) (p i)) (he : ∀ i, i < n → p i = true → DE K te (ff i (wipeG G vs)) (d i))
    (hp : ∀ i, i < n → p i = true → plain (d i) = true) (hn : n ≤ 2000) : DE K (tLc wi g tt te vs) G (.list (madeG p d n)) := de_ofX (de_lcX p d hi hT ht he hp hn)
theorem dt_yes : DT K tYes G true := fun σ B H x en Q q => q B H (.refl x)
/-- a for: every turn goes on -/
theorem ds_for {tb : TS} (Gs : Nat → List (Option PyData)) (hi : DI K wi g T G n ff) (h0 : Gs 0 = G) (hs : ∀ i, i < n → DS K tb (ff i (Gs i)) (.nx (Gs (i + 1)))) : DS K (tFor wi g tb) G (.nx (Gs n)) := fun D σ B H x en q =>
  hi σ B H x en _ fun J B1 H1 Y g1 W turn => by
    refine for_it W (fun i σ' H' => ∃ B', Go B1 H1 B' H' ∧ En K B' σ' (Gs i)) ⟨B1, .refl g1.sub, by rw [h0]; exact en.ex g1.eb⟩ (fun i σ' H' _ ⟨B', p'⟩ => p'.1.eb.trans p'.1.sub) (fun i y σ2 H2 H3 hil ⟨B2, p2, en2⟩ hy => ?_) (fun σ2 H2 ⟨B2, p2, en2⟩ => ?_)
    · refine turn i hil B2 H2 σ2 (Gs i) y H3 p2.eb p2.sub en2 hy _ fun σ' B3 H4 g3 en3 hw => ?_
      exact hs i hil _ σ' B3 H4 g3.sub en3 fun σ5 B5 H5 g5 en5 => ⟨B5, p2.trans (g3.trans g5), en5⟩
    · exact q σ2 B2 H2 (g1.trans p2) en2
/-- a for that returns at turn m -/
theorem ds_forR {tb : TS} {d : PyData} (m : Nat) (Gs : Nat → List (Option PyData)) (hi : DI K wi g T G n ff) (hm : m < n) (h0 : Gs 0 = G) (hs : ∀ i, i < m → DS K tb (ff i (Gs i)) (.nx (Gs (i + 1)))) (hr : DS K tb (ff m (Gs m)) (.rt d)) : DS K (tFor wi g tb) G (.rt d) := fun D σ B H x en q =>
  hi σ B H x en _ fun J B1 H1 Y g1 W turn => by
    refine for_it W (fun i σ' H' => i ≤ m ∧ ∃ B', Go B1 H1 B' H' ∧ En K B' σ' (Gs i)) ⟨Nat.zero_le _, B1, .refl g1.sub, by rw [h0]; exact en.ex g1.eb⟩ (fun i σ' H' _ ⟨_, B', p'⟩ => p'.1.eb.trans p'.1.sub) (fun i y σ2 H2 H3 hil ⟨him, B2, p2, en2⟩ hy => ?_) (fun σ2 H2 ⟨him, B2, p2, en2⟩ => absurd him (by omega))
    refine turn i hil B2 H2 σ2 (Gs i) y H3 p2.eb p2.sub en2 hy _ fun σ' B3 H4 g3 en3 hw => ?_
    by_cases e : i = m
    · subst e
      exact hr _ σ' B3 H4 g3.sub en3 fun v B5 H5 g5 r5 => q v B5 H5 (g1.trans (p2.trans (g3.trans g5))) r5
    · exact hs i (by omega) _ σ' B3 H4 g3.sub en3 fun σ5 B5 H5 g5 en5 => ⟨by omega, B5, p2.trans (g3.trans g5), en5⟩
end
/-! ### dicts -/
section
variable {K : PySem.W.Frag} {G : List (Option PyData)} {te td : TE} {kvs : List (Str × PyData)}
def look (kvs : List (Str × PyData)) (k : Str) : Option PyData := (kvs.find? fun q => decide (q.1 = k)).map (·.2)
theorem kr_look {B : Hp} {k : Str} : ∀ {ks : List (Key × V)} {kvs : List (Str × PyData)}, KR K B ks kvs → (valV ks (Sum.inr k : Key) = none ∧ look kvs k = none) ∨ ∃ v d, valV ks (Sum.inr k : Key) = some v ∧ look kvs k = some d ∧ Dp K B v d
  | _, _, .nil => .inl ⟨rfl, rfl⟩
  | (a, v) :: ks, (b, d) :: kvs, .cons r t => by
    obtain ⟨r1, r2⟩ := r
    simp only at r1 r2
    subst r1
    unfold valV look
    simp only [List.find?_cons]
    by_cases e : b = k
    · subst e
      refine .inr ⟨v, d, ?_, ?_, r2⟩ <;> simp
    · have e1 : decide ((Sum.inr b : Key) = Sum.inr k) = false := by simp [e]
      have e2 : decide (b = k) = false := by simp [e]
      rw [e1, e2]
      exact kr_look t
theorem de_dget {k : Str} {d : PyData} (h : DE K td G (dictOf kvs)) (hk : DE K te G (.str k)) (hl : look kvs k = some d) : DE K (tDGet td te) G d := fun σ B H x en Q q =>
  h σ B H x en _ fun v B1 H1 g1 r1 => hk σ B1 H1 g1.sub (en.ex g1.eb) _ fun y B2 H2 g2 r2 => by
    obtain ⟨a, ks, rfl, e1, kr, nd⟩ := rt_dict (r1.ex g2.eb)
    have := rt_str r2
    subst this
    rcases kr_look (k := k) kr with ⟨_, e⟩ | ⟨v, d', h1, h2, h3⟩
    · rw [e] at hl; cases hl
    · have : d = d' := Option.some.inj (hl.symm.trans h2)
      subst this
      exact ⟨a, v, rfl, .inl ⟨ks, Sum.inr k, ex_rd g2.sub e1, rfl, h1.symm⟩, q v B2 H2 (g1.trans g2) (.d h3)⟩
theorem de_din {k : Str} (h : DE K td G (dictOf kvs)) (hk : DE K te G (.str k)) : DE K (tDIn te td) G (.bool (look kvs k).isSome) := fun σ B H x en Q q =>
  hk σ B H x en _ fun y B1 H1 g1 r1 => h σ B1 H1 g1.sub (en.ex g1.eb) _ fun v B2 H2 g2 r2 => by
    obtain ⟨a, ks, rfl, e1, kr, nd⟩ := rt_dict r2
    have := rt_str r1
    subst this
    refine ⟨a, valV ks (Sum.inr k : Key), rfl, .inl ⟨ks, Sum.inr k, ex_rd g2.sub e1, rfl, rfl⟩, ?_⟩
    have e : (valV ks (Sum.inr k : Key)).isSome = (look kvs k).isSome := by
      rcases kr_look (k := k) kr with ⟨e1, e2⟩ | ⟨v, d', h1, h2, h3⟩
      · rw [e1, e2]; rfl
      · rw [h1, h2]; rfl
    rw [e]
    exact q _ B2 H2 (g1.trans g2) (.d (.bl _))
end
/-! ### a dict that is locked -/
section
variable {K : PySem.W.Frag} {B H : Hp} {a : Addr} {ks : List (Key × V)} {od : Obj}
theorem rd_lock {b : Addr} {u : HO} (e : B a = some (.dK ks)) (h : Rd B b u) : Rd (upd B a (.frz od (.dK ks))) b u := by
  by_cases hb : b = a
  · subst hb
    rcases h with h | ⟨o, h⟩
    · rw [e] at h
      cases h
      exact .inr ⟨od, upd_same⟩
    · rw [e] at h
      cases h
  · rcases h with h | ⟨o, h⟩
    · exact .inl (by rw [upd_ne hb]; exact h)
    · exact .inr ⟨o, by rw [upd_ne hb]; exact h⟩
theorem rd_unlock {b : Addr} {u : HO} (e : B a = some (.frz od (.dK ks))) (hu : ∀ o w, u ≠ .frz o w) (h : Rd B b u) : Rd (upd B a (.dK ks)) b u := by
  by_cases hb : b = a
  · subst hb
    rcases h with h | ⟨o, h⟩
    · rw [e] at h
      cases h
      exact (hu _ _ rfl).elim
    · rw [e] at h
      cases h
      exact .inl upd_same
  · rcases h with h | ⟨o, h⟩
    · exact .inl (by rw [upd_ne hb]; exact h)
    · exact .inr ⟨o, by rw [upd_ne hb]; exact h⟩
mutual
theorem dp_rd {B B' : Hp} (r : ∀ b u, (∀ o w, u ≠ .frz o w) → Rd B b u → Rd B' b u) : ∀ (d : PyData) (v : V), Dp K B v d → Dp K B' v d
  | .none, _, h => by cases h; exact .non
  | .bool b, _, h => by cases h; exact .bl b
  | .int i, _, h => by cases h; exact .int i
  | .str s, _, h => by cases h; exact .str s
  | .list ds, _, h => by
    cases h with
    | lst hs ha =>
      refine .lst ?_ (dps_rd r ds _ ha)
      rcases hs with hs | hs
      · exact .inl (r _ _ (fun _ _ z => nomatch z) hs)
      · exact .inr hs
  | .tuple ds, _, h => by
    cases h with
    | tup hs ha =>
      refine .tup ?_ (dps_rd r ds _ ha)
      rcases hs with hs | hs
      · exact .inl (r _ _ (fun _ _ z => nomatch z) hs)
      · exact .inr hs
  | .dict _, _, h => by cases h
theorem dps_rd {B B' : Hp} (r : ∀ b u, (∀ o w, u ≠ .frz o w) → Rd B b u → Rd B' b u) : ∀ (ds : List PyData) (vs : List V), DpAll K B vs ds → DpAll K B' vs ds
  | [], _, h => by cases h; exact .nil
  | d :: ds, _, h => by
    cases h with
    | cons h1 h2 => exact .cons (dp_rd r d _ h1) (dps_rd r ds _ h2)
end
theorem kr_rd {B B' : Hp} (r : ∀ b u, (∀ o w, u ≠ .frz o w) → Rd B b u → Rd B' b u) : ∀ {ks : List (Key × V)} {kvs : List (Str × PyData)}, KR K B ks kvs → KR K B' ks kvs
  | _, _, .nil => .nil
  | _, _, .cons q t => .cons ⟨q.1, dp_rd r _ _ q.2⟩ (kr_rd r t)
/-- the slots of which nothing is lost when a dict is locked -/
def keepP : Option PyData → Option PyData
  | some d => if plain d = true then some d else none
  | none => none
theorem en_rd {B B' : Hp} {σ : L2.St} {G : List (Option PyData)} (r : ∀ b u, (∀ o w, u ≠ .frz o w) → Rd B b u → Rd B' b u) (h : En K B σ G) : En K B' σ (G.map keepP) :=
  ⟨by rw [List.length_map, h.len], fun i d q => by
    rw [List.getElem?_map] at q
    cases e : G[i]? with
    | none => rw [e] at q; cases q
    | some od =>
      rw [e] at q
      cases od with
      | none => simp [keepP] at q
      | some x =>
        simp only [Option.map_some, keepP, Option.some.injEq] at q
        split at q
        · rename_i hp
          cases q
          obtain ⟨v, h1, h2⟩ := h.get i d e
          exact ⟨v, h1, .d (dp_rd r _ _ (h2.dp hp))⟩
        · cases q⟩
theorem ex_lock (x : Ex B H) (e : B a = some (.dK ks)) : Ex (upd B a (.frz od (.dK ks))) (upd H a (.frz od (.dK ks))) := fun b o h => by
  by_cases hb : b = a
  · subst hb
    rw [upd_same] at h ⊢
    exact h
  · rw [upd_ne hb] at h ⊢
    exact x b o h
theorem go_unlock {B' H' : Hp} (x : Ex B H) (e : B a = some (.dK ks)) (g : Go (upd B a (.frz od (.dK ks))) (upd H a (.frz od (.dK ks))) B' H') : Go B H (upd B' a (.dK ks)) (upd H' a (.dK ks)) := by
  refine ⟨fun b o h => ?_, fun b o h => ?_, fun b o h => ?_, fun b o h nb => ?_⟩
  · by_cases hb : b = a
    · subst hb
      rw [e] at h
      rw [upd_same]
      exact h
    · rw [upd_ne hb]
      exact g.eb b o (by rw [upd_ne hb]; exact h)
  · by_cases hb : b = a
    · subst hb
      rw [x _ _ e] at h
      rw [upd_same]
      exact h
    · rw [upd_ne hb]
      exact g.eh b o (by rw [upd_ne hb]; exact h)
  · by_cases hb : b = a
    · subst hb
      rw [upd_same] at h ⊢
      exact h
    · rw [upd_ne hb] at h ⊢
      exact g.sub b o h
  · have hb : b ≠ a := by
      intro z
      subst z
      rw [e] at nb
      cases nb
    rw [upd_ne hb]
    exact g.fr b o (by rw [upd_ne hb]; exact h) (by rw [upd_ne hb]; exact nb)
end
section
variable {K : PySem.W.Frag} {G : List (Option PyData)} {te td : TE} {kvs : List (Str × PyData)}
def keyD (kvs : List (Str × PyData)) (i : Nat) : Option PyData := kvs[i]?.map fun q => .str q.1
def valD (kvs : List (Str × PyData)) (i : Nat) : Option PyData := kvs[i]?.map fun q => q.2
theorem kr_get {B : Hp} {ks : List (Key × V)} {kvs : List (Str × PyData)} (h : KR K B ks kvs) : ∀ {i : Nat} {k : Key} {v : V}, ks[i]? = some (k, v) → ∃ s d, kvs[i]? = some (s, d) ∧ k = Sum.inr s ∧ Dp K B v d := by
  induction h with
  | nil => intro i k v e; simp at e
  | @cons p q l1 l2 r t ih =>
    intro i k v e
    cases i with
    | zero =>
      simp at e
      subst e
      exact ⟨q.1, q.2, rfl, r.1, r.2⟩
    | succ i =>
      obtain ⟨s, d, h1, h2, h3⟩ := ih (i := i) (by simpa using e)
      exact ⟨s, d, by simpa using h1, h2, h3⟩
theorem di_keys {a : Addr} {j : Nat} (h : DE K td G (dictL a kvs)) : DI K (iKeys td) (gName j) [j] G kvs.length (fun i G2 => G2.set j (keyD kvs i)) := fun σ B H x en R q =>
  h σ B H x en _ fun v B1 H1 g1 r1 => by
    obtain ⟨o, ks, rfl, e, kr, nd⟩ := rt_dictL r1
    refine ⟨a, o, rfl, .inl ⟨ks, g1.sub _ _ e, ?_⟩⟩
    have hl : ks.length = kvs.length := Paired.length kr
    refine q _ B1 H1 (fun i H x H' => H' = H ∧ ∃ k v, ks[i]? = some (k, v) ∧ x = kV k) g1 ?_ fun i hi B2 H2 σ2 G2 y H3 e1 e2 en2 hy Q k => ?_
    · rw [← hl]
      exact walk_keys.mono (fun H2 ee => ee _ _ e) fun _ _ _ _ _ _ y => y
    · obtain ⟨rfl, ky, v, hk, rfl⟩ := hy
      obtain ⟨s, d, h1, rfl, h3⟩ := kr_get kr hk
      refine k _ B2 H3 (.refl e2) ?_ fun vs hv => wipe_set (hv j (List.mem_singleton.mpr rfl))
      show En K B2 _ (G2.set j (keyD kvs i))
      unfold keyD
      rw [h1]
      exact en2.set j (.d (.str s))
theorem di_vals {a : Addr} {j : Nat} (h : DE K td G (dictL a kvs)) : DI K (iVals td) (gName j) [j] G kvs.length (fun i G2 => G2.set j (valD kvs i)) := fun σ B H x en R q =>
  h σ B H x en _ fun v B1 H1 g1 r1 => by
    obtain ⟨o, ks, rfl, e, kr, nd⟩ := rt_dictL r1
    refine ⟨a, o, ks, rfl, g1.sub _ _ e, ?_⟩
    have hl : ks.length = kvs.length := Paired.length kr
    refine q _ B1 H1 (fun i H x H' => H' = H ∧ ∃ k, ks[i]? = some (k, x)) g1 ?_ fun i hi B2 H2 σ2 G2 y H3 e1 e2 en2 hy Q k => ?_
    · rw [← hl]
      exact walk_values.mono (fun H2 ee => ee _ _ e) fun _ _ _ _ _ _ y => y
    · obtain ⟨rfl, ky, hk⟩ := hy
      obtain ⟨s, d, h1, rfl, h3⟩ := kr_get kr hk
      refine k _ B2 H3 (.refl e2) ?_ fun vs hv => wipe_set (hv j (List.mem_singleton.mpr rfl))
      show En K B2 _ (G2.set j (valD kvs i))
      unfold valD
      rw [h1]
      exact en2.set j (.d (dp_ex e1 _ _ h3))
def lockG (G : List (Option PyData)) (i : Nat) (a : Addr) (kvs : List (Str × PyData)) : List (Option PyData) := (G.map keepP).set i (some (dictL a kvs))
def unlockG (G : List (Option PyData)) (i : Nat) (kvs : List (Str × PyData)) : List (Option PyData) := (G.map keepP).set i (some (dictU kvs))
theorem en_setV {B : Hp} {σ : L2.St} {G : List (Option PyData)} {v : V} {d : PyData} {i : Nat} (h : En K B σ G) (hv : σ[i]? = some (some v)) (r : Rt K B v d) : En K B σ (G.set i (some d)) := by
  refine ⟨by rw [List.length_set, h.len], fun j e q => ?_⟩
  by_cases hij : i = j
  · subst hij
    have hl : i < G.length := by
      have := (List.getElem?_eq_some_iff.mp q).1
      simpa using this
    rw [List.getElem?_set_self hl] at q
    cases q
    exact ⟨v, hv, r⟩
  · rw [List.getElem?_set_ne hij] at q
    exact h.get j e q
theorem go_lock {B H : Hp} {σ : L2.St} {i : Nat} (x : Ex B H) (en : En K B σ G) (hG : G[i]? = some (some (dictU kvs))) :
    ∃ a ks, σ[i]? = some (some (.ref a)) ∧ B a = some (.dK ks) ∧ KR K B ks kvs ∧ (kvs.map (·.1)).Nodup ∧ ∀ od, Ex (upd B a (.frz od (.dK ks))) (upd H a (.frz od (.dK ks))) ∧ En K (upd B a (.frz od (.dK ks))) σ (lockG G i a kvs) := by
  obtain ⟨v, h1, h2⟩ := en.get i _ hG
  obtain ⟨a, ks, rfl, e, kr, nd⟩ := rt_dictU h2
  refine ⟨a, ks, h1, e, kr, nd, fun od => ⟨ex_lock x e, ?_⟩⟩
  have r : ∀ b u, (∀ o w, u ≠ .frz o w) → Rd B b u → Rd (upd B a (.frz od (.dK ks))) b u := fun b u _ h => rd_lock e h
  exact en_setV (en_rd r en) h1 (.dictL upd_same (kr_rd r kr) nd)
theorem de_lock {i : Nat} {t : TE} {d : PyData} (hG : G[i]? = some (some (dictU kvs))) (hp : plain d = true) (h : ∀ a, DE K t (lockG G i a kvs) d) : DE K (tLockE t) G d := fun σ B H x en Q q => by
  obtain ⟨a, ks, hv, e, kr, nd, lk⟩ := go_lock x en hG
  refine ⟨a, .dK ks, x _ _ e, trivial, fun od => ?_⟩
  obtain ⟨x1, en1⟩ := lk od
  refine h a σ _ _ x1 en1 _ fun v B' H' g r => ⟨g.eh _ _ upd_same, ?_⟩
  refine q v _ _ (go_unlock x e g) (.d (dp_rd (fun b u hu hr => rd_unlock (g.eb _ _ upd_same) hu hr) _ _ (r.dp hp)))
theorem ds_lock {i : Nat} {t : TS} {Gn : Addr → List (Option PyData)} {Go' : List (Option PyData)} (hG : G[i]? = some (some (dictU kvs))) (hn : ∀ a, (Gn a)[i]? = some (some (dictL a kvs))) (hu : ∀ a, unlockG (Gn a) i kvs = Go') (h : ∀ a, DS K t (lockG G i a kvs) (.nx (Gn a))) : DS K (tLock t) G (.nx Go') := fun D σ B H x en q => by
  obtain ⟨a, ks, hv, e, kr, nd, lk⟩ := go_lock x en hG
  refine ⟨a, .dK ks, x _ _ e, trivial, fun od => ?_⟩
  obtain ⟨x1, en1⟩ := lk od
  refine h a _ σ _ _ x1 en1 fun σ' B' H' g en' => ⟨g.eh _ _ upd_same, ?_⟩
  have r : ∀ b u, (∀ o w, u ≠ .frz o w) → Rd B' b u → Rd (upd B' a (.dK ks)) b u := fun b u hu hr => rd_unlock (g.eb _ _ upd_same) hu hr
  obtain ⟨v, h1, h2⟩ := en'.get i _ (hn a)
  obtain ⟨o2, ks2, rfl, e2, kr2, _⟩ := rt_dictL h2
  have e3 : B' a = some (.frz od (.dK ks)) := g.eb _ _ upd_same
  rw [e3] at e2
  cases e2
  refine q σ' _ _ (go_unlock x e g) ?_
  rw [← hu a]
  exact en_setV (en_rd r en') h1 (.dictU upd_same (kr_rd r kr2) nd)
/-- truth of a dict -/
theorem dt_dict {ta : TE} (h : DE K ta G (dictU kvs)) : DT K (fun σ H Q => ta σ H fun x H' => ∃ k, TruV K x H' k ∧ Q k H') G (!kvs.isEmpty) := fun σ B H x en Q q => h σ B H x en _ fun v B' H' g r => by
  obtain ⟨a, ks, rfl, e, kr, nd⟩ := rt_dictU r
  refine ⟨!kvs.isEmpty, .inr (.inr ⟨ks, g.sub _ _ e, ?_⟩), q B' H' g⟩
  have hl : ks.length = kvs.length := Paired.length kr
  cases ks <;> cases kvs <;> simp at hl ⊢
end
end FC
namespace FC
open PySem PySem.Spec PyProof.Rows L2
open Evl (Ex)
/-- the promise of a def: R tells which data it hands back for which arguments; nothing that stood is changed -/
def spR (K : PySem.W.Frag) (R : List PyData → PyData → Prop) : Sp := fun vs H Q _ =>
  ∃ B ds out, Ex B H ∧ RtA K B vs ds ∧ R ds out ∧ ∀ v B' H', Go B H B' H' → Rt K B' v out → Q v H'
section
variable {K : PySem.W.Frag} {G : List (Option PyData)} {R : List PyData → PyData → Prop} {ta : TA} {d : PyData} {ds : List PyData} {E : XK}
theorem spR_len {n : Nat} (hn : ∀ ds d, R ds d → ds.length = n) (vs : List V) (H : Hp) (Q : VK) (E : XK) (h : spR K R vs H Q E) : vs.length = n := by
  obtain ⟨B, ds, d, _, r, hR, _⟩ := h
  rw [Paired.length r, hn ds d hR]
theorem de_call' (h : DA K ta G ds) (hR : R ds d) : DE K (tCall (spR K R) [] E ta) G d := fun σ B H x en Q q =>
  h σ B H x en _ fun vs B1 H1 g1 r1 => by
    rw [List.append_nil]
    exact ⟨B1, ds, d, g1.sub, r1, hR, fun v B' H' g2 r2 => q v B' H' (g1.trans g2) r2⟩
theorem fin_rt {N : List Str} {ts : TS} {vs : List V} {B H : Hp} {Q : VK} (h : DS K ts (startG N ds) (.rt d)) (x : Ex B H) (r : RtA K B vs ds) (q : ∀ v B' H', Go B H B' H' → Rt K B' v d → Q v H') :
    ts { nx := fun _ H' => Q .non H', rt := Q } (start N vs) H := h _ _ B H x (En.start r) q
theorem fin_nx {N : List Str} {G' : List (Option PyData)} {ts : TS} {vs : List V} {B H : Hp} {Q : VK} (h : DS K ts (startG N ds) (.nx G')) (x : Ex B H) (r : RtA K B vs ds) (q : ∀ v B' H', Go B H B' H' → Rt K B' v .none → Q v H') :
    ts { nx := fun _ H' => Q .non H', rt := Q } (start N vs) H := h _ _ B H x (En.start r) fun σ' B' H' g _ => q _ B' H' g (.d .non)
theorem ds_is {t : TS} {r r' : Out} (h : DS K t G r) (e : r = r') : DS K t G r' := e ▸ h
end
end FC
namespace FP
open PySem PySem.Spec PyProof.Rows L2 FC
open Evl (Ex)
def topS (i : Nat) : Stmt := PySem.Challenge.pw_firstclause_k22_clauses_by_name.main.body.getD i (.Pass ⟨0, 0, 0, 0⟩)
abbrev s_is_whole : Stmt := topS 8
abbrev s_is_name : Stmt := topS 9
abbrev s_is_sound : Stmt := topS 12
abbrev s_is_kind : Stmt := topS 14
abbrev s_is_kinds : Stmt := topS 15
abbrev s_is_form : Stmt := topS 16
abbrev s_is_bounds : Stmt := topS 17
abbrev s_all_have_values : Stmt := topS 20
abbrev s_can_be_built : Stmt := topS 21
/-- the built-ins that the module leaves as they are -/
structure Bl (mg : Str → Option Value) : Prop where
  isi : mg "isinstance" = none
  len : mg "len" = none
  all : mg "all" = none
  int : mg "int" = none
  bool : mg "bool" = none
  str : mg "str" = none
  tuple : mg "tuple" = none
  list : mg "list" = none
  dict : mg "dict" = none
  enum : mg "enumerate" = none
  range : mg "range" = none
  max : mg "max" = none
  sum : mg "sum" = none
section
variable {X : Cx} {a e : Expr} {ta te : TE} {p pos pos2 : Pos}
theorem k_isi {T : Str} {n : String} (h : PE X a ta) (hg : Gl X "isinstance") (hm : X.mg "isinstance" = none) (hgT : Gl X T) (hmT : X.mg T = none) (hv : bootBuiltins T = some (.type n)) (hn : T ≠ "__name__") (hdb : (T == ("__debug__" : Str)) = false)
    (hs : starEach [a, .Name T pos2] X.env = (false, eval a X.env) :: starEach [.Name T pos2] X.env := by rfl) (hs2 : starEach [.Name T pos2] X.env = (false, eval (.Name T pos2) X.env) :: starEach [] X.env := by rfl) :
    PE X (.Call (.Name "isinstance" p) [a, .Name T pos2] [] pos) (tCB (rIsi X.K) (tCons ta (tCons (tC (.ty n)) tNil))) :=
  pe_callB call_isi hg hm PyProof.Rows.boot_isinstance (pa_cons h (pa_cons (pe_bltn hgT hmT hv rfl hn hdb) pa_nil hs2) hs) (he := hs)
end
theorem kii : kitB "int" "int" = some true := by decide +kernel
theorem kib : kitB "int" "bool" = some false := by decide +kernel
theorem kbi : kitB "bool" "int" = some true := by decide +kernel
theorem kbb : kitB "bool" "bool" = some true := by decide +kernel
theorem kni : kitB "NoneType" "int" = some false := by decide +kernel
theorem ksi : kitB "str" "int" = some false := by decide +kernel
theorem kli : kitB "list" "int" = some false := by decide +kernel
theorem kti : kitB "tuple" "int" = some false := by decide +kernel
theorem kdi : kitB "dict" "int" = some false := by decide +kernel
theorem kss : kitB "str" "str" = some true := by decide +kernel
theorem ktt : kitB "tuple" "tuple" = some true := by decide +kernel
theorem kll : kitB "list" "list" = some true := by decide +kernel
theorem kdd : kitB "dict" "dict" = some true := by decide +kernel
/-! ### the mirrors -/
def isWhole : PyData → Bool
  | .int _ => true
  | _ => false
def sgn (s : Str) (i : Nat) : Str := ⟨#[s.cps.getD i 0]⟩
def sgnOk (z : Str) : Bool := (!decide (z.cps.toList < ("a" : Str).cps.toList)) && !decide (("z" : Str).cps.toList < z.cps.toList)
def isNameS (s : Str) : Bool := decide ((1 : Int) ≤ s.length) && decide ((s.length : Int) ≤ 10) && ((List.range s.cps.size).map fun i => sgnOk (sgn s i)).all id
/-! ### which data for which arguments -/
def Rw_is_whole : List PyData → PyData → Prop := fun ds o => ∃ d, ds = [d] ∧ o = .bool (isWhole d)
def Rw_is_name : List PyData → PyData → Prop := fun ds o => ∃ s, ds = [.str s] ∧ isNameS s = true ∧ o = .bool true
def Rw_is_kind : List PyData → PyData → Prop := fun ds o => ∃ kvs s, ds = [dictOf kvs, .str s] ∧ o = .bool (look kvs s).isSome
def Rw_is_bounds : List PyData → PyData → Prop := fun ds o => ∃ i j, ds = [.int i, .int j] ∧ o = .bool (decide (i ≤ j))
inductive OkForm (kvs : List (Str × PyData)) : PyData → Prop where
  | nums {lo hi : Int} (h : lo ≤ hi) : OkForm kvs (.tuple [.str "numbers", .int lo, .int hi])
  | rows {s : Str} (h : (look kvs s).isSome = true) : OkForm kvs (.tuple [.str "rows", .str s])
def Rw_is_form : List PyData → PyData → Prop := fun ds o => ∃ kvs d, ds = [dictOf kvs, d] ∧ OkForm kvs d ∧ o = .bool true
structure KindsOk (kvs : List (Str × PyData)) : Prop where
  ne : kvs ≠ []
  few : kvs.length ≤ 100
  nm : ∀ q ∈ kvs, isNameS q.1 = true
  fm : ∀ q ∈ kvs, OkForm kvs q.2
  nd : (kvs.map (·.1)).Nodup
def Rw_is_kinds : List PyData → PyData → Prop := fun ds o => ∃ kvs, ds = [dictU kvs] ∧ KindsOk kvs ∧ o = .bool true
def Rw_all_have_values : List PyData → PyData → Prop := Rw_is_kinds
def Rw_can_be_built : List PyData → PyData → Prop := fun ds o => ∃ kvs d e, ds = [d, e] ∧ OkForm kvs d ∧ o = .bool true
section
variable {P : Program} {w : World} {K : PySem.W.Frag} {mg : Str → Option Value} {base : Heap} {f : Addr} {fd : FuncData}
theorem sc_is_whole : FnScope ["thing"] ["thing"] (defScope s_is_whole) := ⟨rfl, rfl, rfl, by decide +kernel, rfl, by decide +kernel, by decide +kernel⟩
theorem ok_is_whole (F : Fun K "is_whole" "is_whole" s_is_whole f fd) (M : Bl mg) : FnOk P w K mg base CX0 1 f fd ["thing"] (spR K Rw_is_whole) := by
  refine F.ok sc_is_whole (spR_len (by rintro _ _ ⟨d, rfl, _⟩; rfl)) (fun cdv A outer s H vs Q E hr h => ?_)
  obtain ⟨B, ds, o, x, r, ⟨d, rfl, rfl⟩, q⟩ := h
  refine ⟨_, pss_one (ps_ret (pe_and (k_isi (pv 0) (by rfl) M.isi (by rfl) M.int PyProof.Rows.boot_int (by decide) (by decide)) (pe_one (pe_not (k_isi (pv 0) (by rfl) M.isi (by rfl) M.bool PyProof.Rows.boot_bool (by decide) (by decide)))))), ?_⟩
  refine fin_rt (ds_ret ?_) x r q
  show DE K _ [some d] _
  cases d with
  | int i => exact de_is (de_and (de_ty (de_var rfl) rfl kii) fun _ => de_not (de_ty (de_var rfl) rfl kib)) rfl
  | bool b => exact de_is (de_and (de_ty (de_var rfl) rfl kbi) fun _ => de_not (de_ty (de_var rfl) rfl kbb)) rfl
  | none => exact de_is (de_and (c := true) (de_ty (de_var rfl) rfl kni) (fun z => nomatch z)) rfl
  | str s => exact de_is (de_and (c := true) (de_ty (de_var rfl) rfl ksi) (fun z => nomatch z)) rfl
  | list s => exact de_is (de_and (c := true) (de_ty (de_var rfl) rfl kli) (fun z => nomatch z)) rfl
  | tuple s => exact de_is (de_and (c := true) (de_ty (de_var rfl) rfl kti) (fun z => nomatch z)) rfl
  | dict s =>
    have hk : tyN (.dict s) = "dict" ∨ tyN (.dict s) = "list" := by
      unfold tyN
      split <;> simp_all
    rcases hk with e | e
    · exact de_is (de_and (c := true) (de_ty (de_var rfl) e kdi) (fun z => nomatch z)) rfl
    · exact de_is (de_and (c := true) (de_ty (de_var rfl) e kli) (fun z => nomatch z)) rfl
theorem madeG_bools (b : Nat → Bool) (n : Nat) : madeG (fun _ => true) (fun i => .bool (b i)) n = ((List.range n).map b).map PyData.bool := by
  unfold madeG
  rw [List.filter_eq_self.mpr (fun _ _ => rfl), List.map_map]
  rfl
theorem all_true {n : Nat} {b : Nat → Bool} (h : ∀ i, i < n → b i = true) : ((List.range n).map b).all id = true := by
  rw [List.all_eq_true]
  intro x hx
  obtain ⟨i, hi, rfl⟩ := List.mem_map.mp hx
  exact h i (List.mem_range.mp hi)
theorem signs_at {s : Str} {i : Nat} (h : i < s.cps.size) : (sgnsOf s)[i]? = some (PyData.str (sgn s i)) := by
  unfold sgnsOf sgn
  rw [List.getElem?_map, Array.getElem?_toList, Array.getElem?_eq_getElem h]
  simp [Array.getD, h]
theorem sc_is_name : FnScope ["thing", "sign"] ["thing"] (defScope s_is_name) := ⟨rfl, rfl, rfl, by decide +kernel, rfl, by decide +kernel, by decide +kernel⟩
theorem ok_is_name (F : Fun K "is_name" "is_name" s_is_name f fd) (M : Bl mg) : FnOk P w K mg base CX0 1 f fd ["thing"] (spR K Rw_is_name) := by
  refine F.ok sc_is_name (spR_len (by rintro _ _ ⟨d, rfl, _⟩; rfl)) (fun cdv A outer s H vs Q E hr h => ?_)
  obtain ⟨B, ds, o, x, r, ⟨d, rfl, hn, rfl⟩, q⟩ := h
  refine ⟨_, pss_cons (ps_if (pw_or (pt_not (pt_val (k_isi (pv 0) (by rfl) M.isi (by rfl) M.str PyProof.Rows.boot_str (by decide) (by decide)))) (pw_or1 (pt_not (pt_chain op_le op_le pe_int (pe_callB call_lenR (by rfl) M.len PySem.boot_len (pa_cons (pv 0) pa_nil)) pe_int)))).pt (pss_one (ps_ret pe_bl)) pss_nil)
    (pss_one (ps_ret (pe_callB (cr_all rfl) (by rfl) M.all PyProof.Rows.boot_all (pa_cons
      (pe_lc (own := [("sign", 1)]) (g := gName 1) (tt := tYes) rfl sc_is_name.nd (pi_str (pv 0)) (blkOk_by (N := ["thing", "sign"]) (sc := defScope s_is_name) (by decide +kernel)) (fun _ _ _ _ _ => pg_name (i := 1) sc_is_name.nd rfl (Or.inl rfl)) (fun _ _ _ _ _ => pts_nil)
        (fun _ _ _ _ _ => pe_chain op_leS op_leS pe_str (pv 1) pe_str)) pa_nil)))), ?_⟩
  refine fin_rt ?_ x r q
  show DS K _ [some (.str d), none] _
  unfold isNameS at hn
  rw [Bool.and_eq_true, Bool.and_eq_true] at hn
  obtain ⟨⟨h1, h2⟩, h3⟩ := hn
  have hz : (d.length : Int) ≤ 10 := of_decide_eq_true h2
  have hl : d.length ≤ sizeLine := Nat.le_trans (show d.length ≤ 10 by omega) (by decide)
  have hs : d.cps.size ≤ 10 := by
    have : d.length = d.cps.size := rfl
    omega
  refine ds_guard (b := false) (dt_is (dt_or (dt_not (dt_B (de_ty (de_var rfl) rfl kss))) fun _ => dt_not (dt_test (de_chain de_int (de_cb (da_cons (de_var rfl) da_nil) (cd_lenS hl)) (fun _ => de_int) rd_le fun _ => rd_le))) (by rw [h1, h2]; rfl)) (fun z => nomatch z) fun _ => ds_ret (de_is (de_cb (da_cons (de_is (de_lc (fun _ => true) (fun i => .bool (sgnOk (sgn d i))) (di_str (de_var rfl)) (by decide) (fun _ _ => dt_yes) (fun i hi _ => ?_) (fun _ _ _ => rfl) (by omega)) (congrArg PyData.list (madeG_bools _ _))) da_nil) cd_all) (by rw [h3]))
  refine de_chain de_str (de_var (d := .str (sgn d i)) ?_) (fun _ => de_str) rd_leS fun _ => rd_leS
  rw [signs_at hi]
  rfl
end
end FP
namespace FP
open PySem PySem.Spec PyProof.Rows L2 FC
open Evl (Ex)
theorem look_at {kvs : List (Str × PyData)} (nd : (kvs.map (·.1)).Nodup) : ∀ {i : Nat} {s : Str} {d : PyData}, kvs[i]? = some (s, d) → look kvs s = some d := by
  induction kvs with
  | nil => intro i s d h; simp at h
  | cons q qs ih =>
    intro i s d h
    rw [List.map_cons, List.nodup_cons] at nd
    unfold look
    rw [List.find?_cons]
    cases i with
    | zero =>
      simp at h
      subst h
      simp
    | succ i =>
      have h : qs[i]? = some (s, d) := by simpa using h
      have hm : s ∈ qs.map (·.1) := List.mem_map.mpr ⟨(s, d), List.mem_of_getElem? h, rfl⟩
      have hne : ¬ q.1 = s := by
        intro z
        rw [z] at nd
        exact nd.1 hm
      rw [decide_eq_false hne]
      exact ih nd.2 h
section
variable {P : Program} {w : World} {K : PySem.W.Frag} {mg : Str → Option Value} {base : Heap} {f : Addr} {fd : FuncData}
abbrev CL (P : Program) (w : World) (K : PySem.W.Frag) (mg : Str → Option Value) (base : Heap) (k : Nat) (x : Str) (R : List PyData → PyData → Prop) : Prop := Cl P w K mg base k x (spR K R)
theorem sc_is_kind : FnScope ["kinds", "thing"] ["kinds", "thing"] (defScope s_is_kind) := ⟨rfl, rfl, rfl, by decide +kernel, rfl, by decide +kernel, by decide +kernel⟩
theorem ok_is_kind (F : Fun K "is_kind" "is_kind" s_is_kind f fd) (M : Bl mg) : FnOk P w K mg base CX0 1 f fd ["kinds", "thing"] (spR K Rw_is_kind) := by
  refine F.ok sc_is_kind (spR_len (by rintro _ _ ⟨_, _, rfl, _⟩; rfl)) (fun cdv A outer s H vs Q E hr h => ?_)
  obtain ⟨B, ds, o, x, r, ⟨kvs, t, rfl, rfl⟩, q⟩ := h
  have hu := hu_of hr
  refine ⟨_, pss_one (ps_ret (pe_and (k_isi (pv 1) (by rfl) M.isi (by rfl) M.str PyProof.Rows.boot_str (by decide) (by decide)) (pe_one (pe_cmp (pc_din hu (pv 1) (pv 0)))))), ?_⟩
  refine fin_rt ?_ x r q
  show DS K _ [some (dictOf kvs), some (.str t)] _
  exact ds_ret (de_is (de_and (de_ty (de_var (d := .str t) rfl) rfl kss) fun _ => de_din (de_var rfl) (de_var rfl)) rfl)
theorem sc_is_bounds : FnScope ["low", "high"] ["low", "high"] (defScope s_is_bounds) := ⟨rfl, rfl, rfl, by decide +kernel, rfl, by decide +kernel, by decide +kernel⟩
theorem ok_is_bounds (F : Fun K "is_bounds" "is_bounds" s_is_bounds f fd) (M : Bl mg) (cw : CL P w K mg base 1 "is_whole" Rw_is_whole) : FnOk P w K mg base CX0 2 f fd ["low", "high"] (spR K Rw_is_bounds) := by
  refine F.ok sc_is_bounds (spR_len (by rintro _ _ ⟨_, _, rfl, _⟩; rfl)) (fun cdv A outer s H vs Q E hr h => ?_)
  obtain ⟨B, ds, o, x, r, ⟨i, j, rfl, rfl⟩, q⟩ := h
  refine ⟨_, pss_one (ps_ret (pe_and (pe_cl cw hr (by decide) (by rfl) (pa_cons (pv 0) pa_nil)) (pe_and (pe_cl cw hr (by decide) (by rfl) (pa_cons (pv 1) pa_nil)) (pe_one (pe_cmpR op_le (pv 0) (pv 1) (nomark _)))))), ?_⟩
  refine fin_rt ?_ x r q
  show DS K _ [some (.int i), some (.int j)] _
  exact ds_ret (de_is (de_and (de_call' (da_cons (de_var rfl) da_nil) ⟨.int i, rfl, rfl⟩) fun _ => de_and (de_call' (da_cons (de_var rfl) da_nil) ⟨.int j, rfl, rfl⟩) fun _ => de_op (de_var rfl) (de_var rfl) rd_le) rfl)
theorem eq_str {a b : Str} (hb : SeqAt.shaped (.str b) = true) {K : PySem.W.Frag} (ha : SeqAt.shaped (.str a) = true) : RD K (rEqD K) (.str a) (.str b) (.bool (a == b)) := rd_eq ha hb rfl rfl
theorem sc_is_form : FnScope ["kinds", "thing"] ["kinds", "thing"] (defScope s_is_form) := ⟨rfl, rfl, rfl, by decide +kernel, rfl, by decide +kernel, by decide +kernel⟩
theorem ok_is_form (F : Fun K "is_form" "is_form" s_is_form f fd) (M : Bl mg) (cb : CL P w K mg base 2 "is_bounds" Rw_is_bounds) (ck : CL P w K mg base 1 "is_kind" Rw_is_kind) : FnOk P w K mg base CX0 3 f fd ["kinds", "thing"] (spR K Rw_is_form) := by
  refine F.ok sc_is_form (spR_len (by rintro _ _ ⟨_, _, rfl, _⟩; rfl)) (fun cdv A outer s H vs Q E hr h => ?_)
  obtain ⟨B, ds, o, x, r, ⟨kvs, d, rfl, hf, rfl⟩, q⟩ := h
  have hu64 : (A.deeper (envOfC "is_form" (defScope s_is_form) s.heap.objs.size f cdv)).units + 64 < cLine := by have := hr.un; omega
  refine ⟨_, pss_cons (ps_if (pt_not (pt_val (k_isi (pv 1) (by rfl) M.isi (by rfl) M.tuple PyProof.Rows.boot_tuple (by decide) (by decide)))) (pss_one (ps_ret pe_bl)) pss_nil)
    (pss_cons (ps_if (pt_cmpR (op_eqD hu64) (pe_callB call_lenR (by rfl) M.len PySem.boot_len (pa_cons (pv 1) pa_nil)) pe_int (nomark _))
      (pss_one (ps_ret (pe_and (pe_cmpR (op_eqD hu64) (pe_ix ix_tup (pv 1) pe_int (fun _ _ => rfl)) pe_str (nomark _)) (pe_one (pe_cl cb hr (by decide) (by rfl) (pa_cons (pe_ix ix_tup (pv 1) pe_int (fun _ _ => rfl)) (pa_cons (pe_ix ix_tup (pv 1) pe_int (fun _ _ => rfl)) pa_nil))))))) pss_nil)
    (pss_cons (ps_if (pt_cmpR (op_neD hu64) (pe_callB call_lenR (by rfl) M.len PySem.boot_len (pa_cons (pv 1) pa_nil)) pe_int (nomark _)) (pss_one (ps_ret pe_bl)) pss_nil)
    (pss_cons (ps_if (pt_cmpR (op_eqD hu64) (pe_ix ix_tup (pv 1) pe_int (fun _ _ => rfl)) pe_str (nomark _)) pss_never pss_nil)
    (pss_cons (ps_if (pt_cmpR (op_eqD hu64) (pe_ix ix_tup (pv 1) pe_int (fun _ _ => rfl)) pe_str (nomark _)) pss_never pss_nil)
    (pss_one (ps_ret (pe_and (pe_cmpR (op_eqD hu64) (pe_ix ix_tup (pv 1) pe_int (fun _ _ => rfl)) pe_str (nomark _)) (pe_one (pe_cl ck hr (by decide) (by rfl) (pa_cons (pv 0) (pa_cons (pe_ix ix_tup (pv 1) pe_int (fun _ _ => rfl)) pa_nil))))))))))), ?_⟩
  refine fin_rt ?_ x r q
  show DS K _ [some (dictOf kvs), some d] _
  cases hf with
  | @nums lo hi h =>
    refine ds_guard (b := false) (dt_is (dt_not (dt_B (de_ty (de_var rfl) rfl ktt))) rfl) (fun z => nomatch z) fun _ => ?_
    refine ds_guard (b := true) (dt_test (de_op (de_cb (da_cons (de_var rfl) da_nil) cd_lenT) de_int (rd_eq rfl rfl rfl rfl))) (fun _ => ds_ret ?_) (fun z => nomatch z)
    refine de_is (de_and (de_op (de_op (de_var rfl) de_int (rd_ixT (j := 0) rfl rfl)) de_str (rd_eq (by decide +kernel) (by decide +kernel) rfl rfl)) fun _ => de_call' (da_cons (de_op (de_var rfl) de_int (rd_ixT (j := 1) rfl rfl)) (da_cons (de_op (de_var rfl) de_int (rd_ixT (j := 2) rfl rfl)) da_nil)) ⟨lo, hi, rfl, rfl⟩) ?_
    rw [decide_eq_true h]
    exact congrArg PyData.bool (by decide +kernel)
  | @rows t h =>
    refine ds_guard (b := false) (dt_is (dt_not (dt_B (de_ty (de_var rfl) rfl ktt))) rfl) (fun z => nomatch z) fun _ => ?_
    refine ds_guard (b := false) (dt_test (de_op (de_cb (da_cons (de_var rfl) da_nil) cd_lenT) de_int (rd_eq rfl rfl rfl rfl))) (fun z => nomatch z) fun _ => ?_
    refine ds_guard (b := false) (dt_test (de_op (de_cb (da_cons (de_var rfl) da_nil) cd_lenT) de_int (rd_ne rfl rfl rfl rfl))) (fun z => nomatch z) fun _ => ?_
    refine ds_guard (b := false) (dt_is (dt_test (de_op (de_op (de_var rfl) de_int (rd_ixT (j := 0) rfl rfl)) de_str (rd_eq (by decide +kernel) (by decide +kernel) rfl rfl))) (by decide +kernel)) (fun z => nomatch z) fun _ => ?_
    refine ds_guard (b := false) (dt_is (dt_test (de_op (de_op (de_var rfl) de_int (rd_ixT (j := 0) rfl rfl)) de_str (rd_eq (by decide +kernel) (by decide +kernel) rfl rfl))) (by decide +kernel)) (fun z => nomatch z) fun _ => ?_
    refine ds_ret (de_is (de_and (de_op (de_op (de_var rfl) de_int (rd_ixT (j := 0) rfl rfl)) de_str (rd_eq (by decide +kernel) (by decide +kernel) rfl rfl)) fun _ => de_call' (da_cons (de_var rfl) (da_cons (de_op (de_var rfl) de_int (rd_ixT (j := 1) rfl rfl)) da_nil)) ⟨kvs, t, rfl, rfl⟩) ?_)
    rw [h]
    exact congrArg PyData.bool (by decide +kernel)
theorem sc_can_be_built : FnScope ["form", "built", "_", "parts", "part"] ["form", "built"] (defScope s_can_be_built) := ⟨rfl, rfl, rfl, by decide +kernel, rfl, by decide +kernel, by decide +kernel⟩
theorem ok_can_be_built (F : Fun K "can_be_built" "can_be_built" s_can_be_built f fd) (M : Bl mg) : FnOk P w K mg base CX0 1 f fd ["form", "built"] (spR K Rw_can_be_built) := by
  refine F.ok sc_can_be_built (spR_len (by rintro _ _ ⟨_, _, _, rfl, _⟩; rfl)) (fun cdv A outer s H vs Q E hr h => ?_)
  obtain ⟨B, ds, o, x, r, ⟨kvs, d, e, rfl, hf, rfl⟩, q⟩ := h
  have hu64 : (A.deeper (envOfC "can_be_built" (defScope s_can_be_built) s.heap.objs.size f cdv)).units + 64 < cLine := by have := hr.un; omega
  refine ⟨_, pss_cons (ps_if (pt_cmpR (op_neD hu64) (pe_ix ix_tup (pv 0) pe_int (fun _ _ => rfl)) pe_str (nomark _)) (pss_one (ps_ret pe_bl)) pss_nil) pss_never, ?_⟩
  refine fin_rt ?_ x r q
  show DS K _ [some d, some e, none, none, none] _
  cases hf with
  | nums h => exact ds_guard (b := true) (dt_is (dt_test (de_op (de_op (de_var rfl) de_int (rd_ixT (j := 0) rfl rfl)) de_str (rd_ne (by decide +kernel) (by decide +kernel) rfl rfl))) (by decide +kernel)) (fun _ => ds_ret de_bl) (fun z => nomatch z)
  | rows h => exact ds_guard (b := true) (dt_is (dt_test (de_op (de_op (de_var rfl) de_int (rd_ixT (j := 0) rfl rfl)) de_str (rd_ne (by decide +kernel) (by decide +kernel) rfl rfl))) (by decide +kernel)) (fun _ => ds_ret de_bl) (fun z => nomatch z)
end
end FP
namespace FP
open PySem PySem.Spec PyProof.Rows L2 FC
open Evl (Ex)
section
variable {P : Program} {w : World} {K : PySem.W.Frag} {mg : Str → Option Value} {base : Heap} {f : Addr} {fd : FuncData}
def rLenD : List V → Hp → VK → Prop := fun xs H Q => ∃ a kvs, xs = [V.ref a] ∧ H a = some (.dK kvs) ∧ Q (.int (kvs.length : Int)) H
theorem call_lenDR {X : Cx} : CallR X (.builtin "len") rLenD := call_lenD
theorem cd_lenD {kvs : List (Str × PyData)} : CD K rLenD [dictU kvs] (.int kvs.length) := fun B H vs x r Q q => by
  cases r with
  | cons r1 r2 =>
    cases r2
    obtain ⟨a, ks, rfl, e, kr, nd⟩ := rt_dictU r1
    refine ⟨a, ks, rfl, x _ _ e, ?_⟩
    have hl : ks.length = kvs.length := Paired.length kr
    rw [hl]
    exact q _ B H (.refl x) (.d (.int _))
def keyS (kvs : List (Str × PyData)) (m : Nat) : Str := (kvs.getD m (Str.empty, .none)).1
def keysL (kvs : List (Str × PyData)) : List PyData := madeG (fun _ => true) (fun m => .str (keyS kvs m)) kvs.length
theorem keysL_len (kvs : List (Str × PyData)) : (keysL kvs).length = kvs.length := by
  unfold keysL madeG
  rw [List.filter_eq_self.mpr (fun _ _ => rfl), List.length_map, List.length_range]
theorem keyD_at {kvs : List (Str × PyData)} {m : Nat} (h : m < kvs.length) : keyD kvs m = some (.str (keyS kvs m)) := by
  unfold keyD keyS
  rw [List.getElem?_eq_getElem h, List.getD_eq_getElem?_getD, List.getElem?_eq_getElem h]
  rfl
theorem keepP_key (kvs : List (Str × PyData)) (m : Nat) : keepP (keyD kvs m) = keyD kvs m := by
  unfold keyD
  cases kvs[m]? <;> rfl
theorem sc_all_have_values : FnScope ["kinds", "built", "_", "kind"] ["kinds"] (defScope s_all_have_values) := ⟨rfl, rfl, rfl, by decide +kernel, rfl, by decide +kernel, by decide +kernel⟩
theorem ok_all_have_values (F : Fun K "all_have_values" "all_have_values" s_all_have_values f fd) (M : Bl mg) (cb : CL P w K mg base 1 "can_be_built" Rw_can_be_built) : FnOk P w K mg base CX0 2 f fd ["kinds"] (spR K Rw_all_have_values) := by
  refine F.ok sc_all_have_values (spR_len (by rintro _ _ ⟨_, rfl, _⟩; rfl)) (fun cdv A outer s H vs Q E hr h => ?_)
  obtain ⟨B, ds, o, x, r, ⟨kvs, rfl, ok, rfl⟩, q⟩ := h
  have hu := hu_of hr
  have hu64 : (A.deeper (envOfC "all_have_values" (defScope s_all_have_values) s.heap.objs.size f cdv)).units + 64 < cLine := by have := hr.un; omega
  refine ⟨_, pss_cons (ps_set (i := 1) sc_all_have_values.nd rfl (Or.inr rfl) (pe_lst pa_nil))
    (pss_cons (ps_lock (ps_for PassesOwn.never rfl (pi_keys (pv 0)) (pg_name (i := 2) sc_all_have_values.nd rfl (Or.inl rfl))
      (pss_one (ps_set (i := 1) sc_all_have_values.nd rfl (Or.inr rfl)
        (pe_lc (own := [("kind", 3)]) (g := gName 3) rfl sc_all_have_values.nd (pi_keys (pv 0)) (blkOk_by (N := ["kinds", "built", "_", "kind"]) (sc := defScope s_all_have_values) (by decide +kernel)) (fun _ _ _ _ _ => pg_name (i := 3) sc_all_have_values.nd rfl (Or.inl rfl))
          (fun _ _ _ _ _ => pts_one (pt_val (pe_cl cb hr (by decide) (by rfl) (pa_cons (pe_dget hu (pv 0) (pv 3) (fun _ _ => rfl)) (pa_cons (pv 1) pa_nil)))))
          (fun _ _ _ _ _ => pv 3))))))
    (pss_one (ps_ret (pe_cmpR (op_eqD hu64) (pe_callB call_lenR (by rfl) M.len PySem.boot_len (pa_cons (pv 1) pa_nil)) (pe_callB call_lenDR (by rfl) M.len PySem.boot_len (pa_cons (pv 0) pa_nil)) (nomark _))))), ?_⟩
  refine fin_rt ?_ x r q
  show DS K _ [some (dictU kvs), none, none, none] _
  obtain ⟨m, hm⟩ : ∃ m, kvs.length = m + 1 := ⟨kvs.length - 1, by have := ok.ne; cases kvs with | nil => exact absurd rfl this | cons => simp⟩
  refine ds_seq (ds_set (de_lst da_nil rfl (by decide))) (ds_seq (G1 := [some (dictU kvs), some (.list (keysL kvs)), keyD kvs m, none]) (ds_lock (i := 0) (kvs := kvs) (Gn := fun a => [some (dictL a kvs), some (.list (keysL kvs)), keyD kvs m, none]) rfl (fun a => rfl) (fun a => ?_) (fun a => ?_)) (ds_ret ?_))
  · show [some (dictU kvs), some (.list (keysL kvs)), keepP (keyD kvs m), none] = _
    rw [keepP_key]
  · let Gs : Nat → List (Option PyData) := fun i => match i with
      | 0 => [some (dictL a kvs), some (.list []), none, none]
      | i + 1 => [some (dictL a kvs), some (.list (keysL kvs)), keyD kvs i, none]
    refine ds_is (ds_for Gs (di_keys (a := a) (de_var rfl)) rfl fun i hi => ?_) ?_
    rotate_left
    · show Out.nx (Gs kvs.length) = _
      rw [hm]
    · have key : ∀ (e : PyData) (x2 : Option PyData), DS K (tAsg (tLc (iKeys (tVar 0)) (gName 3) (tB (tCall (spR K Rw_can_be_built) [] E0 (tCons (tDGet (tVar 0) (tVar 3)) (tCons (tVar 1) tNil)))) (tVar 3) [3]) (gName 1)) [some (dictL a kvs), some e, x2, none] (.nx [some (dictL a kvs), some (.list (keysL kvs)), x2, none]) := by
        intro e x2
        refine ds_is (ds_set (de_lc (fun _ => true) (fun m => .str (keyS kvs m)) (di_keys (a := a) (de_var rfl)) (by decide) (fun i hi => ?_) (fun i hi _ => ?_) (fun _ _ _ => rfl) (Nat.le_trans ok.few (by decide)))) rfl
        · have hk := keyD_at hi
          show DT K _ [some (dictL a kvs), some e, x2, keyD kvs i] _
          rw [hk]
          have hq : kvs[i]? = some (keyS kvs i, kvs[i].2) := by
            unfold keyS
            rw [List.getD_eq_getElem?_getD, List.getElem?_eq_getElem hi]
            rfl
          exact dt_B (de_call' (da_cons (de_dget (de_ofL (de_var rfl)) (de_var rfl) (look_at ok.nd hq)) (da_cons (de_var rfl) da_nil)) ⟨kvs, _, _, rfl, ok.fm (keyS kvs i, kvs[i].2) (List.mem_of_getElem? hq), rfl⟩)
        · show DE K _ [some (dictL a kvs), some e, x2, keyD kvs i] _
          rw [keyD_at hi]
          exact de_var rfl
      cases i with
      | zero => exact key _ _
      | succ i => exact key _ _
  · refine de_is (de_op (de_cb (da_cons (de_var rfl) da_nil) cd_lenL) (de_cb (da_cons (de_var rfl) da_nil) cd_lenD) (rd_eq rfl rfl rfl rfl)) ?_
    rw [keysL_len]
    show PyData.bool (((kvs.length : Int)) == (kvs.length : Int)) = _
    rw [beq_self_eq_true]
theorem sc_is_kinds : FnScope ["thing", "kind", "form"] ["thing"] (defScope s_is_kinds) := ⟨rfl, rfl, rfl, by decide +kernel, rfl, by decide +kernel, by decide +kernel⟩
theorem ok_is_kinds (F : Fun K "is_kinds" "is_kinds" s_is_kinds f fd) (M : Bl mg) (cn : CL P w K mg base 1 "is_name" Rw_is_name) (cf : CL P w K mg base 3 "is_form" Rw_is_form) (ca : CL P w K mg base 2 "all_have_values" Rw_all_have_values) : FnOk P w K mg base CX0 4 f fd ["thing"] (spR K Rw_is_kinds) := by
  refine F.ok sc_is_kinds (spR_len (by rintro _ _ ⟨_, rfl, _⟩; rfl)) (fun cdv A outer s H vs Q E hr h => ?_)
  obtain ⟨B, ds, o, x, r, ⟨kvs, rfl, ok, rfl⟩, q⟩ := h
  have hu := hu_of hr
  refine ⟨_, pss_cons (ps_if (pw_or (pt_not (pt_val (k_isi (pv 0) (by rfl) M.isi (by rfl) M.dict PyProof.Rows.boot_dict (by decide) (by decide)))) (pw_or1 (pt_not (pt_truth (pv 0) (by intro _; rfl))))).pt (pss_one (ps_ret pe_bl)) pss_nil)
    (pss_cons (ps_if (pt_not (pt_val (pe_callB (cr_all rfl) (by rfl) M.all PyProof.Rows.boot_all (pa_cons (pe_lock
      (pe_lc (own := [("kind", 1)]) (g := gName 1) (tt := tYes) rfl sc_is_kinds.nd (pi_keys (pv 0)) (blkOk_by (N := ["thing", "kind", "form"]) (sc := defScope s_is_kinds) (by decide +kernel)) (fun _ _ _ _ _ => pg_name (i := 1) sc_is_kinds.nd rfl (Or.inl rfl)) (fun _ _ _ _ _ => pts_nil)
        (fun _ _ _ _ _ => pe_cl cn hr (by decide) (by rfl) (pa_cons (pv 1) pa_nil)))) pa_nil)))) (pss_one (ps_ret pe_bl)) pss_nil)
    (pss_cons (ps_if (pt_not (pt_val (pe_callB (cr_all rfl) (by rfl) M.all PyProof.Rows.boot_all (pa_cons (pe_lock
      (pe_lc (own := [("form", 2)]) (g := gName 2) (tt := tYes) rfl sc_is_kinds.nd (pi_values (pv 0)) (blkOk_by (N := ["thing", "kind", "form"]) (sc := defScope s_is_kinds) (by decide +kernel)) (fun _ _ _ _ _ => pg_name (i := 2) sc_is_kinds.nd rfl (Or.inl rfl)) (fun _ _ _ _ _ => pts_nil)
        (fun _ _ _ _ _ => pe_cl cf hr (by decide) (by rfl) (pa_cons (pv 0) (pa_cons (pv 2) pa_nil))))) pa_nil)))) (pss_one (ps_ret pe_bl)) pss_nil)
    (pss_one (ps_ret (pe_cl ca hr (by decide) (by rfl) (pa_cons (pv 0) pa_nil)))))), ?_⟩
  refine fin_rt ?_ x r q
  show DS K _ [some (dictU kvs), none, none] _
  have hne : kvs.isEmpty = false := by
    have := ok.ne
    cases kvs with
    | nil => exact absurd rfl this
    | cons => rfl
  have all1 : ∀ n, ((List.range n).map fun _ => true).all id = true := fun n => all_true fun _ _ => rfl
  refine ds_guard (b := false) (dt_is (dt_or (dt_not (dt_B (de_ty (de_var rfl) rfl kdd))) fun _ => dt_not (dt_dict (de_var rfl))) (by rw [hne]; rfl)) (fun z => nomatch z) fun _ => ?_
  refine ds_guard (b := false) (dt_is (dt_not (dt_B (de_cb (da_cons (de_lock (i := 0) (kvs := kvs) (d := .list (((List.range kvs.length).map fun _ => true).map PyData.bool)) rfl rfl fun a => de_is (de_lc (fun _ => true) (fun _ => .bool true) (di_keys (a := a) (de_var rfl)) (by decide) (fun _ _ => dt_yes) (fun i hi _ => ?_) (fun _ _ _ => rfl) (Nat.le_trans ok.few (by decide))) (congrArg PyData.list (madeG_bools (fun _ => true) _))) da_nil) cd_all))) (by rw [all1]; rfl)) (fun z => nomatch z) fun _ => ?_
  · show DE K _ [some (dictL a kvs), keyD kvs i, none] _
    rw [keyD_at hi]
    refine de_call' (da_cons (de_var rfl) da_nil) ⟨_, rfl, ok.nm (keyS kvs i, kvs[i].2) ?_, rfl⟩
    have hq : kvs[i]? = some (keyS kvs i, kvs[i].2) := by
      unfold keyS
      rw [List.getD_eq_getElem?_getD, List.getElem?_eq_getElem hi]
      rfl
    exact List.mem_of_getElem? hq
  refine ds_guard (b := false) (dt_is (dt_not (dt_B (de_cb (da_cons (de_lock (i := 0) (kvs := kvs) (d := .list (((List.range kvs.length).map fun _ => true).map PyData.bool)) rfl rfl fun a => de_is (de_lc (fun _ => true) (fun _ => .bool true) (di_vals (a := a) (de_var rfl)) (by decide) (fun _ _ => dt_yes) (fun i hi _ => ?_) (fun _ _ _ => rfl) (Nat.le_trans ok.few (by decide))) (congrArg PyData.list (madeG_bools (fun _ => true) _))) da_nil) cd_all))) (by rw [all1]; rfl)) (fun z => nomatch z) fun _ => ?_
  · have hq : kvs[i]? = some (kvs[i].1, kvs[i].2) := List.getElem?_eq_getElem hi
    have hv : valD kvs i = some kvs[i].2 := by
      unfold valD
      rw [hq]
      rfl
    show DE K _ [some (dictL a kvs), none, valD kvs i] _
    rw [hv]
    exact de_call' (da_cons (de_ofL (de_var rfl)) (da_cons (de_var rfl) da_nil)) ⟨kvs, _, rfl, ok.fm _ (List.mem_of_getElem? hq), rfl⟩
  exact ds_ret (de_call' (da_cons (de_var rfl) da_nil) ⟨kvs, rfl, ok, rfl⟩)
end
end FP
namespace FP
open PySem PySem.Spec PyProof.Rows L2 FC
open Evl (Ex)
abbrev s_is_pattern : Stmt := topS 24
abbrev s_patterns_within : Stmt := topS 25
abbrev s_is_range_pattern : Stmt := topS 26
abbrev s_is_bound : Stmt := topS 27
abbrev s_pattern_fits : Stmt := topS 30
abbrev s_is_clause : Stmt := topS 33
abbrev s_is_clauses : Stmt := topS 34
abbrev s_first_fitting : Stmt := topS 35
abbrev s_values_within : Stmt := topS 37
/-! ### a form and all that it holds -/
def pairD (p : PyData × PyData) : PyData := .tuple [p.1, p.2]
inductive Sweep (W : PyData → PyData → PyData → Prop) : Nat → List (PyData × PyData) → Bool → Prop where
  | done (n : Nat) : Sweep W n [] true
  | bad {n : Nat} {ws : List (PyData × PyData)} {k t : PyData} (h : W k t .none) : Sweep W (n + 1) (ws ++ [(k, t)]) false
  | more {n : Nat} {ws held : List (PyData × PyData)} {k t : PyData} {b : Bool} (h : W k t (listX (held.map pairD))) (hl : ws.length + held.length ≤ 100000) (s : Sweep W n (ws ++ held) b) : Sweep W (n + 1) (ws ++ [(k, t)]) b
theorem Sweep.leaf {W : PyData → PyData → PyData → Prop} {k t : PyData} (h : W k t (listX [])) : Sweep W 1 [(k, t)] true :=
  Sweep.more (ws := []) (held := []) (n := 0) h (by decide) (.done 0)
theorem go_mut {B H B' H' : Hp} {l : Addr} {o : HO} (g : Go B H B' H') (n : H l = none) (nb : B' l = none) : Go B H B' (upd H' l o) :=
  ⟨g.eb, Evl.Ex.mut g.eh n, Evl.Ex.mut g.sub nb, g.fr⟩
section
variable {P : Program} {w : World} {K : PySem.W.Frag} {mg : Str → Option Value} {base : Heap} {f : Addr} {fd : FuncData}
def spSound (P : Program) (w : World) (K : PySem.W.Frag) (mg : Str → Option Value) (base : Heap) (kk : Nat) : Sp := fun vs H Q _ =>
  ∃ (B : Hp) (v0 v1 v2 : V) (fw : Addr) (fdw : FuncData) (psw : List Str) (W : List PyData → PyData → Prop) (dk k t : PyData) (b : Bool) (n : Nat),
    Ex B H ∧ FnOk P w K mg base CX0 kk fw fdw psw (spR K W) ∧ PySem.W.keepIn K (.ref fw) = true ∧ Binds K fdw psw [] ∧ vs = [v0, v1, v2, .ref fw] ∧ Rt K B v0 dk ∧ Dp K B v1 k ∧ Dp K B v2 t ∧
    Sweep (fun k t o => W [dk, k, t] o) n [(k, t)] b ∧ ∀ v B' H', Go B H B' H' → Rt K B' v (.bool b) → Q v H'
theorem sc_is_sound : FnScope ["kinds", "kind", "thing", "within", "waiting", "inner_kind", "inner", "held"] ["kinds", "kind", "thing", "within"] (defScope s_is_sound) := ⟨rfl, rfl, rfl, by decide +kernel, rfl, by decide +kernel, by decide +kernel⟩
theorem ok_is_sound {kk : Nat} (F : Fun K "is_sound" "is_sound" s_is_sound f fd) : FnOk P w K mg base CX0 (kk + 1) f fd ["kinds", "kind", "thing", "within"] (spSound P w K mg base kk) := by
  refine F.ok sc_is_sound (by rintro vs H Q E ⟨B, v0, v1, v2, fw, fdw, psw, W, dk, k, t, b, n, _, _, _, _, rfl, _⟩; rfl) (fun cdv A outer s H vs Q E hr h => ?_)
  obtain ⟨B, v0, v1, v2, fw, fdw, psw, W, dk, k, t, b, n, x, Fw, kw, bw, rfl, r0, r1, r2, sw, q⟩ := h
  have nd := sc_is_sound.nd
  refine ⟨_, pss_cons (ps_set (i := 4) nd rfl (Or.inl rfl) (pe_lst (pa_cons (pe_tup (pa_cons (pv 1) (pa_cons (pv 2) pa_nil))) pa_nil)))
    (pss_cons (ps_while PassesOwn.never (pt_truth (pv 4) (by intro _; rfl))
      (pss_cons (ps_asg (pe_bm0 PySem.F.plainAttrs_list PySem.F.slot_list_pop PySem.F.type_list_pop mt_pop (pv 4)) (pg_tup rfl (pgs_cons (pg_name (i := 5) nd rfl (Or.inl rfl)) (pgs_cons (pg_name (i := 6) nd rfl (Or.inl rfl)) pgs_nil))))
      (pss_cons (ps_set (i := 7) nd rfl (Or.inl rfl) (pe_callL (i := 3) Fw hr rfl (Or.inl rfl) kw bw .nil pass0 (pa_cons (pv 0) (pa_cons (pv 5) (pa_cons (pv 6) pa_nil)))))
      (pss_cons (ps_if (pt_cmp (pc_isN (pv 7))) (pss_one (ps_ret pe_bl)) pss_nil)
      (pss_one (ps_expr (pe_bm PySem.F.plainAttrs_list PySem.F.slot_list_extend PySem.F.type_list_extend mt_extend (pv 4) (pa_cons (pv 7) pa_nil))))))))
    (pss_one (ps_ret pe_bl))), ?_⟩
  refine ⟨v1, rfl, v2, rfl, by show 2 ≤ sizeLine; decide, fun p hp => ⟨by show 1 ≤ sizeLine; decide, fun l hl => ?_⟩⟩
  have g1 : Go B H (upd B p (.tup [v1, v2])) (upd H p (.tup [v1, v2])) := Go.new x hp
  have hlH : H l = none := Evl.fresh_back g1.eh hl
  have hlB : (upd B p (.tup [v1, v2])) l = none := sub_none g1.sub hl
  refine ⟨fun m σ Hc => ∃ (B' : Hp) (ws : List (PyData × PyData)) (us : List V) (x5 x6 x7 : Option V), σ = [some v0, some v1, some v2, some (.ref fw), some (.ref l), x5, x6, x7] ∧ Go B H B' Hc ∧ B' l = none ∧ Hc l = some (.lst us) ∧ DpAll K B' us (ws.map pairD) ∧ Sweep (fun k t o => W [dk, k, t] o) m ws b, ⟨n, ?_⟩, ?_⟩
  · refine ⟨_, [(k, t)], [.ref p], none, none, none, rfl, g1.trans (Go.own g1.sub hl), hlB, upd_same, .cons (.tup (.inl (.inl upd_same)) (.cons (dp_ex g1.eb _ _ r1) (.cons (dp_ex g1.eb _ _ r2) .nil))) .nil, sw⟩
  · rintro m σ Hc ⟨B', ws, us, x5, x6, x7, rfl, g, nb, hl', da, sw'⟩
    refine ⟨.ref l, rfl, !us.isEmpty, .inl ⟨us, .inl (.inl hl'), rfl⟩, ?_⟩
    have hlen := dps_len da
    rw [List.length_map] at hlen
    cases sw' with
    | done m =>
      have : us = [] := List.eq_nil_of_length_eq_zero hlen
      subst this
      refine iteF ?_
      exact q _ B' Hc g (.d (.bl true))
    | @bad m ws k' t' hW =>
      rw [List.map_append] at da
      have hne : us.isEmpty = false := by
        cases us with
        | nil => simp at hlen
        | cons => rfl
      rw [hne]
      refine iteT ?_
      obtain ⟨y, hy, dy⟩ := dps_get (i := ws.length) da (d := pairD (k', t')) (by rw [List.getElem?_append_right (by simp)]; simp)
      have hul : us.length - 1 = ws.length := by rw [hlen, List.length_append]; simp
      refine ⟨fun _ _ => False, fun _ _ z => z.elim, .ref l, rfl, .inl ⟨rfl, _, .inl (.inl hl')⟩, l, us, y, rfl, rfl, hl', by rw [hul]; exact hy, ?_⟩
      have g2 := go_mut g hlH nb (o := .lst us.dropLast)
      cases dy with
      | @tup b2 zs _ hz hza =>
        cases hza with
        | cons q1 hza =>
          cases hza with
          | cons q2 hza =>
            cases hza
            refine ⟨b2, _, rfl, ex_t g2.sub hz, rfl, _, _, rfl, _, _, rfl, rfl, ?_⟩
            refine ⟨rfl, _, rfl, _, rfl, _, rfl, ?_⟩
            refine ⟨B', [dk, k', t'], .none, g2.sub, .cons (r0.ex g.eb) (.cons (.d q1) (.cons (.d q2) .nil)), hW, fun v B3 H3 g3 r3 => ?_⟩
            have r3 := r3.dp rfl
            cases r3
            refine ⟨.non, rfl, _, rfl, ?_⟩
            refine iteT ?_
            exact q _ B3 H3 (g2.trans g3) (.d (.bl false))
    | @more m ws held k' t' _ hW hlen2 sw2 =>
      rw [List.map_append] at da
      have hne : us.isEmpty = false := by
        cases us with
        | nil => simp at hlen
        | cons => rfl
      rw [hne]
      refine iteT ?_
      obtain ⟨y, hy, dy⟩ := dps_get (i := ws.length) da (d := pairD (k', t')) (by rw [List.getElem?_append_right (by simp)]; simp)
      have hul : us.length - 1 = ws.length := by rw [hlen, List.length_append]; simp
      refine ⟨fun σ' H' => ∃ (B' : Hp) (us : List V) (x5 x6 x7 : Option V), σ' = [some v0, some v1, some v2, some (.ref fw), some (.ref l), x5, x6, x7] ∧ Go B H B' H' ∧ B' l = none ∧ H' l = some (.lst us) ∧ DpAll K B' us ((ws ++ held).map pairD), ?_, .ref l, rfl, .inl ⟨rfl, _, .inl (.inl hl')⟩, l, us, y, rfl, rfl, hl', by rw [hul]; exact hy, ?_⟩
      · rintro σ' H' ⟨B2, us2, x5, x6, x7, e, g2, nb2, h2, d2⟩
        exact ⟨m, Nat.lt_succ_self m, B2, _, us2, x5, x6, x7, e, g2, nb2, h2, d2, sw2⟩
      have g2 := go_mut g hlH nb (o := .lst us.dropLast)
      have dl : DpAll K B' us.dropLast (ws.map pairD) := by
        have key : ∀ (as : List PyData) (z : PyData) (vs : List V), DpAll K B' vs (as ++ [z]) → DpAll K B' vs.dropLast as := by
          intro as
          induction as with
          | nil =>
            intro z vs h
            cases h with
            | cons h1 h2 =>
              cases h2
              exact .nil
          | cons a as ih =>
            intro z vs h
            cases h with
            | cons h1 h2 =>
              rename_i v vs'
              have hne : vs' ≠ [] := by
                intro e
                subst e
                have := dps_len h2
                simp at this
              rw [List.dropLast_cons_of_ne_nil hne]
              exact .cons h1 (ih z vs' h2)
        exact key _ _ _ da
      cases dy with
      | @tup b2 zs _ hz hza =>
        cases hza with
        | cons q1 hza =>
          cases hza with
          | cons q2 hza =>
            cases hza
            refine ⟨b2, _, rfl, ex_t g2.sub hz, rfl, _, _, rfl, _, _, rfl, rfl, ?_⟩
            refine ⟨rfl, _, rfl, _, rfl, _, rfl, ?_⟩
            refine ⟨B', [dk, k', t'], listX (held.map pairD), g2.sub, .cons (r0.ex g.eb) (.cons (.d q1) (.cons (.d q2) .nil)), hW, fun v B3 H3 g3 r3 => ?_⟩
            obtain ⟨c, zs, rfl, hc, hd⟩ := rt_listX r3
            have hl3 : H3 l = some (.lst us.dropLast) := g3.eh l _ upd_same
            have hlz := dps_len hd
            have hlu := dps_len dl
            rw [List.length_map] at hlz hlu
            refine ⟨.ref c, rfl, _, rfl, ?_⟩
            refine iteF ?_
            refine ⟨.ref l, rfl, .inl ⟨rfl, _, .inl (.inl hl3)⟩, .ref c, rfl, l, c, us.dropLast, zs, rfl, rfl, hl3, g3.sub _ _ hc, by rw [hlz, hlu]; exact Nat.le_trans hlen2 (by decide), ?_⟩
            have nb3 : B3 l = none := g3.fr l _ upd_same nb
            refine ⟨B3, us.dropLast ++ zs, _, _, _, rfl, go_mut (g2.trans g3) hlH nb3, nb3, upd_same, ?_⟩
            rw [List.map_append]
            exact dps_append hd (dps_ex g3.eb _ _ dl)
end
end FP
namespace FP
open PySem PySem.Spec PyProof.Rows L2 FC
open Evl (Ex)
abbrev s_check_kind : Stmt := topS 40
abbrev s_check_value : Stmt := topS 41
abbrev s_check_pattern : Stmt := topS 42
abbrev s_check_clauses : Stmt := topS 43
abbrev s_check_lists : Stmt := topS 44
abbrev s_fits : Stmt := topS 46
abbrev s_taker : Stmt := topS 47
abbrev s_label : Stmt := topS 48
/-! ### the mirrors -/
def numsD (lo hi : Int) : PyData := .tuple [.str "numbers", .int lo, .int hi]
def rowsD (c : Str) : PyData := .tuple [.str "rows", .str c]
def fromD (a b : PyData) : PyData := .tuple [.str "from", a, b]
def bnd : PyData → Bool
  | .none => true
  | .int _ => true
  | _ => false
def loB : PyData → Int → Bool
  | .int a, i => decide (a ≤ i)
  | _, _ => true
def hiB : PyData → Int → Bool
  | .int b, i => decide (i ≤ b)
  | _, _ => true
/-- a pattern of numbers -/
inductive OkPat : PyData → Prop where
  | any : OkPat .none
  | range {a b : PyData} (ha : bnd a = true) (hb : bnd b = true) : OkPat (fromD a b)
def fit : PyData → Int → Bool
  | .tuple [_, a, b], i => loB a i && hiB b i
  | _, _ => true
def Rw_is_bound : List PyData → PyData → Prop := fun ds o => ∃ d, ds = [d] ∧ bnd d = true ∧ o = .bool true
def Rw_is_range_pattern : List PyData → PyData → Prop := fun ds o => ∃ a b, ds = [fromD a b] ∧ bnd a = true ∧ bnd b = true ∧ o = .bool true
def Rw_patterns_within : List PyData → PyData → Prop := fun ds o => ∃ kvs k p lo hi, ds = [dictOf kvs, .str k, p] ∧ OkPat p ∧ look kvs k = some (numsD lo hi) ∧ o = listX []
def Rw_is_pattern : List PyData → PyData → Prop := fun ds o => ∃ kvs k p lo hi, ds = [dictOf kvs, .str k, p] ∧ OkPat p ∧ look kvs k = some (numsD lo hi) ∧ o = .bool true
def Rw_pattern_fits : List PyData → PyData → Prop := fun ds o => ∃ p i, ds = [p, .int i] ∧ OkPat p ∧ o = .bool (fit p i)
def clauseD (c : PyData × Str) : PyData := .tuple [c.1, .str c.2]
def OkClause (c : PyData × Str) : Prop := OkPat c.1 ∧ isNameS c.2 = true
def Rw_is_clause : List PyData → PyData → Prop := fun ds o => ∃ kvs k c lo hi, ds = [dictOf kvs, .str k, clauseD c] ∧ OkClause c ∧ look kvs k = some (numsD lo hi) ∧ o = .bool true
def Rw_is_clauses : List PyData → PyData → Prop := fun ds o => ∃ (kvs : List (Str × PyData)) (k : Str) (cs : List (PyData × Str)) (lo hi : Int), ds = [dictOf kvs, .str k, .list (cs.map clauseD)] ∧ (∀ c ∈ cs, OkClause c) ∧ cs.length ≤ 1000 ∧ look kvs k = some (numsD lo hi) ∧ o = .bool true
/-- the place of the first clause that fits -/
def taken (cs : List (PyData × Str)) (i : Int) (o : PyData) : Prop :=
  (∃ m c, cs[m]? = some c ∧ (∀ j c', j < m → cs[j]? = some c' → fit c'.1 i = false) ∧ fit c.1 i = true ∧ o = .int (m : Nat)) ∨ ((∀ c ∈ cs, fit c.1 i = false) ∧ o = .none)
def Rw_first_fitting : List PyData → PyData → Prop := fun ds o => ∃ (cs : List (PyData × Str)) (i : Int), ds = [.list (cs.map clauseD), .int i] ∧ (∀ c ∈ cs, OkClause c) ∧ cs.length ≤ 1000 ∧ taken cs i o
def Rw_values_within : List PyData → PyData → Prop := fun ds o => ∃ kvs k v, ds = [dictOf kvs, .str k, v] ∧
  ((∃ lo hi i, look kvs k = some (numsD lo hi) ∧ v = .int i ∧ lo ≤ i ∧ i ≤ hi ∧ o = listX []) ∨
   (∃ (c : Str) (xs : List PyData), look kvs k = some (rowsD c) ∧ v = .list xs ∧ xs.length ≤ 1000 ∧ xs.all plain = true ∧ o = listX ((xs.map fun d => (PyData.str c, d)).map pairD)))
/-- a value, all that it holds -/
def ValueOk (kvs : List (Str × PyData)) (k : Str) (v : PyData) : Prop := ∃ n, Sweep (fun k t o => Rw_values_within [dictOf kvs, k, t] o) n [(.str k, v)] true
def Rw_check_kind : List PyData → PyData → Prop := fun ds o => ∃ kvs k, ds = [dictU kvs, .str k] ∧ KindsOk kvs ∧ (look kvs k).isSome = true ∧ o = .none
def Rw_check_value : List PyData → PyData → Prop := fun ds o => ∃ kvs k v, ds = [dictOf kvs, .str k, v] ∧ plain v = true ∧ ValueOk kvs k v ∧ o = .none
def Rw_check_pattern : List PyData → PyData → Prop := fun ds o => ∃ kvs k p lo hi, ds = [dictOf kvs, .str k, p] ∧ OkPat p ∧ look kvs k = some (numsD lo hi) ∧ o = .none
def Rw_check_clauses : List PyData → PyData → Prop := fun ds o => ∃ (kvs : List (Str × PyData)) (k : Str) (cs : List (PyData × Str)) (lo hi : Int), ds = [dictOf kvs, .str k, .list (cs.map clauseD)] ∧ (∀ c ∈ cs, OkClause c) ∧ cs.length ≤ 1000 ∧ look kvs k = some (numsD lo hi) ∧ o = .none
def Rw_check_lists : List PyData → PyData → Prop := fun ds o => ∃ (kvs : List (Str × PyData)) (k : Str) (cs : List (PyData × Str)) (lo hi : Int), ds = [dictU kvs, .str k, .list [.list (cs.map clauseD)]] ∧ KindsOk kvs ∧ (∀ c ∈ cs, OkClause c) ∧ cs.length ≤ 1000 ∧ look kvs k = some (numsD lo hi) ∧ o = .none
def Rw_fits : List PyData → PyData → Prop := fun ds o => ∃ kvs k p lo hi i, ds = [dictU kvs, .str k, p, .int i] ∧ KindsOk kvs ∧ look kvs k = some (numsD lo hi) ∧ OkPat p ∧ lo ≤ i ∧ i ≤ hi ∧ o = .bool (fit p i)
def Rw_taker : List PyData → PyData → Prop := fun ds o => ∃ (kvs : List (Str × PyData)) (k : Str) (cs : List (PyData × Str)) (lo hi i : Int), ds = [dictU kvs, .str k, .list (cs.map clauseD), .int i] ∧ KindsOk kvs ∧ look kvs k = some (numsD lo hi) ∧ (∀ c ∈ cs, OkClause c) ∧ cs.length ≤ 1000 ∧ lo ≤ i ∧ i ≤ hi ∧ taken cs i o
def lab (cs : List (PyData × Str)) : PyData → PyData
  | .int m => match cs[m.toNat]? with
    | some c => .str c.2
    | none => .none
  | _ => .none
def Rw_label : List PyData → PyData → Prop := fun ds o => ∃ (kvs : List (Str × PyData)) (k : Str) (cs : List (PyData × Str)) (lo hi i : Int) (o' : PyData), ds = [dictU kvs, .str k, .list (cs.map clauseD), .int i] ∧ KindsOk kvs ∧ look kvs k = some (numsD lo hi) ∧ (∀ c ∈ cs, OkClause c) ∧ cs.length ≤ 1000 ∧ lo ≤ i ∧ i ≤ hi ∧ taken cs i o' ∧ o = lab cs o'
section
variable {P : Program} {w : World} {K : PySem.W.Frag} {mg : Str → Option Value} {base : Heap} {f : Addr} {fd : FuncData} {G : List (Option PyData)}
theorem dt_tup {ta : TE} {ds : List PyData} (h : DE K ta G (.tuple ds)) : DT K (fun σ H Q => ta σ H fun x H' => ∃ k, TruV K x H' k ∧ Q k H') G (!ds.isEmpty) := fun σ B H x en Q q => h σ B H x en _ fun v B' H' g r => by
  have r := r.dp rfl
  cases r with
  | @tup a vs _ hs ha =>
    refine ⟨!ds.isEmpty, .inr (.inl ⟨vs, ex_t g.sub hs, ?_⟩), q B' H' g⟩
    have hl := dps_len ha
    cases vs <;> cases ds <;> simp at hl ⊢
theorem de_sound {t0 t1 t2 : TE} {fw : Addr} {fdw : FuncData} {psw : List Str} {kk : Nat} {W : List PyData → PyData → Prop} {dk k t : PyData} {b : Bool} {n : Nat}
    (Fw : FnOk P w K mg base CX0 kk fw fdw psw (spR K W)) (kw : PySem.W.keepIn K (.ref fw) = true) (bw : Binds K fdw psw [])
    (h0 : DE K t0 G dk) (h1 : DE K t1 G k) (h2 : DE K t2 G t) (p1 : plain k = true) (p2 : plain t = true) (sw : Sweep (fun k t o => W [dk, k, t] o) n [(k, t)] b) :
    DE K (tCall (spSound P w K mg base kk) [] E0 (tCons t0 (tCons t1 (tCons t2 (tCons (tC (.ref fw)) tNil))))) G (.bool b) := fun σ B H x en Q q =>
  h0 σ B H x en _ fun v0 B1 H1 g1 r0 => h1 σ B1 H1 g1.sub (en.ex g1.eb) _ fun v1 B2 H2 g2 r1 => h2 σ B2 H2 g2.sub ((en.ex g1.eb).ex g2.eb) _ fun v2 B3 H3 g3 r2 => by
    refine ⟨B3, v0, v1, v2, fw, fdw, psw, W, dk, k, t, b, n, g3.sub, Fw, kw, bw, rfl, (r0.ex g2.eb).ex g3.eb, (r1.dp p1 |> dp_ex g3.eb _ _), r2.dp p2, sw, fun v B' H' g r => ?_⟩
    exact q v B' H' (g1.trans (g2.trans (g3.trans g))) r
theorem OkPat.plain {p : PyData} (h : OkPat p) : FC.plain p = true := by
  cases h <;> rfl
theorem sc_is_bound : FnScope ["thing"] ["thing"] (defScope s_is_bound) := ⟨rfl, rfl, rfl, by decide +kernel, rfl, by decide +kernel, by decide +kernel⟩
theorem ok_is_bound (F : Fun K "is_bound" "is_bound" s_is_bound f fd) (cw : CL P w K mg base 1 "is_whole" Rw_is_whole) : FnOk P w K mg base CX0 2 f fd ["thing"] (spR K Rw_is_bound) := by
  refine F.ok sc_is_bound (spR_len (by rintro _ _ ⟨_, rfl, _⟩; rfl)) (fun cdv A outer s H vs Q E hr h => ?_)
  obtain ⟨B, ds, o, x, r, ⟨d, rfl, hb, rfl⟩, q⟩ := h
  refine ⟨_, pss_one (ps_ret (pe_or (pe_cmp (pc_isN (pv 0))) (pe_one (pe_cl cw hr (by decide) (by rfl) (pa_cons (pv 0) pa_nil))))), ?_⟩
  refine fin_rt ?_ x r q
  show DS K _ [some d] _
  refine ds_ret (de_is (de_or (de_isN (de_var rfl)) fun _ => de_call' (da_cons (de_var rfl) da_nil) ⟨d, rfl, rfl⟩) ?_)
  cases d <;> first | rfl | cases hb
theorem sc_is_range_pattern : FnScope ["thing"] ["thing"] (defScope s_is_range_pattern) := ⟨rfl, rfl, rfl, by decide +kernel, rfl, by decide +kernel, by decide +kernel⟩
theorem ok_is_range_pattern (F : Fun K "is_range_pattern" "is_range_pattern" s_is_range_pattern f fd) (M : Bl mg) (cb : CL P w K mg base 2 "is_bound" Rw_is_bound) : FnOk P w K mg base CX0 3 f fd ["thing"] (spR K Rw_is_range_pattern) := by
  refine F.ok sc_is_range_pattern (spR_len (by rintro _ _ ⟨_, _, rfl, _⟩; rfl)) (fun cdv A outer s H vs Q E hr h => ?_)
  obtain ⟨B, ds, o, x, r, ⟨a, b, rfl, ha, hb, rfl⟩, q⟩ := h
  have hu64 : (A.deeper (envOfC "is_range_pattern" (defScope s_is_range_pattern) s.heap.objs.size f cdv)).units + 64 < cLine := by have := hr.un; omega
  refine ⟨_, pss_one (ps_ret (pe_and (pe_cmpR (op_eqD hu64) (pe_callB call_lenR (by rfl) M.len PySem.boot_len (pa_cons (pv 0) pa_nil)) pe_int (nomark _)) (pe_and (pe_cmpR (op_eqD hu64) (pe_ix ix_tup (pv 0) pe_int (fun _ _ => rfl)) pe_str (nomark _))
    (pe_and (pe_cl cb hr (by decide) (by rfl) (pa_cons (pe_ix ix_tup (pv 0) pe_int (fun _ _ => rfl)) pa_nil)) (pe_one (pe_cl cb hr (by decide) (by rfl) (pa_cons (pe_ix ix_tup (pv 0) pe_int (fun _ _ => rfl)) pa_nil))))))), ?_⟩
  refine fin_rt ?_ x r q
  show DS K _ [some (fromD a b)] _
  refine ds_ret (de_is (de_and (de_op (de_cb (da_cons (de_var rfl) da_nil) cd_lenT) de_int (rd_eq rfl rfl rfl rfl)) fun _ => de_and (de_op (de_op (de_var rfl) de_int (rd_ixT (j := 0) rfl rfl)) de_str (rd_eq (by decide +kernel) (by decide +kernel) rfl rfl)) fun _ =>
    de_and (de_call' (da_cons (de_op (de_var rfl) de_int (rd_ixT (j := 1) rfl rfl)) da_nil) ⟨a, rfl, ha, rfl⟩) fun _ => de_call' (da_cons (de_op (de_var rfl) de_int (rd_ixT (j := 2) rfl rfl)) da_nil) ⟨b, rfl, hb, rfl⟩) ?_)
  exact congrArg PyData.bool (show (PyData.eqv (.int 3) (.int 3) && (PyData.eqv (.str "from") (.str "from") && (true && true))) = true by decide +kernel)
theorem sc_patterns_within : FnScope ["kinds", "kind", "thing", "form", "choice"] ["kinds", "kind", "thing"] (defScope s_patterns_within) := ⟨rfl, rfl, rfl, by decide +kernel, rfl, by decide +kernel, by decide +kernel⟩
theorem ok_patterns_within (F : Fun K "patterns_within" "patterns_within" s_patterns_within f fd) (M : Bl mg) (cr : CL P w K mg base 3 "is_range_pattern" Rw_is_range_pattern) : FnOk P w K mg base CX0 4 f fd ["kinds", "kind", "thing"] (spR K Rw_patterns_within) := by
  refine F.ok sc_patterns_within (spR_len (by rintro _ _ ⟨_, _, _, _, _, rfl, _⟩; rfl)) (fun cdv A outer s H vs Q E hr h => ?_)
  obtain ⟨B, ds, o, x, r, ⟨kvs, k, p, lo, hi, rfl, hp, hk, rfl⟩, q⟩ := h
  have hu := hu_of hr
  have hu64 : (A.deeper (envOfC "patterns_within" (defScope s_patterns_within) s.heap.objs.size f cdv)).units + 64 < cLine := by have := hr.un; omega
  refine ⟨_, pss_cons (ps_if (pt_cmp (pc_isN (pv 2))) (pss_one (ps_ret (pe_lst pa_nil))) pss_nil)
    (pss_cons (ps_if (pw_or (pt_not (pt_val (k_isi (pv 2) (by rfl) M.isi (by rfl) M.tuple PyProof.Rows.boot_tuple (by decide) (by decide)))) (pw_or1 (pt_not (pt_truth (pv 2) (by intro _; rfl))))).pt pss_never pss_nil)
    (pss_cons (ps_if (pt_cmpR (op_eqD hu64) (pe_ix ix_tup (pv 2) pe_int (fun _ _ => rfl)) pe_str (nomark _)) pss_never pss_nil)
    (pss_cons (ps_set (i := 3) sc_patterns_within.nd rfl (Or.inl rfl) (pe_dget hu (pv 0) (pv 1) (fun _ _ => rfl)))
    (pss_cons (ps_if (pt_cmpR (op_eqD hu64) (pe_ix ix_tup (pv 3) pe_int (fun _ _ => rfl)) pe_str (nomark _)) (pss_one (ps_ret (pe_ifExp (pt_val (pe_cl cr hr (by decide) (by rfl) (pa_cons (pv 2) pa_nil))) (pe_lst pa_nil) pe_dead))) pss_nil)
    pss_never)))), ?_⟩
  refine fin_rt ?_ x r q
  show DS K _ [some (dictOf kvs), some (.str k), some p, none, none] _
  cases hp with
  | any => exact ds_guard (b := true) (dt_is (dt_B (de_isN (de_var rfl))) rfl) (fun _ => ds_ret (de_lstX da_nil rfl (by decide))) (fun z => nomatch z)
  | @range a b ha hb =>
    refine ds_guard (b := false) (dt_is (dt_B (de_isN (de_var rfl))) rfl) (fun z => nomatch z) fun _ => ?_
    refine ds_guard (b := false) (dt_is (dt_or (dt_not (dt_B (de_ty (de_var rfl) rfl ktt))) fun _ => dt_not (dt_tup (de_var rfl))) rfl) (fun z => nomatch z) fun _ => ?_
    refine ds_guard (b := false) (dt_is (dt_test (de_op (de_op (de_var rfl) de_int (rd_ixT (j := 0) rfl rfl)) de_str (rd_eq (by decide +kernel) (by decide +kernel) rfl rfl))) (by decide +kernel)) (fun z => nomatch z) fun _ => ?_
    refine ds_seq (ds_set (de_dget (de_var rfl) (de_var rfl) hk)) ?_
    show DS K _ [some (dictOf kvs), some (.str k), some (fromD a b), some (numsD lo hi), none] _
    refine ds_guard (b := true) (dt_is (dt_test (de_op (de_op (de_var rfl) de_int (rd_ixT (j := 0) rfl rfl)) de_str (rd_eq (by decide +kernel) (by decide +kernel) rfl rfl))) (by decide +kernel)) (fun _ => ds_ret ?_) (fun z => nomatch z)
    exact de_if (b := true) (dt_B (de_call' (da_cons (de_var rfl) da_nil) ⟨a, b, rfl, ha, hb, rfl⟩)) (fun _ => de_lstX da_nil rfl (by decide)) (fun z => nomatch z)
theorem sc_is_pattern : FnScope ["kinds", "kind", "thing"] ["kinds", "kind", "thing"] (defScope s_is_pattern) := ⟨rfl, rfl, rfl, by decide +kernel, rfl, by decide +kernel, by decide +kernel⟩
theorem ok_is_pattern (F : Fun K "is_pattern" "is_pattern" s_is_pattern f fd) (cs : Cl P w K mg base 5 "is_sound" (spSound P w K mg base 4)) (cp : CL P w K mg base 4 "patterns_within" Rw_patterns_within) : FnOk P w K mg base CX0 6 f fd ["kinds", "kind", "thing"] (spR K Rw_is_pattern) := by
  refine F.ok sc_is_pattern (spR_len (by rintro _ _ ⟨_, _, _, _, _, rfl, _⟩; rfl)) (fun cdv A outer s H vs Q E hr h => ?_)
  obtain ⟨B, ds, o, x, r, ⟨kvs, k, p, lo, hi, rfl, hp, hk, rfl⟩, q⟩ := h
  obtain ⟨fw, fdw, psw, Fw, mw, kw, bw⟩ := cp.ex
  refine ⟨_, pss_one (ps_ret (pe_cl cs hr (by decide) (by rfl) (pa_cons (pv 0) (pa_cons (pv 1) (pa_cons (pv 2) (pa_cons (pe_glob (v := .ref fw) (by rfl) mw rfl) pa_nil)))))), ?_⟩
  refine fin_rt ?_ x r q
  show DS K _ [some (dictOf kvs), some (.str k), some p] _
  exact ds_ret (de_sound Fw kw bw (de_var rfl) (de_var rfl) (de_var rfl) rfl hp.plain (Sweep.leaf ⟨kvs, k, p, lo, hi, rfl, hp, hk, rfl⟩))
theorem sc_pattern_fits : FnScope ["pattern", "value", "choice"] ["pattern", "value"] (defScope s_pattern_fits) := ⟨rfl, rfl, rfl, by decide +kernel, rfl, by decide +kernel, by decide +kernel⟩
theorem ok_pattern_fits (F : Fun K "pattern_fits" "pattern_fits" s_pattern_fits f fd) : FnOk P w K mg base CX0 1 f fd ["pattern", "value"] (spR K Rw_pattern_fits) := by
  refine F.ok sc_pattern_fits (spR_len (by rintro _ _ ⟨_, _, rfl, _⟩; rfl)) (fun cdv A outer s H vs Q E hr h => ?_)
  obtain ⟨B, ds, o, x, r, ⟨p, i, rfl, hp, rfl⟩, q⟩ := h
  have hu64 : (A.deeper (envOfC "pattern_fits" (defScope s_pattern_fits) s.heap.objs.size f cdv)).units + 64 < cLine := by have := hr.un; omega
  refine ⟨_, pss_cons (ps_if (pt_cmp (pc_isN (pv 0))) (pss_one (ps_ret pe_bl)) pss_nil)
    (pss_cons (ps_if (pt_cmpR (op_eqD hu64) (pe_ix ix_tup (pv 0) pe_int (fun _ _ => rfl)) pe_str (nomark _)) pss_never pss_nil)
    (pss_cons (ps_if (pt_cmpR (op_eqD hu64) (pe_ix ix_tup (pv 0) pe_int (fun _ _ => rfl)) pe_str (nomark _)) (pss_one (ps_ret (pe_and (pe_or (pe_cmp (pc_isN (pe_ix ix_tup (pv 0) pe_int (fun _ _ => rfl)))) (pe_one (pe_cmpR op_le (pe_ix ix_tup (pv 0) pe_int (fun _ _ => rfl)) (pv 1) (nomark _))))
      (pe_one (pe_or (pe_cmp (pc_isN (pe_ix ix_tup (pv 0) pe_int (fun _ _ => rfl)))) (pe_one (pe_cmpR op_le (pv 1) (pe_ix ix_tup (pv 0) pe_int (fun _ _ => rfl)) (nomark _)))))))) pss_nil)
    pss_never)), ?_⟩
  refine fin_rt ?_ x r q
  show DS K _ [some p, some (.int i), none] _
  cases hp with
  | any => exact ds_guard (b := true) (dt_is (dt_B (de_isN (de_var rfl))) rfl) (fun _ => ds_ret de_bl) (fun z => nomatch z)
  | @range a b ha hb =>
    refine ds_guard (b := false) (dt_is (dt_B (de_isN (de_var rfl))) rfl) (fun z => nomatch z) fun _ => ?_
    refine ds_guard (b := false) (dt_is (dt_test (de_op (de_op (de_var rfl) de_int (rd_ixT (j := 0) rfl rfl)) de_str (rd_eq (by decide +kernel) (by decide +kernel) rfl rfl))) (by decide +kernel)) (fun z => nomatch z) fun _ => ?_
    refine ds_guard (b := true) (dt_is (dt_test (de_op (de_op (de_var rfl) de_int (rd_ixT (j := 0) rfl rfl)) de_str (rd_eq (by decide +kernel) (by decide +kernel) rfl rfl))) (by decide +kernel)) (fun _ => ds_ret ?_) (fun z => nomatch z)
    have h1 : DE K (tOrV (tIsN (tOp (rIxT K) (tVar 0) (tC (.int 1)))) (tOp (rI0 fun i j => .bl (decide (i ≤ j))) (tOp (rIxT K) (tVar 0) (tC (.int 1))) (tVar 1))) [some (fromD a b), some (.int i), none] (.bool (loB a i)) := by
      cases a with
      | none => exact de_is (de_or (c := true) (de_isN (de_op (de_var rfl) de_int (rd_ixT (j := 1) rfl rfl))) (fun z => nomatch z)) rfl
      | int a => exact de_is (de_or (de_isN (de_op (de_var rfl) de_int (rd_ixT (j := 1) rfl rfl))) fun _ => de_op (de_op (de_var rfl) de_int (rd_ixT (j := 1) rfl rfl)) (de_var rfl) rd_le) rfl
      | _ => cases ha
    have h2 : DE K (tOrV (tIsN (tOp (rIxT K) (tVar 0) (tC (.int 2)))) (tOp (rI0 fun i j => .bl (decide (i ≤ j))) (tVar 1) (tOp (rIxT K) (tVar 0) (tC (.int 2))))) [some (fromD a b), some (.int i), none] (.bool (hiB b i)) := by
      cases b with
      | none => exact de_is (de_or (c := true) (de_isN (de_op (de_var rfl) de_int (rd_ixT (j := 2) rfl rfl))) (fun z => nomatch z)) rfl
      | int b => exact de_is (de_or (de_isN (de_op (de_var rfl) de_int (rd_ixT (j := 2) rfl rfl))) fun _ => de_op (de_var rfl) (de_op (de_var rfl) de_int (rd_ixT (j := 2) rfl rfl)) rd_le) rfl
      | _ => cases hb
    exact de_and h1 fun _ => h2
end
end FP
namespace FP
open PySem PySem.Spec PyProof.Rows L2 FC
open Evl (Ex)
section
variable {P : Program} {w : World} {K : PySem.W.Frag} {mg : Str → Option Value} {base : Heap} {f : Addr} {fd : FuncData} {G : List (Option PyData)}
theorem sc_is_clause : FnScope ["kinds", "kind", "thing"] ["kinds", "kind", "thing"] (defScope s_is_clause) := ⟨rfl, rfl, rfl, by decide +kernel, rfl, by decide +kernel, by decide +kernel⟩
theorem ok_is_clause (F : Fun K "is_clause" "is_clause" s_is_clause f fd) (M : Bl mg) (cp : CL P w K mg base 6 "is_pattern" Rw_is_pattern) (cn : CL P w K mg base 1 "is_name" Rw_is_name) : FnOk P w K mg base CX0 7 f fd ["kinds", "kind", "thing"] (spR K Rw_is_clause) := by
  refine F.ok sc_is_clause (spR_len (by rintro _ _ ⟨_, _, _, _, _, rfl, _⟩; rfl)) (fun cdv A outer s H vs Q E hr h => ?_)
  obtain ⟨B, ds, o, x, r, ⟨kvs, k, c, lo, hi, rfl, ⟨hp, hn⟩, hk, rfl⟩, q⟩ := h
  have hu64 : (A.deeper (envOfC "is_clause" (defScope s_is_clause) s.heap.objs.size f cdv)).units + 64 < cLine := by have := hr.un; omega
  refine ⟨_, pss_cons (ps_if (pw_or (pt_not (pt_val (k_isi (pv 2) (by rfl) M.isi (by rfl) M.tuple PyProof.Rows.boot_tuple (by decide) (by decide)))) (pw_or1 (pt_cmpR (op_neD hu64) (pe_callB call_lenR (by rfl) M.len PySem.boot_len (pa_cons (pv 2) pa_nil)) pe_int (nomark _)))).pt (pss_one (ps_ret pe_bl)) pss_nil)
    (pss_one (ps_ret (pe_and (pe_cl cp hr (by decide) (by rfl) (pa_cons (pv 0) (pa_cons (pv 1) (pa_cons (pe_ix ix_tup (pv 2) pe_int (fun _ _ => rfl)) pa_nil)))) (pe_one (pe_cl cn hr (by decide) (by rfl) (pa_cons (pe_ix ix_tup (pv 2) pe_int (fun _ _ => rfl)) pa_nil)))))), ?_⟩
  refine fin_rt ?_ x r q
  show DS K _ [some (dictOf kvs), some (.str k), some (.tuple [c.1, .str c.2])] _
  refine ds_guard (b := false) (dt_is (dt_or (dt_not (dt_B (de_ty (de_var rfl) rfl ktt))) fun _ => dt_test (de_op (de_cb (da_cons (de_var rfl) da_nil) cd_lenT) de_int (rd_ne rfl rfl rfl rfl))) rfl) (fun z => nomatch z) fun _ => ?_
  exact ds_ret (de_is (de_and (de_call' (da_cons (de_var rfl) (da_cons (de_var rfl) (da_cons (de_op (de_var rfl) de_int (rd_ixT (j := 0) rfl rfl)) da_nil))) ⟨kvs, k, c.1, lo, hi, rfl, hp, hk, rfl⟩) fun _ => de_call' (da_cons (de_op (de_var rfl) de_int (rd_ixT (j := 1) rfl rfl)) da_nil) ⟨c.2, rfl, hn, rfl⟩) rfl)
theorem sc_is_clauses : FnScope ["kinds", "kind", "thing", "clause"] ["kinds", "kind", "thing"] (defScope s_is_clauses) := ⟨rfl, rfl, rfl, by decide +kernel, rfl, by decide +kernel, by decide +kernel⟩
theorem ok_is_clauses (F : Fun K "is_clauses" "is_clauses" s_is_clauses f fd) (M : Bl mg) (cc : CL P w K mg base 7 "is_clause" Rw_is_clause) : FnOk P w K mg base CX0 8 f fd ["kinds", "kind", "thing"] (spR K Rw_is_clauses) := by
  refine F.ok sc_is_clauses (spR_len (by rintro _ _ ⟨_, _, _, _, _, rfl, _⟩; rfl)) (fun cdv A outer s H vs Q E hr h => ?_)
  obtain ⟨B, ds, o, x, r, ⟨kvs, k, cs, lo, hi, rfl, hc, hl, hk, rfl⟩, q⟩ := h
  refine ⟨_, pss_one (ps_ret (pe_and (k_isi (pv 2) (by rfl) M.isi (by rfl) M.list PyProof.Rows.boot_list (by decide) (by decide)) (pe_one (pe_callB (cr_all rfl) (by rfl) M.all PyProof.Rows.boot_all (pa_cons
    (pe_lc (own := [("clause", 3)]) (g := gName 3) (tt := tYes) rfl sc_is_clauses.nd (pi_list (pv 2)) (blkOk_by (N := ["kinds", "kind", "thing", "clause"]) (sc := defScope s_is_clauses) (by decide +kernel)) (fun _ _ _ _ _ => pg_name (i := 3) sc_is_clauses.nd rfl (Or.inl rfl)) (fun _ _ _ _ _ => pts_nil)
      (fun _ _ _ _ _ => pe_cl cc hr (by decide) (by rfl) (pa_cons (pv 0) (pa_cons (pv 1) (pa_cons (pv 3) pa_nil))))) pa_nil))))), ?_⟩
  refine fin_rt ?_ x r q
  show DS K _ [some (dictOf kvs), some (.str k), some (.list (cs.map clauseD)), none] _
  have all1 : ∀ n, ((List.range n).map fun _ => true).all id = true := fun n => all_true fun _ _ => rfl
  refine ds_ret (de_is (de_and (de_ty (de_var rfl) rfl kll) fun _ => de_cb (da_cons (de_is (de_lc (fun _ => true) (fun _ => .bool true) (di_list (de_var rfl)) (by decide) (fun _ _ => dt_yes) (fun i hi _ => ?_) (fun _ _ _ => rfl) (by rw [List.length_map]; omega)) (congrArg PyData.list (madeG_bools (fun _ => true) _))) da_nil) cd_all) (by rw [all1]; rfl))
  rw [List.length_map] at hi
  have he : (cs.map clauseD)[i]? = some (clauseD cs[i]) := by rw [List.getElem?_map, List.getElem?_eq_getElem hi]; rfl
  show DE K _ [some (dictOf kvs), some (.str k), some (.list (cs.map clauseD)), (cs.map clauseD)[i]?] _
  rw [he]
  exact de_call' (da_cons (de_var rfl) (da_cons (de_var rfl) (da_cons (de_var rfl) da_nil))) ⟨kvs, k, cs[i], lo, _, rfl, hc _ (List.getElem_mem _), hk, rfl⟩
theorem sc_first_fitting : FnScope ["clauses", "value", "at", "pattern", "_"] ["clauses", "value"] (defScope s_first_fitting) := ⟨rfl, rfl, rfl, by decide +kernel, rfl, by decide +kernel, by decide +kernel⟩
theorem ok_first_fitting (F : Fun K "first_fitting" "first_fitting" s_first_fitting f fd) (M : Bl mg) (cp : CL P w K mg base 1 "pattern_fits" Rw_pattern_fits) : FnOk P w K mg base CX0 2 f fd ["clauses", "value"] (spR K Rw_first_fitting) := by
  refine F.ok sc_first_fitting (spR_len (by rintro _ _ ⟨_, _, rfl, _⟩; rfl)) (fun cdv A outer s H vs Q E hr h => ?_)
  obtain ⟨B, ds, o, x, r, ⟨cs, i, rfl, hc, hl, ht⟩, q⟩ := h
  have nd := sc_first_fitting.nd
  refine ⟨_, pss_cons (ps_for PassesOwn.never rfl (pi_enum (by rfl) M.enum (pa_cons (pv 0) pa_nil)) (pg_tup rfl (pgs_cons (pg_name (i := 2) nd rfl (.inl rfl)) (pgs_cons (pg_tup rfl (pgs_cons (pg_name (i := 3) nd rfl (.inl rfl)) (pgs_cons (pg_name (i := 4) nd rfl (.inl rfl)) pgs_nil))) pgs_nil)))
      (pss_one (ps_if (pt_val (pe_cl cp hr (by decide) (by rfl) (pa_cons (pv 3) (pa_cons (pv 1) pa_nil)))) (pss_one (ps_ret (pv 2))) pss_nil)))
    (pss_one (ps_ret pe_non)), ?_⟩
  refine fin_rt ?_ x r q
  show DS K _ [some (.list (cs.map clauseD)), some (.int i), none, none, none] _
  let ps : List (PyData × PyData) := cs.map fun c => (c.1, .str c.2)
  have hps : (ps.map fun p => PyData.tuple [p.1, p.2]) = cs.map clauseD := by
    show (cs.map _).map _ = _
    rw [List.map_map]
    rfl
  have hpl : ps.length = cs.length := List.length_map _
  have di : DI K (iEnum K (tCons (tVar 0) tNil)) (gTup K 2 (gCons (gName 2) (gCons (gTup K 2 (gCons (gName 3) (gCons (gName 4) gNil))) gNil))) [2, 3, 4] [some (.list (cs.map clauseD)), some (.int i), none, none, none] ps.length
      (fun i G2 => ((G2.set 2 (some (.int i))).set 3 (ps[i]?.map (·.1))).set 4 (ps[i]?.map (·.2))) := by
    refine di_enumP ?_
    rw [hps]
    exact da_cons (de_var rfl) da_nil
  let Gs : Nat → List (Option PyData) := fun m => match m with
    | 0 => [some (.list (cs.map clauseD)), some (.int i), none, none, none]
    | m + 1 => [some (.list (cs.map clauseD)), some (.int i), some (.int m), ps[m]?.map (·.1), ps[m]?.map (·.2)]
  have st : ∀ m (hm : m < cs.length), (((Gs m).set 2 (some (.int m))).set 3 (ps[m]?.map (·.1))).set 4 (ps[m]?.map (·.2)) = [some (.list (cs.map clauseD)), some (.int i), some (.int m), some cs[m].1, some (.str cs[m].2)] := by
    intro m hm
    have e : ps[m]? = some (cs[m].1, .str cs[m].2) := by
      show (cs.map _)[m]? = _
      rw [List.getElem?_map, List.getElem?_eq_getElem hm]
      rfl
    rw [e]
    cases m <;> rfl
  have test : ∀ m (hm : m < cs.length), DT K (tB (tCall (spR K Rw_pattern_fits) [] E0 (tCons (tVar 3) (tCons (tVar 1) tNil)))) [some (.list (cs.map clauseD)), some (.int i), some (.int m), some cs[m].1, some (.str cs[m].2)] (fit cs[m].1 i) := by
    intro m hm
    exact dt_B (de_call' (da_cons (de_var rfl) (da_cons (de_var rfl) da_nil)) ⟨_, i, rfl, (hc _ (List.getElem_mem hm)).1, rfl⟩)
  have go : ∀ m (hm : m < cs.length), fit cs[m].1 i = false → DS K (tIfS (tB (tCall (spR K Rw_pattern_fits) [] E0 (tCons (tVar 3) (tCons (tVar 1) tNil)))) (tRet (tVar 2)) tNext) ((((Gs m).set 2 (some (.int m))).set 3 (ps[m]?.map (·.1))).set 4 (ps[m]?.map (·.2))) (.nx (Gs (m + 1))) := by
    intro m hm hf
    rw [st m hm]
    refine ds_is (ds_if (b := false) (dt_is (test m hm) hf) (fun z => nomatch z) fun _ => ds_next) ?_
    have e : ps[m]? = some (cs[m].1, .str cs[m].2) := by
      show (cs.map _)[m]? = _
      rw [List.getElem?_map, List.getElem?_eq_getElem hm]
      rfl
    show Out.nx _ = Out.nx [some (.list (cs.map clauseD)), some (.int i), some (.int m), ps[m]?.map (·.1), ps[m]?.map (·.2)]
    rw [e]
    rfl
  rcases ht with ⟨m, c, hm, hbef, hfit, rfl⟩ | ⟨hall, rfl⟩
  · obtain ⟨hml, rfl⟩ := List.getElem?_eq_some_iff.mp hm
    refine ds_seqR (ds_forR m Gs di (by rw [hpl]; exact hml) rfl (fun j hj => ?_) ?_)
    · have hjl : j < cs.length := Nat.lt_trans hj hml
      exact go j hjl (hbef j _ hj (List.getElem?_eq_getElem hjl))
    · rw [st m hml]
      exact ds_if (b := true) (dt_is (test m hml) hfit) (fun _ => ds_ret (de_var rfl)) (fun z => nomatch z)
  · refine ds_seq (ds_for Gs di rfl fun j hj => ?_) (ds_ret de_non)
    rw [hpl] at hj
    exact go j hj (hall _ (List.getElem_mem hj))
theorem sc_values_within : FnScope ["kinds", "kind", "thing", "form", "cell"] ["kinds", "kind", "thing"] (defScope s_values_within) := ⟨rfl, rfl, rfl, by decide +kernel, rfl, by decide +kernel, by decide +kernel⟩
theorem madeG_map (ds : List PyData) (F : PyData → PyData) : madeG (fun _ => true) (fun i => F (ds.getD i .none)) ds.length = ds.map F := by
  unfold madeG
  rw [List.filter_eq_self.mpr (fun _ _ => rfl)]
  refine List.ext_getElem (by simp) fun i h1 h2 => ?_
  have h : i < ds.length := by simpa using h2
  simp [h]
theorem ok_values_within (F : Fun K "values_within" "values_within" s_values_within f fd) (M : Bl mg) (cw : CL P w K mg base 1 "is_whole" Rw_is_whole) : FnOk P w K mg base CX0 2 f fd ["kinds", "kind", "thing"] (spR K Rw_values_within) := by
  refine F.ok sc_values_within (spR_len (by rintro _ _ ⟨_, _, _, rfl, _⟩; rfl)) (fun cdv A outer s H vs Q E hr h => ?_)
  obtain ⟨B, ds, o, x, r, ⟨kvs, k, v, rfl, hv⟩, q⟩ := h
  have hu := hu_of hr
  have hu64 : (A.deeper (envOfC "values_within" (defScope s_values_within) s.heap.objs.size f cdv)).units + 64 < cLine := by have := hr.un; omega
  refine ⟨_, pss_cons (ps_set (i := 3) sc_values_within.nd rfl (Or.inr rfl) (pe_dget hu (pv 0) (pv 1) (fun _ _ => rfl)))
    (pss_cons (ps_if (pt_cmpR (op_eqD hu64) (pe_ix ix_tup (pv 3) pe_int (fun _ _ => rfl)) pe_str (nomark _)) (pss_one (ps_ret (pe_ifExp (pw_and (pt_val (pe_cl cw hr (by decide) (by rfl) (pa_cons (pv 2) pa_nil))) (pw_and1 (pt_chain op_le op_le (pe_ix ix_tup (pv 3) pe_int (fun _ _ => rfl)) (pv 2) (pe_ix ix_tup (pv 3) pe_int (fun _ _ => rfl))))).pt (pe_lst pa_nil) pe_dead))) pss_nil)
    (pss_cons (ps_if (pt_cmpR (op_eqD hu64) (pe_ix ix_tup (pv 3) pe_int (fun _ _ => rfl)) pe_str (nomark _)) pss_never pss_nil)
    (pss_cons (ps_if (pt_cmpR (op_eqD hu64) (pe_ix ix_tup (pv 3) pe_int (fun _ _ => rfl)) pe_str (nomark _)) pss_never pss_nil)
    (pss_one (ps_ret (pe_ifExp (pt_val (k_isi (pv 2) (by rfl) M.isi (by rfl) M.list PyProof.Rows.boot_list (by decide) (by decide)))
      (pe_lc (own := [("cell", 4)]) (g := gName 4) (tt := tYes) rfl sc_values_within.nd (pi_list (pv 2)) (blkOk_by (N := ["kinds", "kind", "thing", "form", "cell"]) (sc := defScope s_values_within) (by decide +kernel)) (fun _ _ _ _ _ => pg_name (i := 4) sc_values_within.nd rfl (Or.inl rfl)) (fun _ _ _ _ _ => pts_nil)
        (fun _ _ _ _ _ => pe_tup (pa_cons (pe_ix (r := rIxT K) ix_tup (pv 3) pe_int (fun _ _ => rfl)) (pa_cons (pv 4) pa_nil)))) pe_dead)))))), ?_⟩
  refine fin_rt ?_ x r q
  show DS K _ [some (dictOf kvs), some (.str k), some v, none, none] _
  rcases hv with ⟨lo, hi, i, hk, rfl, h1, h2, rfl⟩ | ⟨c, xs, hk, rfl, hl, hp, rfl⟩
  · refine ds_seq (ds_set (de_dget (de_var rfl) (de_var rfl) hk)) ?_
    show DS K _ [some (dictOf kvs), some (.str k), some (.int i), some (numsD lo hi), none] _
    refine ds_guard (b := true) (dt_is (dt_test (de_op (de_op (de_var rfl) de_int (rd_ixT (j := 0) rfl rfl)) de_str (rd_eq (by decide +kernel) (by decide +kernel) rfl rfl))) (by decide +kernel)) (fun _ => ds_ret ?_) (fun z => nomatch z)
    refine de_if (b := true) (dt_is (dt_and (dt_B (de_call' (da_cons (de_var rfl) da_nil) ⟨.int i, rfl, rfl⟩)) fun _ => dt_test (de_chain (de_op (de_var rfl) de_int (rd_ixT (j := 1) rfl rfl)) (de_var rfl) (fun _ => de_op (de_var rfl) de_int (rd_ixT (j := 2) rfl rfl)) rd_le fun _ => rd_le)) ?_) (fun _ => de_lstX da_nil rfl (by decide)) (fun z => nomatch z)
    rw [decide_eq_true h1, decide_eq_true h2]
    rfl
  · refine ds_seq (ds_set (de_dget (de_var rfl) (de_var rfl) hk)) ?_
    show DS K _ [some (dictOf kvs), some (.str k), some (.list xs), some (rowsD c), none] _
    refine ds_guard (b := false) (dt_is (dt_test (de_op (de_op (de_var rfl) de_int (rd_ixT (j := 0) rfl rfl)) de_str (rd_eq (by decide +kernel) (by decide +kernel) rfl rfl))) (by decide +kernel)) (fun z => nomatch z) fun _ => ?_
    refine ds_guard (b := false) (dt_is (dt_test (de_op (de_op (de_var rfl) de_int (rd_ixT (j := 0) rfl rfl)) de_str (rd_eq (by decide +kernel) (by decide +kernel) rfl rfl))) (by decide +kernel)) (fun z => nomatch z) fun _ => ?_
    refine ds_guard (b := false) (dt_is (dt_test (de_op (de_op (de_var rfl) de_int (rd_ixT (j := 0) rfl rfl)) de_str (rd_eq (by decide +kernel) (by decide +kernel) rfl rfl))) (by decide +kernel)) (fun z => nomatch z) fun _ => ?_
    refine ds_ret (de_if (b := true) (dt_B (de_ty (de_var rfl) rfl kll)) (fun _ => de_is (de_lcX (fun _ => true) (fun i => .tuple [.str c, xs.getD i .none]) (di_list (de_var rfl)) (by decide) (fun _ _ => dt_yes) (fun i hi _ => ?_) (fun _ _ _ => rfl) (by omega)) ?_) (fun z => nomatch z))
    · show DE K _ [some (dictOf kvs), some (.str k), some (.list xs), some (rowsD c), xs[i]?] _
      have e : xs[i]? = some (xs.getD i .none) := by
        rw [List.getElem?_eq_getElem hi, List.getD_eq_getElem?_getD, List.getElem?_eq_getElem hi]
        rfl
      have hpl : plain (xs.getD i .none) = true := by
        rw [List.getD_eq_getElem?_getD, List.getElem?_eq_getElem hi]
        exact List.all_eq_true.mp hp _ (List.getElem_mem hi)
      rw [e]
      exact de_tup (da_cons (de_op (de_var rfl) de_int (rd_ixT (j := 1) rfl rfl)) (da_cons (de_var rfl) da_nil)) (by simp only [List.all_cons, hpl]; rfl) (by show 2 ≤ 1000; decide)
    · rw [madeG_map xs (fun d => .tuple [.str c, d]), List.map_map]
      rfl
end
end FP
namespace FP
open PySem PySem.Spec PyProof.Rows L2 FC
open Evl (Ex)
section
variable {P : Program} {w : World} {K : PySem.W.Frag} {mg : Str → Option Value} {base : Heap} {f : Addr} {fd : FuncData} {G : List (Option PyData)}
theorem sc_check_kind : FnScope ["kinds", "kind"] ["kinds", "kind"] (defScope s_check_kind) := ⟨rfl, rfl, rfl, by decide +kernel, rfl, by decide +kernel, by decide +kernel⟩
theorem ok_check_kind (F : Fun K "check_kind" "check_kind" s_check_kind f fd) (c1 : CL P w K mg base 4 "is_kinds" Rw_is_kinds) (c2 : CL P w K mg base 1 "is_kind" Rw_is_kind) : FnOk P w K mg base CX0 5 f fd ["kinds", "kind"] (spR K Rw_check_kind) := by
  refine F.ok sc_check_kind (spR_len (by rintro _ _ ⟨_, _, rfl, _⟩; rfl)) (fun cdv A outer s H vs Q E hr h => ?_)
  obtain ⟨B, ds, o, x, r, ⟨kvs, k, rfl, ok, hk, rfl⟩, q⟩ := h
  refine ⟨_, pss_cons (ps_if (pt_not (pt_val (pe_cl c1 hr (by decide) (by rfl) (pa_cons (pv 0) pa_nil)))) pss_never pss_nil)
    (pss_one (ps_if (pt_not (pt_val (pe_cl c2 hr (by decide) (by rfl) (pa_cons (pv 0) (pa_cons (pv 1) pa_nil))))) pss_never pss_nil)), ?_⟩
  refine fin_nx (G' := [some (dictU kvs), some (.str k)]) ?_ x r q
  show DS K _ [some (dictU kvs), some (.str k)] _
  refine ds_seq (ds_if (b := false) (dt_is (dt_not (dt_B (de_call' (da_cons (de_var rfl) da_nil) ⟨kvs, rfl, ok, rfl⟩))) rfl) (fun z => nomatch z) fun _ => ds_next) ?_
  exact ds_if (b := false) (dt_is (dt_not (dt_B (de_call' (da_cons (de_ofU (de_var rfl)) (da_cons (de_var rfl) da_nil)) ⟨kvs, k, rfl, rfl⟩))) (by rw [hk]; rfl)) (fun z => nomatch z) fun _ => ds_next
theorem sc_check_value : FnScope ["kinds", "kind", "value"] ["kinds", "kind", "value"] (defScope s_check_value) := ⟨rfl, rfl, rfl, by decide +kernel, rfl, by decide +kernel, by decide +kernel⟩
theorem ok_check_value (F : Fun K "check_value" "check_value" s_check_value f fd) (cs : Cl P w K mg base 5 "is_sound" (spSound P w K mg base 4)) (cv : CL P w K mg base 4 "values_within" Rw_values_within) : FnOk P w K mg base CX0 6 f fd ["kinds", "kind", "value"] (spR K Rw_check_value) := by
  refine F.ok sc_check_value (spR_len (by rintro _ _ ⟨_, _, _, rfl, _⟩; rfl)) (fun cdv A outer s H vs Q E hr h => ?_)
  obtain ⟨B, ds, o, x, r, ⟨kvs, k, v, rfl, hp, ⟨n, hs⟩, rfl⟩, q⟩ := h
  obtain ⟨fw, fdw, psw, Fw, mw, kw, bw⟩ := cv.ex
  refine ⟨_, pss_one (ps_if (pt_not (pt_val (pe_cl cs hr (by decide) (by rfl) (pa_cons (pv 0) (pa_cons (pv 1) (pa_cons (pv 2) (pa_cons (pe_glob (v := .ref fw) (by rfl) mw rfl) pa_nil))))))) pss_never pss_nil), ?_⟩
  refine fin_nx (G' := [some (dictOf kvs), some (.str k), some v]) ?_ x r q
  show DS K _ [some (dictOf kvs), some (.str k), some v] _
  exact ds_if (b := false) (dt_is (dt_not (dt_B (de_sound Fw kw bw (de_var rfl) (de_var rfl) (de_var rfl) rfl hp hs))) rfl) (fun z => nomatch z) fun _ => ds_next
theorem sc_check_pattern : FnScope ["kinds", "kind", "pattern"] ["kinds", "kind", "pattern"] (defScope s_check_pattern) := ⟨rfl, rfl, rfl, by decide +kernel, rfl, by decide +kernel, by decide +kernel⟩
theorem ok_check_pattern (F : Fun K "check_pattern" "check_pattern" s_check_pattern f fd) (c1 : CL P w K mg base 6 "is_pattern" Rw_is_pattern) : FnOk P w K mg base CX0 7 f fd ["kinds", "kind", "pattern"] (spR K Rw_check_pattern) := by
  refine F.ok sc_check_pattern (spR_len (by rintro _ _ ⟨_, _, _, _, _, rfl, _⟩; rfl)) (fun cdv A outer s H vs Q E hr h => ?_)
  obtain ⟨B, ds, o, x, r, ⟨kvs, k, p, lo, hi, rfl, hp, hk, rfl⟩, q⟩ := h
  refine ⟨_, pss_one (ps_if (pt_not (pt_val (pe_cl c1 hr (by decide) (by rfl) (pa_cons (pv 0) (pa_cons (pv 1) (pa_cons (pv 2) pa_nil)))))) pss_never pss_nil), ?_⟩
  refine fin_nx (G' := [some (dictOf kvs), some (.str k), some p]) ?_ x r q
  show DS K _ [some (dictOf kvs), some (.str k), some p] _
  exact ds_if (b := false) (dt_is (dt_not (dt_B (de_call' (da_cons (de_var rfl) (da_cons (de_var rfl) (da_cons (de_var rfl) da_nil))) ⟨kvs, k, p, lo, hi, rfl, hp, hk, rfl⟩))) rfl) (fun z => nomatch z) fun _ => ds_next
theorem sc_check_clauses : FnScope ["kinds", "kind", "clauses"] ["kinds", "kind", "clauses"] (defScope s_check_clauses) := ⟨rfl, rfl, rfl, by decide +kernel, rfl, by decide +kernel, by decide +kernel⟩
theorem ok_check_clauses (F : Fun K "check_clauses" "check_clauses" s_check_clauses f fd) (c1 : CL P w K mg base 8 "is_clauses" Rw_is_clauses) : FnOk P w K mg base CX0 9 f fd ["kinds", "kind", "clauses"] (spR K Rw_check_clauses) := by
  refine F.ok sc_check_clauses (spR_len (by rintro _ _ ⟨_, _, _, _, _, rfl, _⟩; rfl)) (fun cdv A outer s H vs Q E hr h => ?_)
  obtain ⟨B, ds, o, x, r, ⟨kvs, k, cs, lo, hi, rfl, hp, hl, hk, rfl⟩, q⟩ := h
  refine ⟨_, pss_one (ps_if (pt_not (pt_val (pe_cl c1 hr (by decide) (by rfl) (pa_cons (pv 0) (pa_cons (pv 1) (pa_cons (pv 2) pa_nil)))))) pss_never pss_nil), ?_⟩
  refine fin_nx (G' := [some (dictOf kvs), some (.str k), some (.list (cs.map clauseD))]) ?_ x r q
  show DS K _ [some (dictOf kvs), some (.str k), some (.list (cs.map clauseD))] _
  exact ds_if (b := false) (dt_is (dt_not (dt_B (de_call' (da_cons (de_var rfl) (da_cons (de_var rfl) (da_cons (de_var rfl) da_nil))) ⟨kvs, k, cs, lo, hi, rfl, hp, hl, hk, rfl⟩))) rfl) (fun z => nomatch z) fun _ => ds_next
theorem value_int {kvs : List (Str × PyData)} {k : Str} {lo hi i : Int} (hk : look kvs k = some (numsD lo hi)) (h1 : lo ≤ i) (h2 : i ≤ hi) : ValueOk kvs k (.int i) :=
  ⟨1, Sweep.leaf ⟨kvs, k, .int i, rfl, .inl ⟨lo, hi, i, hk, rfl, h1, h2, rfl⟩⟩⟩
theorem sc_fits : FnScope ["kinds", "kind", "pattern", "value"] ["kinds", "kind", "pattern", "value"] (defScope s_fits) := ⟨rfl, rfl, rfl, by decide +kernel, rfl, by decide +kernel, by decide +kernel⟩
theorem ok_fits (F : Fun K "fits" "fits" s_fits f fd) (c1 : CL P w K mg base 5 "check_kind" Rw_check_kind) (c2 : CL P w K mg base 7 "check_pattern" Rw_check_pattern) (c3 : CL P w K mg base 6 "check_value" Rw_check_value) (c4 : CL P w K mg base 1 "pattern_fits" Rw_pattern_fits) : FnOk P w K mg base CX0 10 f fd ["kinds", "kind", "pattern", "value"] (spR K Rw_fits) := by
  refine F.ok sc_fits (spR_len (by rintro _ _ ⟨_, _, _, _, _, _, rfl, _⟩; rfl)) (fun cdv A outer s H vs Q E hr h => ?_)
  obtain ⟨B, ds, o, x, r, ⟨kvs, k, p, lo, hi, i, rfl, ok, hk, hp, h1, h2, rfl⟩, q⟩ := h
  refine ⟨_, pss_cons (ps_expr (pe_cl c1 hr (by decide) (by rfl) (pa_cons (pv 0) (pa_cons (pv 1) pa_nil))))
    (pss_cons (ps_expr (pe_cl c2 hr (by decide) (by rfl) (pa_cons (pv 0) (pa_cons (pv 1) (pa_cons (pv 2) pa_nil)))))
    (pss_cons (ps_expr (pe_cl c3 hr (by decide) (by rfl) (pa_cons (pv 0) (pa_cons (pv 1) (pa_cons (pv 3) pa_nil)))))
    (pss_one (ps_ret (pe_cl c4 hr (by decide) (by rfl) (pa_cons (pv 2) (pa_cons (pv 3) pa_nil))))))), ?_⟩
  refine fin_rt ?_ x r q
  show DS K _ [some (dictU kvs), some (.str k), some p, some (.int i)] _
  refine ds_seq (ds_drop (de_call' (da_cons (de_var rfl) (da_cons (de_var rfl) da_nil)) ⟨kvs, k, rfl, ok, by rw [hk]; rfl, rfl⟩)) ?_
  refine ds_seq (ds_drop (de_call' (da_cons (de_ofU (de_var rfl)) (da_cons (de_var rfl) (da_cons (de_var rfl) da_nil))) ⟨kvs, k, p, lo, hi, rfl, hp, hk, rfl⟩)) ?_
  refine ds_seq (ds_drop (de_call' (da_cons (de_ofU (de_var rfl)) (da_cons (de_var rfl) (da_cons (de_var rfl) da_nil))) ⟨kvs, k, .int i, rfl, rfl, value_int hk h1 h2, rfl⟩)) ?_
  exact ds_ret (de_call' (da_cons (de_var rfl) (da_cons (de_var rfl) da_nil)) ⟨p, i, rfl, hp, rfl⟩)
theorem sc_check_lists : FnScope ["kinds", "kind", "lists", "clauses"] ["kinds", "kind", "lists"] (defScope s_check_lists) := ⟨rfl, rfl, rfl, by decide +kernel, rfl, by decide +kernel, by decide +kernel⟩
theorem ok_check_lists (F : Fun K "check_lists" "check_lists" s_check_lists f fd) (c1 : CL P w K mg base 5 "check_kind" Rw_check_kind) (c2 : CL P w K mg base 9 "check_clauses" Rw_check_clauses) : FnOk P w K mg base CX0 10 f fd ["kinds", "kind", "lists"] (spR K Rw_check_lists) := by
  refine F.ok sc_check_lists (spR_len (by rintro _ _ ⟨_, _, _, _, _, rfl, _⟩; rfl)) (fun cdv A outer s H vs Q E hr h => ?_)
  obtain ⟨B, ds, o, x, r, ⟨kvs, k, cs, lo, hi, rfl, ok, hc, hl, hk, rfl⟩, q⟩ := h
  refine ⟨_, pss_cons (ps_expr (pe_cl c1 hr (by decide) (by rfl) (pa_cons (pv 0) (pa_cons (pv 1) pa_nil))))
    (pss_one (ps_for PassesOwn.never rfl (pi_list (pv 2)) (pg_name (i := 3) sc_check_lists.nd rfl (Or.inl rfl)) (pss_one (ps_expr (pe_cl c2 hr (by decide) (by rfl) (pa_cons (pv 0) (pa_cons (pv 1) (pa_cons (pv 3) pa_nil)))))))), ?_⟩
  let Gs : Nat → List (Option PyData)
    | 0 => [some (dictU kvs), some (.str k), some (.list [.list (cs.map clauseD)]), none]
    | _ + 1 => [some (dictU kvs), some (.str k), some (.list [.list (cs.map clauseD)]), some (.list (cs.map clauseD))]
  refine fin_nx (G' := Gs 1) ?_ x r q
  show DS K _ [some (dictU kvs), some (.str k), some (.list [.list (cs.map clauseD)]), none] _
  refine ds_seq (ds_drop (de_call' (da_cons (de_var rfl) (da_cons (de_var rfl) da_nil)) ⟨kvs, k, rfl, ok, by rw [hk]; rfl, rfl⟩)) ?_
  refine ds_for Gs (di_list (ds := [.list (cs.map clauseD)]) (de_var rfl)) rfl fun i hi' => ?_
  obtain rfl : i = 0 := by
    have : i < 1 := hi'
    omega
  show DS K _ [some (dictU kvs), some (.str k), some (.list [.list (cs.map clauseD)]), some (.list (cs.map clauseD))] _
  exact ds_drop (de_call' (da_cons (de_ofU (de_var rfl)) (da_cons (de_var rfl) (da_cons (de_var rfl) da_nil))) ⟨kvs, k, cs, lo, hi, rfl, hc, hl, hk, rfl⟩)
theorem sc_taker : FnScope ["kinds", "kind", "clauses", "value"] ["kinds", "kind", "clauses", "value"] (defScope s_taker) := ⟨rfl, rfl, rfl, by decide +kernel, rfl, by decide +kernel, by decide +kernel⟩
theorem ok_taker (F : Fun K "taker" "taker" s_taker f fd) (c1 : CL P w K mg base 10 "check_lists" Rw_check_lists) (c3 : CL P w K mg base 6 "check_value" Rw_check_value) (c4 : CL P w K mg base 2 "first_fitting" Rw_first_fitting) : FnOk P w K mg base CX0 11 f fd ["kinds", "kind", "clauses", "value"] (spR K Rw_taker) := by
  refine F.ok sc_taker (spR_len (by rintro _ _ ⟨_, _, _, _, _, _, rfl, _⟩; rfl)) (fun cdv A outer s H vs Q E hr h => ?_)
  obtain ⟨B, ds, o, x, r, ⟨kvs, k, cs, lo, hi, i, rfl, ok, hk, hc, hl, h1, h2, ht⟩, q⟩ := h
  refine ⟨_, pss_cons (ps_expr (pe_cl c1 hr (by decide) (by rfl) (pa_cons (pv 0) (pa_cons (pv 1) (pa_cons (pe_lst (pa_cons (pv 2) pa_nil)) pa_nil)))))
    (pss_cons (ps_expr (pe_cl c3 hr (by decide) (by rfl) (pa_cons (pv 0) (pa_cons (pv 1) (pa_cons (pv 3) pa_nil)))))
    (pss_one (ps_ret (pe_cl c4 hr (by decide) (by rfl) (pa_cons (pv 2) (pa_cons (pv 3) pa_nil)))))), ?_⟩
  refine fin_rt ?_ x r q
  show DS K _ [some (dictU kvs), some (.str k), some (.list (cs.map clauseD)), some (.int i)] _
  refine ds_seq (ds_drop (de_call' (da_cons (de_var rfl) (da_cons (de_var rfl) (da_cons (de_lst (da_cons (de_var rfl) da_nil) rfl (by show 1 ≤ 1000; decide)) da_nil))) ⟨kvs, k, cs, lo, hi, rfl, ok, hc, hl, hk, rfl⟩)) ?_
  refine ds_seq (ds_drop (de_call' (da_cons (de_ofU (de_var rfl)) (da_cons (de_var rfl) (da_cons (de_var rfl) da_nil))) ⟨kvs, k, .int i, rfl, rfl, value_int hk h1 h2, rfl⟩)) ?_
  exact ds_ret (de_call' (da_cons (de_var rfl) (da_cons (de_var rfl) da_nil)) ⟨cs, i, rfl, hc, hl, ht⟩)
theorem sc_label : FnScope ["kinds", "kind", "clauses", "value", "at"] ["kinds", "kind", "clauses", "value"] (defScope s_label) := ⟨rfl, rfl, rfl, by decide +kernel, rfl, by decide +kernel, by decide +kernel⟩
theorem ok_label (F : Fun K "label" "label" s_label f fd) (c1 : CL P w K mg base 11 "taker" Rw_taker) : FnOk P w K mg base CX0 12 f fd ["kinds", "kind", "clauses", "value"] (spR K Rw_label) := by
  refine F.ok sc_label (spR_len (by rintro _ _ ⟨_, _, _, _, _, _, _, rfl, _⟩; rfl)) (fun cdv A outer s H vs Q E hr h => ?_)
  obtain ⟨B, ds, o, x, r, ⟨kvs, k, cs, lo, hi, i, o', rfl, ok, hk, hc, hl, h1, h2, ht, rfl⟩, q⟩ := h
  refine ⟨_, pss_cons (ps_set (i := 4) sc_label.nd rfl (Or.inl rfl) (pe_cl c1 hr (by decide) (by rfl) (pa_cons (pv 0) (pa_cons (pv 1) (pa_cons (pv 2) (pa_cons (pv 3) pa_nil))))))
    (pss_one (ps_ret (pe_ifExp (pt_cmp (pc_isN (pv 4))) pe_non (pe_ix ix_tup (pe_ix ix_list (pv 2) (pv 4) (fun _ _ => rfl)) pe_int (fun _ _ => rfl))))), ?_⟩
  refine fin_rt ?_ x r q
  show DS K _ [some (dictU kvs), some (.str k), some (.list (cs.map clauseD)), some (.int i), none] _
  refine ds_seq (ds_set (de_call' (da_cons (de_var rfl) (da_cons (de_var rfl) (da_cons (de_var rfl) (da_cons (de_var rfl) da_nil)))) ⟨kvs, k, cs, lo, hi, i, rfl, ok, hk, hc, hl, h1, h2, ht⟩)) ?_
  show DS K _ [some (dictU kvs), some (.str k), some (.list (cs.map clauseD)), some (.int i), some o'] _
  rcases ht with ⟨m, c, hm, _, _, rfl⟩ | ⟨_, rfl⟩
  · refine ds_ret (de_if (b := false) (dt_is (dt_B (de_isN (de_var rfl))) rfl) (fun z => nomatch z) fun _ => ?_)
    have e : (cs.map clauseD)[m]? = some (clauseD c) := by rw [List.getElem?_map, hm]; rfl
    have e2 : lab cs (.int (m : Nat)) = .str c.2 := by
      show (match cs[((m : Nat) : Int).toNat]? with | some c => PyData.str c.2 | none => .none) = _
      rw [Int.toNat_natCast, hm]
    rw [e2]
    exact de_op (de_op (de_var rfl) (de_var rfl) (rd_ixL (j := m) rfl e)) de_int (rd_ixT (j := 1) rfl rfl)
  · exact ds_ret (de_if (b := true) (dt_is (dt_B (de_isN (de_var rfl))) rfl) (fun _ => de_non) fun z => nomatch z)
end
end FP
namespace FP
open PySem PySem.Spec PyProof.Rows L2 FC
open Evl (Ex)
abbrev s_purse : Stmt := topS 50
abbrev s_mixed : Stmt := topS 51
abbrev s_draw : Stmt := topS 52
abbrev s_law : Stmt := topS 53
/-! ### a call with keywords alone -/
section
variable {X : Cx} {k j : Nat} {f : Addr} {fd : FuncData} {ps ks : List Str} {sp : Sp} {x : Str} {p pos : Pos} {kws : List Keyword} {tk : TA}
def tCallW (sp : Sp) (m : Nat) (g : List V → List V) (tk : TA) : TE := fun σ H Q => tk σ H fun zs H2 => zs.length = m ∧ sp (g zs) H2 Q E0
theorem pe_clW (F : FnOk X.prog X.w X.K X.mg X.base CX0 k f fd ps sp) (hr : Room j X.A) (hkj : k ≤ j) (hg : Gl X x) (hm : X.mg x = some (.ref f)) (hk : PySem.W.keepIn X.K (.ref f) = true)
    (g : {α : Type} → List α → List α) (hb : ∀ (s : Shared) (ws : List Value), ws.length = ks.length → BindsTo s fd ⟨[], ks.zip ws⟩ (ps.zip (g ws))) (rel : ∀ {zs : List V} {ws : List Value}, zs.length = ks.length → Vals zs ws → Vals (g zs) (g ws))
    (hkw : PK X kws tk) (hall : (backToKw pos (keywordEach kws X.env)).all (·.1.isSome) = true := by rfl) (hks : (backToKw pos (keywordEach kws X.env)).filterMap (·.1) = ks := by rfl) (hdb : (x == ("__debug__" : Str)) = false := by decide)
    (hpl : ((backTo pos (starEach [] X.env)).any (·.1) || (backToKw pos (keywordEach kws X.env)).any (·.1.isNone)) = false := by rfl) : PE X (.Call (.Name x p) [] kws pos) (tCallW sp ks.length (g (α := V)) tk) := by
  refine ⟨fun pins s σ H Q I h => ?_⟩
  refine wpAny_Call_Name_kw (ld_glob I hg hm ?_ hdb)
  refine PySem.W.callWith_KW0 (h₀ := X.base) I.ok.mod.kin hk hall ?_ hpl
  refine thn (hkw.run pos pins s σ H _ I h) fun ws s2 q0 => ?_
  obtain ⟨zs, H2, I2, rz, hl, hsp⟩ := q0
  refine ⟨I2.kIn, ?_⟩
  rw [hks]
  have hwl : ws.length = ks.length := rz.length.symm.trans hl
  refine wpAny_call (codeAny_mono ((F.mono hkj).run X.A X.stack s2 H2 ⟨[], ks.zip ws⟩ (g ws) (g zs) Q E0 hr I2.env0 (hb s2 ws hwl) (rel hl rz) hsp) fun r s' hq => ?_)
  cases r with
  | error e => exact pass0 pins σ H2 s2 e s' I2 hq
  | ok fl =>
    cases fl with
    | ret u => exact I2.after hq
    | next => exact hq.elim
    | brk => exact hq.elim
    | cont => exact hq.elim
end
/-- how a def of four parameters binds its keywords told in the order 3, 2, 1, 0 -/
def rev4 {α : Type} : List α → List α
  | [a, b, c, d] => [d, c, b, a]
  | l => l
section
variable {X : Cx}
def CBig (i j : Int) : Prop := 0 ≤ j ∧ (Builtin.Int.intBits i : Int) * j ≤ 2 ^ 27
theorem big18 : CBig 10 18 := by unfold CBig; decide +kernel
theorem big60 : CBig 10 60 := by unfold CBig; decide +kernel
theorem big8 : CBig (10 ^ Int.toNat 60) 8 := by unfold CBig; decide +kernel
theorem pos8 : (0 : Int) < (10 ^ Int.toNat 60) ^ Int.toNat 8 := by decide +kernel
theorem op_powW : OpR X (binaryOp .Pow) (rI CBig fun i j => .int (i ^ j.toNat)) := opI fun _ _ _ _ _ _ _ hc q => PyProof.Rows.pow_int hc.1 hc.2 q
end
section
variable {P : Program} {w : World} {K : PySem.W.Frag} {mg : Str → Option Value} {base : Heap} {f : Addr} {fd : FuncData} {G : List (Option PyData)}
/-! ### the law's draws -/
def spMixed : Sp := fun vs H Q _ => ∃ s t : Int, vs = [.int s, .int t] ∧ 0 ≤ s ∧ s < 2 ^ 32 ∧ 0 ≤ t ∧ t ≤ 10000000 ∧ ∀ r : Int, 0 ≤ r → r < 2147483587 → Q (.int r) H
theorem sc_mixed : FnScope ["seed", "step", "found"] ["seed", "step"] (defScope s_mixed) := ⟨rfl, rfl, rfl, by decide +kernel, rfl, by decide +kernel, by decide +kernel⟩
theorem ok_mixed (F : Fun K "_law_mixed" "_law_mixed" s_mixed f fd) : FnOk P w K mg base CX0 1 f fd ["seed", "step"] spMixed := by
  refine F.ok sc_mixed (by rintro vs H Q E ⟨s, t, rfl, _⟩; rfl) (fun cdv A outer s H vs Q E hr h => ?_)
  obtain ⟨sd, t, rfl, h1, h2, h3, h4, q⟩ := h
  refine ⟨_, pss_cons (ps_set (i := 2) sc_mixed.nd rfl (Or.inl rfl) (pe_op op_mod (pe_op op_add (pe_op op_add (pe_op op_mul (pv 0) pe_int) (pe_op op_mul (pe_op op_mul pe_int (pv 1)) (pv 1))) (pv 1)) pe_int))
    (pss_cons (ps_set (i := 2) sc_mixed.nd rfl (Or.inl rfl) (pe_op op_mod (pe_op op_add (pe_op op_mul (pv 2) (pv 2)) pe_int) pe_int))
    (pss_one (ps_ret (pe_op op_mod (pe_op op_mul (pv 2) pe_int) pe_int)))), ?_⟩
  refine ⟨_, rfl, _, _, rfl, rfl, .inr (by decide), _, rfl, _, _, rfl, rfl, .inl (by decide), _, rfl, _, _, rfl, rfl, .inr ⟨by omega, by omega⟩, _, _, rfl, rfl, _, rfl, _, _, rfl, rfl, _, _, rfl, rfl, (by show (0 : Int) < 2147483647; decide), ?_⟩
  generalize he : (sd * 69069 + 104729 * t * t + t) % 2147483647 = e
  have e0 : 0 ≤ e := by rw [← he]; exact Int.emod_nonneg _ (by decide)
  have e1 : e < 2147483647 := by rw [← he]; exact Int.emod_lt_of_pos _ (by decide)
  refine ⟨_, rfl, _, rfl, _, _, rfl, rfl, .inl ⟨by omega, by omega⟩, _, _, rfl, rfl, _, _, rfl, rfl, (by show (0 : Int) < 2147483629; decide), ?_⟩
  generalize (e * e + 40503) % 2147483629 = e2
  refine ⟨_, rfl, _, _, rfl, rfl, .inr (by decide), _, _, rfl, rfl, (by show (0 : Int) < 2147483587; decide), ?_⟩
  exact q _ (Int.emod_nonneg _ (by decide)) (Int.emod_lt_of_pos _ (by decide))
def spPurse (K : PySem.W.Frag) : Sp := fun vs H Q _ => ∃ (a : Addr) (ns : List Int) (i : Int), vs = [.ref a, .int i] ∧ SqL K H a (ns.map V.int) ∧ 0 ≤ i ∧ i ≤ 1000 ∧
  ∀ p H' (x y : Int), Ex H H' → H p = none → H' p = some (.lst [.int x, .int y, .int (1000 * i)]) → 0 ≤ x → 0 ≤ y → y < 2147483629 → Q (.ref p) H'
theorem sc_purse : FnScope ["script", "at", "cell"] ["script", "at"] (defScope s_purse) := ⟨rfl, rfl, rfl, by decide +kernel, rfl, by decide +kernel, by decide +kernel⟩
theorem ok_purse (F : Fun K "_law_purse" "_law_purse" s_purse f fd) (M : Bl mg) : FnOk P w K mg base CX0 1 f fd ["script", "at"] (spPurse K) := by
  refine F.ok sc_purse (by rintro vs H Q E ⟨s, t, i, rfl, _⟩; rfl) (fun cdv A outer s H vs Q E hr h => ?_)
  obtain ⟨a, ns, i, rfl, hS, h1, h2, q⟩ := h
  refine ⟨_, pss_cons (ps_set (i := 2) sc_purse.nd rfl (Or.inl rfl) (pe_callB (cr_sum rfl) (by rfl) M.sum PyProof.Rows.boot_sum (pa_cons (pe_slice sl_list (pv 0) (po_some (pv 1)) (po_some (pe_op op_add (pv 1) pe_int))) pa_nil)))
    (pss_one (ps_ret (pe_lst (pa_cons (pe_op op_mod (pe_callB (call_max2 rfl) (by rfl) M.max PyProof.Rows.boot_max (pa_cons (pe_op op_sub (pv 2) (pe_op op_powW pe_int pe_int)) (pa_cons pe_int pa_nil))) (pe_op op_powW (pe_op op_powW pe_int pe_int) pe_int))
      (pa_cons (pe_op op_mod (pv 2) pe_int) (pa_cons (pe_op op_mul pe_int (pv 1)) pa_nil)))))), ?_⟩
  refine ⟨.ref a, rfl, .int i, rfl, i, rfl, .int i, rfl, i, 1, rfl, rfl, i + 1, rfl, a, ns.map V.int, rfl, hS, fun c hc => ?_⟩
  have ec : ∃ ms : List Int, cutV (ns.map V.int) (some i) (some (i + 1)) = ms.map V.int := by
    unfold cutV
    rw [← List.map_drop, ← List.map_take]
    exact ⟨_, rfl⟩
  obtain ⟨ms, ec⟩ := ec
  rw [ec]
  refine ⟨c, ms, rfl, .inl (.inl upd_same), ?_⟩
  refine ⟨_, rfl, _, _, rfl, rfl, big18, _, _, rfl, rfl, _, _, rfl, ?_⟩
  generalize (if (0 : Int) > ms.sum - 10 ^ (18 : Int).toNat then (0 : Int) else ms.sum - 10 ^ (18 : Int).toNat) = mx
  refine ⟨_, _, rfl, rfl, big60, _, _, rfl, rfl, big8, _, _, rfl, rfl, pos8, ?_⟩
  refine ⟨_, rfl, _, _, rfl, rfl, (by show (0 : Int) < 2147483629; decide), _, rfl, _, _, rfl, rfl, .inl (by decide), (by show 3 ≤ sizeLine; decide), fun p hp => ?_⟩
  have e1 : Ex H (upd H c (.lst (ms.map V.int))) := Evl.Ex.new hc
  refine q p _ _ _ (e1.trans (Evl.Ex.new hp)) (Evl.fresh_back e1 hp) upd_same (Int.emod_nonneg _ (Int.ne_of_gt pos8)) (Int.emod_nonneg _ (by decide)) (Int.emod_lt_of_pos _ (by decide))
end
end FP
namespace FP
open PySem PySem.Spec PyProof.Rows L2 FC
open Evl (Ex)
section
variable {P : Program} {w : World} {K : PySem.W.Frag} {mg : Str → Option Value} {base : Heap} {f : Addr} {fd : FuncData} {G : List (Option PyData)}
def purseV (a b c : Int) : List V := [.int a, .int b, .int c]
def spDraw : Sp := fun vs H Q _ => ∃ (p : Addr) (m a b c : Int), vs = [.ref p, .int m] ∧ 1 ≤ m ∧ m ≤ 1000 ∧ H p = some (.lst (purseV a b c)) ∧ 0 ≤ a ∧ 0 ≤ b ∧ b < 2147483629 ∧ 0 ≤ c ∧ c ≤ 9000000 ∧
  ∀ (r a' c' : Int) (H' : Hp), 0 ≤ r → r < m → 0 ≤ a' → 0 ≤ c' → c' ≤ c + 1 → (∀ q o, q ≠ p → H q = some o → H' q = some o) → H' p = some (.lst (purseV a' b c')) → Q (.int r) H'
theorem bits28 {m : Int} (h1 : 1 ≤ m) (h2 : m ≤ 1000) : ((Builtin.Int.intBits m : Nat) : Int) / 28 = 0 := by
  have key : ∀ n : Nat, n ≤ 1000 → Builtin.Int.intBits (n : Int) ≤ 10 := by
    intro n hn
    have := (by decide +kernel : ∀ n : Fin 1001, Builtin.Int.intBits ((n.val : Nat) : Int) ≤ 10)
    exact this ⟨n, by omega⟩
  have h := key m.toNat (by omega)
  rw [Int.toNat_of_nonneg (by omega)] at h
  omega
theorem sc_draw : FnScope ["purse", "many", "drawn", "found", "piece"] ["purse", "many"] (defScope s_draw) := ⟨rfl, rfl, rfl, by decide +kernel, rfl, by decide +kernel, by decide +kernel⟩
theorem ok_draw (F : Fun K "_law_draw" "_law_draw" s_draw f fd) (M : Bl mg) (cm : Cl P w K mg base 1 "_law_mixed" spMixed) : FnOk P w K mg base CX0 2 f fd ["purse", "many"] spDraw := by
  refine F.ok sc_draw (by rintro vs H Q E ⟨p, m, a, b, c, rfl, _⟩; rfl) (fun cdv A outer s H vs Q E hr h => ?_)
  obtain ⟨p, m, a, b, c, rfl, m1, m2, hp, a0, b0, b1, c0, c1, q⟩ := h
  have nd := sc_draw.nd
  refine ⟨_, pss_cons (ps_if (pt_cmpR op_gt (pe_ix ix_list (pv 0) pe_int (fun _ _ => rfl)) pe_int (nomark _))
      (pss_cons (ps_set (i := 2) nd rfl (Or.inl rfl) (pe_op op_mod (pe_ix ix_list (pv 0) pe_int (fun _ _ => rfl)) (pv 1)))
      (pss_cons (ps_asg (pe_op op_fdiv (pe_ix ix_list (pv 0) pe_int (fun _ _ => rfl)) (pv 1)) (pg_sub (pv 0) pe_int set_list))
      (pss_one (ps_ret (pv 2))))) pss_nil)
    (pss_cons (ps_set (i := 3) nd rfl (Or.inl rfl) pe_int)
    (pss_cons (ps_for PassesOwn.never rfl (pi_range1 (by rfl) M.range (pa_cons (pe_op op_add pe_int (pe_op op_fdiv (pe_bits (pv 1)) pe_int)) pa_nil)) (pg_name (i := 4) nd rfl (Or.inl rfl))
      (pss_cons (ps_asg (pe_op op_add (pe_ix ix_list (pv 0) pe_int (fun _ _ => rfl)) pe_int) (pg_sub (pv 0) pe_int set_list))
      (pss_one (ps_set (i := 3) nd rfl (Or.inl rfl) (pe_op op_add (pe_op op_mul (pv 3) pe_int) (pe_cl cm hr (by decide) (by rfl) (pa_cons (pe_ix ix_list (pv 0) pe_int (fun _ _ => rfl)) (pa_cons (pe_ix ix_list (pv 0) pe_int (fun _ _ => rfl)) pa_nil))))))))
    (pss_one (ps_ret (pe_op op_mod (pv 3) (pv 1)))))), ?_⟩
  have hL : ∀ H', H' p = some (.lst (purseV a b c)) → SqL K H' p (purseV a b c) := fun H' h => .inl (.inl h)
  refine ⟨.ref p, rfl, p, _, 0, .int a, rfl, rfl, hL _ hp, atI_nat (j := 0) rfl, a, 0, rfl, rfl, _, rfl, ite2 (fun ha => ?_) (fun ha => ?_)⟩
  · refine ⟨.ref p, rfl, p, _, 0, .int a, rfl, rfl, hL _ hp, atI_nat (j := 0) rfl, .int m, rfl, a, m, rfl, rfl, (by show (0 : Int) < m; omega), ?_⟩
    refine ⟨.ref p, rfl, p, _, 0, .int a, rfl, rfl, hL _ hp, atI_nat (j := 0) rfl, .int m, rfl, a, m, rfl, rfl, ⟨by omega, by omega⟩, .ref p, rfl, p, purseV a b c, 0, 0, rfl, rfl, hp, rfl, ?_⟩
    refine ⟨_, rfl, ?_⟩
    exact q _ (a / m) c _ (Int.emod_nonneg _ (by omega)) (Int.emod_lt_of_pos _ (by omega)) (Int.ediv_nonneg a0 (by omega)) c0 (by omega) (fun r o hr h => by rw [upd_ne hr]; exact h) upd_same
  · refine ⟨.int m, rfl, m, rfl, _, _, rfl, rfl, ⟨by decide, by decide⟩, 1, _, rfl, rfl, 1 + ((Builtin.Int.intBits m : Nat) : Int) / 28, rfl, ?_, ?_, ?_⟩
    · rw [bits28 m1 m2]; decide
    · rw [bits28 m1 m2]; decide
    · rw [bits28 m1 m2]
      refine for_range (lo := 0) (n := 1) (fun i σ H' => (i = 0 ∧ σ = [some (.ref p), some (.int m), none, some (.int 0), none] ∧ H' = H) ∨ (i = 1 ∧ ∃ (e : Int) (x4 : Option V), σ = [some (.ref p), some (.int m), none, some (.int e), x4] ∧ H' = upd H p (.lst (purseV a b (c + 1))))) (.inl ⟨rfl, rfl, rfl⟩) ?_ ?_
      · rintro i σ H' hi (⟨rfl, rfl, rfl⟩ | ⟨rfl, _⟩)
        · refine ⟨.ref p, rfl, p, _, 2, .int c, rfl, rfl, hL _ hp, atI_nat (j := 2) rfl, c, 1, rfl, rfl, .ref p, rfl, p, purseV a b c, 2, 2, rfl, rfl, hp, rfl, ?_⟩
          have hp2 : (upd H' p (.lst (purseV a b (c + 1)))) p = some (.lst (purseV a b (c + 1))) := upd_same
          refine ⟨.int 0, rfl, 0, 2147483587, rfl, rfl, .inl (by decide), .ref p, rfl, p, _, 1, .int b, rfl, rfl, .inl (.inl hp2), atI_nat (j := 1) rfl, .ref p, rfl, p, _, 2, .int (c + 1), rfl, rfl, .inl (.inl hp2), atI_nat (j := 2) rfl, b, c + 1, rfl, b0, by omega, by omega, by omega, fun r r0 r1 => ?_⟩
          exact ⟨_, r, rfl, rfl, .inr ⟨rfl, _, _, rfl, rfl⟩⟩
        · omega
      · rintro σ H' (⟨h, _⟩ | ⟨_, e, x4, rfl, rfl⟩)
        · omega
        · refine ⟨.int e, rfl, .int m, rfl, e, m, rfl, rfl, (by show (0 : Int) < m; omega), ?_⟩
          exact q _ a (c + 1) _ (Int.emod_nonneg _ (by omega)) (Int.emod_lt_of_pos _ (by omega)) a0 (by omega) (by omega) (fun r o hr h => by rw [upd_ne hr]; exact h) upd_same
end
end FP
namespace FP
open PySem PySem.Spec PyProof.Rows L2 FC
open Evl (Ex)
/-- a def that may be called by position and by its names told from behind -/
structure ClW (P : Program) (w : World) (K : PySem.W.Frag) (mg : Str → Option Value) (base : Heap) (k : Nat) (x : Str) (ps : List Str) (sp : Sp) : Prop where
  ex : ∃ (f : Addr) (fd : FuncData), FnOk P w K mg base CX0 k f fd ps sp ∧ mg x = some (.ref f) ∧ PySem.W.keepIn K (.ref f) = true ∧ Binds K fd ps [] ∧ ∀ (s : Shared) (ws : List Value), ws.length = ps.length → BindsTo s fd ⟨[], ps.reverse.zip ws⟩ (ps.zip (rev4 ws))
section
variable {P : Program} {w : World} {K : PySem.W.Frag} {mg : Str → Option Value} {base : Heap} {f : Addr} {fd : FuncData} {G G' : List (Option PyData)}
theorem ClW.cl {k : Nat} {x : Str} {ps : List Str} {sp : Sp} (c : ClW P w K mg base k x ps sp) : Cl P w K mg base k x sp := by
  obtain ⟨f, fd, F, m, kp, b, _⟩ := c.ex
  exact ⟨f, fd, ps, F, m, kp, b⟩
theorem vals_rev4 {zs : List V} {ws : List Value} (hl : zs.length = 4) (r : Vals zs ws) : Vals (rev4 zs) (rev4 ws) := by
  match zs, hl with
  | [_, _, _, _], _ =>
    cases r with
    | cons r1 r => cases r with
      | cons r2 r => cases r with
        | cons r3 r => cases r with
          | cons r4 r =>
            cases r
            exact .cons r4 (.cons r3 (.cons r2 (.cons r1 .nil)))
theorem de_callW {tk : TA} {a b c d o : PyData} {R : List PyData → PyData → Prop} (h : DA K tk G [a, b, c, d]) (hR : R [d, c, b, a] o) : DE K (tCallW (spR K R) 4 rev4 tk) G o := fun σ B H x en Q q =>
  h σ B H x en _ fun vs B1 H1 g1 r1 => by
    cases r1 with
    | cons r1 r => cases r with
      | cons r2 r => cases r with
        | cons r3 r => cases r with
          | cons r4 r =>
            cases r
            exact ⟨rfl, B1, [d, c, b, a], o, g1.sub, .cons r4 (.cons r3 (.cons r2 (.cons r1 .nil))), hR, fun v B' H' g2 r2 => q v B' H' (g1.trans g2) r2⟩
theorem de_disp1 {te : TE} {k : Str} {d : PyData} (h : DE K te G d) (hp : plain d = true) : DE K (tDisp [(tC (.str k), te)]) G (dictU [(k, d)]) := fun σ B H x en Q q => fun p hp0 => by
  have g0 : Go B H B (upd H p (.dK [])) := Go.own x hp0
  have nb : B p = none := sub_none x hp0
  refine h σ B _ g0.sub en _ fun v B1 H1 g1 r1 => ?_
  have e1 : H1 p = some (.dK []) := g1.eh p _ upd_same
  have nb1 : B1 p = none := g1.fr p _ upd_same nb
  refine ⟨e1, [(Sum.inr k, v)], rfl, by show 1 ≤ 15; decide, ?_⟩
  have em : mergeK [] [((Sum.inr k : Key), v)] = [((Sum.inr k : Key), v)] := rfl
  rw [em]
  have gg : Go B H (upd B1 p (.dK [(Sum.inr k, v)])) (upd H1 p (.dK [(Sum.inr k, v)])) := by
    have g2 := g0.trans g1
    refine ⟨g2.eb.trans (Evl.Ex.new nb1), Evl.Ex.mut g2.eh hp0, fun a o e => ?_, fun a o e na => ?_⟩
    · by_cases ha : a = p
      · subst ha
        rw [upd_same] at e ⊢
        exact e
      · rw [upd_ne ha] at e ⊢
        exact g1.sub a o e
    · have ha : a ≠ p := by
        intro z
        subst z
        rw [hp0] at e
        cases e
      rw [upd_ne ha]
      exact g2.fr a o e na
  refine q _ _ _ gg (.dictU upd_same (.cons ⟨rfl, dp_ex (Evl.Ex.new nb1) _ _ (r1.dp hp)⟩ .nil) (by simp))
theorem ds_par {ta : TA} {i j : Nat} {d e : PyData} (h : DA K ta G [d, e]) : DS K (tPar i j ta) G (.nx ((G.set i (some d)).set j (some e))) := fun D σ B H x en q =>
  h σ B H x en _ fun vs B1 H1 g1 r1 => by
    cases r1 with
    | cons r1 r => cases r with
      | cons r2 r =>
        cases r
        exact ⟨_, _, rfl, q _ B1 H1 g1 (((en.ex g1.eb).set i r1).set j r2)⟩
theorem par_step {i j : Nat} {t1 t2 : TE} {u : TS} {D : Ends} {σ : L2.St} {H : Hp} (h : t1 σ H fun x H1 => t2 σ H1 fun y H2 => ∃ v w, [x, y] = [v, w] ∧ u D ((σ.set i (some v)).set j (some w)) H2) : tSeq (tPar i j (tCons t1 (tCons t2 tNil))) u D σ H := h
theorem ds_use {ts : TS} {σ : L2.St} {B H : Hp} {D : Ends} (h : DS K ts G (.nx G')) (x : Ex B H) (en : En K B σ G) (q : ∀ σ' B' H', Go B H B' H' → En K B' σ' G' → D.nx σ' H') : ts D σ H := h D σ B H x en q
theorem en_weak {σ : L2.St} {B : Hp} (en : En K B σ G) (hl : G.length = G'.length) (h : ∀ (i : Nat) (d : PyData), G'[i]? = some (some d) → G[i]? = some (some d)) : En K B σ G' :=
  ⟨by rw [en.len, hl], fun i d e => en.get i d (h i d e)⟩
theorem ints_of {B : Hp} : ∀ {ns : List Int} {vs : List V}, DpAll K B vs (ns.map PyData.int) → vs = ns.map V.int
  | [], _, h => by cases h; rfl
  | _ :: ns, _, h => by
    cases h with
    | cons h1 h2 =>
      cases h1
      rw [ints_of h2]
      rfl
theorem ints_dp {B : Hp} : ∀ (ns : List Int), DpAll K B (ns.map V.int) (ns.map PyData.int)
  | [] => .nil
  | n :: ns => .cons (.int n) (ints_dp ns)
/-! ### the law -/
def kvs0 : List (Str × PyData) := [("num", numsD 0 9)]
theorem kinds0 : KindsOk kvs0 where
  ne := by decide
  few := by decide
  nm := fun q hq => by
    cases hq with
    | head => show isNameS "num" = true; decide +kernel
    | tail _ h => cases h
  fm := fun q hq => by
    cases hq with
    | head => exact .nums (by decide)
    | tail _ h => cases h
  nd := by simp [kvs0]
theorem look0 : look kvs0 "num" = some (numsD 0 9) := by
  unfold look kvs0
  simp
def rows0 (r : Int) : List (PyData × Str) := [(fromD (.int r) .none, "yes"), (.none, "no")]
theorem rows0_ok (r : Int) : ∀ c ∈ rows0 r, OkClause c := by
  intro c hc
  cases hc with
  | head => exact ⟨.range rfl rfl, (by decide +kernel : isNameS "yes" = true)⟩
  | tail _ h =>
    cases h with
    | head => exact ⟨.any, (by decide +kernel : isNameS "no" = true)⟩
    | tail _ h => cases h
theorem taken0 (r : Int) : ∃ o, taken (rows0 r) 5 o ∧ ((o = .int 0 ∧ lab (rows0 r) o = .str "yes") ∨ (o = .int 1 ∧ lab (rows0 r) o = .str "no")) := by
  by_cases h : r ≤ 5
  · refine ⟨.int 0, .inl ⟨0, _, rfl, fun j c' hj => absurd hj (Nat.not_lt_zero _), ?_, rfl⟩, .inl ⟨rfl, rfl⟩⟩
    show (decide (r ≤ 5) && true) = true
    rw [decide_eq_true h]
    rfl
  · refine ⟨.int 1, .inl ⟨1, _, rfl, fun j c' hj e => ?_, rfl, rfl⟩, .inr ⟨rfl, rfl⟩⟩
    have : j = 0 := by omega
    subst this
    cases e
    show (decide (r ≤ 5) && true) = false
    rw [decide_eq_false h]
    rfl
def spLaw (K : PySem.W.Frag) : Sp := fun vs H Q _ => ∃ (a : Addr) (ns : List Int), vs = [.ref a] ∧ SqL K H a (ns.map V.int) ∧ ns.length ≤ 63 ∧ ∀ H', Q (.bl true) H'
theorem sc_law : FnScope ["script", "cell", "purse", "table_of", "cut", "rows", "one"] ["script"] (defScope s_law) := ⟨rfl, rfl, rfl, by decide +kernel, rfl, by decide +kernel, by decide +kernel⟩
theorem ok_law (F : Fun K "law" "law" s_law f fd) (M : Bl mg) (cp : Cl P w K mg base 1 "_law_purse" (spPurse K)) (cd : Cl P w K mg base 2 "_law_draw" spDraw)
    (c1 : ClW P w K mg base 10 "fits" ["kinds", "kind", "pattern", "value"] (spR K Rw_fits)) (c2 : ClW P w K mg base 11 "taker" ["kinds", "kind", "clauses", "value"] (spR K Rw_taker)) (c3 : ClW P w K mg base 12 "label" ["kinds", "kind", "clauses", "value"] (spR K Rw_label)) :
    FnOk P w K mg base CX0 13 f fd ["script"] (spLaw K) := by
  refine F.ok sc_law (by rintro vs H Q E ⟨a, ns, rfl, _⟩; rfl) (fun cdv A outer s H vs Q E hr h => ?_)
  obtain ⟨a, ns, rfl, hS, hlen, q⟩ := h
  have nd := sc_law.nd
  have hu64 : (A.deeper (envOfC "law" (defScope s_law) s.heap.objs.size f cdv)).units + 64 < cLine := by have := hr.un; omega
  obtain ⟨f1, fd1, F1, m1, k1, b1, w1⟩ := c1.ex
  obtain ⟨f2, fd2, F2, m2, k2, b2, w2⟩ := c2.ex
  obtain ⟨f3, fd3, F3, m3, k3, b3, w3⟩ := c3.ex
  refine ⟨_, pss_cons (ps_for PassesOwn.never rfl (pi_range1 (by rfl) M.range (pa_cons (pe_callB (call_max2 rfl) (by rfl) M.max PyProof.Rows.boot_max (pa_cons pe_int (pa_cons (pe_callB call_lenR (by rfl) M.len PySem.boot_len (pa_cons (pe_slice sl_list (pv 0) po_none (po_some pe_int)) pa_nil)) pa_nil))) pa_nil)) (pg_name (i := 1) nd rfl (Or.inl rfl))
      (pss_cons (ps_set (i := 2) nd rfl (Or.inl rfl) (pe_cl cp hr (by decide) (by rfl) (pa_cons (pv 0) (pa_cons (pv 1) pa_nil))))
      (pss_cons (ps_par (i := 3) (j := 4) rfl nd rfl rfl (by decide) rfl rfl (pa_cons (pe_disp (pps_cons pe_str (pe_tup (pa_cons pe_str (pa_cons pe_int (pa_cons pe_int pa_nil)))) pps_nil) rfl rfl (by simp) (by show 1 ≤ 15; decide)) (pa_cons (pe_cl cd hr (by decide) (by rfl) (pa_cons (pv 2) (pa_cons pe_int pa_nil))) pa_nil)) rfl)
      (pss_cons (ps_par (i := 5) (j := 6) rfl nd rfl rfl (by decide) rfl rfl (pa_cons (pe_lst (pa_cons (pe_tup (pa_cons (pe_tup (pa_cons pe_str (pa_cons (pv 4) (pa_cons pe_non pa_nil)))) (pa_cons pe_str pa_nil))) (pa_cons (pe_tup (pa_cons pe_non (pa_cons pe_str pa_nil))) pa_nil))) (pa_cons (pe_tup (pa_cons pe_str (pa_cons pe_non (pa_cons (pv 4) pa_nil)))) pa_nil)) rfl)
      (pss_cons (ps_if (pt_cmpR (op_neD hu64) (pe_clW (ks := ["value", "pattern", "kind", "kinds"]) F1 hr (by decide) (by rfl) m1 k1 rev4 w1 vals_rev4 (pk_cons pe_int (pk_cons (pv 6) (pk_cons pe_str (pk_cons (pv 3) pk_nil))))) (pe_cl c1.cl hr (by decide) (by rfl) (pa_cons (pv 3) (pa_cons pe_str (pa_cons (pv 6) (pa_cons pe_int pa_nil))))) (nomark _)) (pss_one (ps_ret pe_bl)) pss_nil)
      (pss_cons (ps_if (pt_cmpR (op_neD hu64) (pe_clW (ks := ["value", "clauses", "kind", "kinds"]) F2 hr (by decide) (by rfl) m2 k2 rev4 w2 vals_rev4 (pk_cons pe_int (pk_cons (pv 5) (pk_cons pe_str (pk_cons (pv 3) pk_nil))))) (pe_cl c2.cl hr (by decide) (by rfl) (pa_cons (pv 3) (pa_cons pe_str (pa_cons (pv 5) (pa_cons pe_int pa_nil))))) (nomark _)) (pss_one (ps_ret pe_bl)) pss_nil)
      (pss_one (ps_if (pt_cmpR (op_neD hu64) (pe_clW (ks := ["value", "clauses", "kind", "kinds"]) F3 hr (by decide) (by rfl) m3 k3 rev4 w3 vals_rev4 (pk_cons pe_int (pk_cons (pv 5) (pk_cons pe_str (pk_cons (pv 3) pk_nil))))) (pe_cl c3.cl hr (by decide) (by rfl) (pa_cons (pv 3) (pa_cons pe_str (pa_cons (pv 5) (pa_cons pe_int pa_nil))))) (nomark _)) (pss_one (ps_ret pe_bl)) pss_nil))))))))
    (pss_one (ps_ret pe_bl)), ?_⟩
  -- range(max(1, len(script[:12])))
  refine ⟨.ref a, rfl, 12, rfl, a, ns.map V.int, rfl, hS, fun c hc => ?_⟩
  have hcl := cutV_length (ns.map V.int) none (some 12)
  rw [List.length_map] at hcl
  generalize hcv : cutV (ns.map V.int) none (some 12) = cv at hcl
  refine ⟨_, _, rfl, .inl ⟨_, .inl (.inl upd_same), rfl⟩, _, _, rfl, ?_⟩
  generalize hmx : (if ((cv.length : Nat) : Int) > 1 then ((cv.length : Nat) : Int) else 1) = mx
  have hm1 : 1 ≤ mx := by rw [← hmx]; split <;> omega
  have hm2 : mx ≤ 63 := by rw [← hmx]; split <;> omega
  refine ⟨mx, rfl, by omega, by omega, ?_⟩
  have x0 : Ex H (upd H c (.lst cv)) := Evl.Ex.new hc
  have en0 : En K H [some (.ref a), none, none, none, none, none, none] [some (.list (ns.map PyData.int)), none, none, none, none, none, none] := En.start (N := ["script", "cell", "purse", "table_of", "cut", "rows", "one"]) (.cons (.d (.lst hS (ints_dp ns))) .nil)
  refine for_range (lo := 0) (n := mx.toNat) (fun i σ H' => ∃ B', Ex B' H' ∧ En K B' σ [some (.list (ns.map PyData.int)), none, none, none, none, none, none]) ⟨H, x0, en0⟩ ?_ ?_
  · rintro i σ H' hi ⟨B', x1, en1⟩
    obtain ⟨v0, hv0, rt0⟩ := en1.get 0 _ rfl
    have rt0 := rt0.dp rfl
    cases rt0 with
    | @lst a2 us _ hs2 hus =>
      have hus := ints_of hus
      subst hus
      have hil : i < 63 := by omega
      have hlen7 : σ.length = 7 := en1.len
      have hσ1 : (σ.set 1 (some (.int (0 + (i : Int)))))[1]? = some (some (.int (0 + (i : Int)))) := List.getElem?_set_self (by omega)
      have hσ0 : (σ.set 1 (some (.int (0 + (i : Int)))))[0]? = some (some (.ref a2)) := by rw [List.getElem?_set_ne (by decide)]; exact hv0
      have en2 : En K B' (σ.set 1 (some (.int (0 + (i : Int))))) [some (.list (ns.map PyData.int)), none, none, none, none, none, none] := en1.setN 1
      generalize hσ : σ.set 1 (some (.int (0 + (i : Int)))) = σ1 at hσ0 hσ1 en2
      dsimp only [gName]
      rw [hσ]
      -- purse = _law_purse(script, cell)
      refine ⟨_, hσ0, _, hσ1, a2, ns, 0 + (i : Int), rfl, ex_l x1 hs2, by omega, by omega, fun p H1 px py e1 hp1 hl1 x0' y0' y1' => ?_⟩
      have xB1 : Ex B' H1 := x1.trans e1
      have nB : B' p = none := sub_none x1 hp1
      have en3 : En K B' (σ1.set 2 (some (.ref p))) [some (.list (ns.map PyData.int)), none, none, none, none, none, none] := en2.setN 2
      have hσ2 : (σ1.set 2 (some (.ref p)))[2]? = some (some (.ref p)) := List.getElem?_set_self (by have := en2.len; simp at this; omega)
      dsimp only [gName]
      generalize σ1.set 2 (some (.ref p)) = σ2 at en3 hσ2
      refine par_step ?_
      -- table_of, cut = {..}, _law_draw(purse, 10)
      refine de_disp1 (de_tup (da_cons de_str (da_cons de_int (da_cons de_int da_nil))) rfl (by show 3 ≤ 1000; decide)) rfl σ2 B' H1 xB1 en3 _ fun v B2 H2 g2 r2 => ?_
      have hp2 : H2 p = some (.lst (purseV px py (1000 * (0 + (i : Int))))) := g2.eh p _ hl1
      have nB2 : B2 p = none := g2.fr p _ hl1 nB
      refine ⟨_, hσ2, p, 10, px, py, 1000 * (0 + (i : Int)), rfl, by decide, by decide, hp2, x0', y0', y1', by omega, by omega, fun r a' c' H3 r0 r1 _ _ _ hk hp3 => ?_⟩
      have x3 : Ex B2 H3 := fun q' o e => by
        have hq : q' ≠ p := by
          intro z
          subst z
          rw [nB2] at e
          cases e
        exact hk q' o hq (g2.sub q' o e)
      refine ⟨v, .int r, rfl, ?_⟩
      have en4 : En K B2 ((σ2.set 3 (some v)).set 4 (some (.int r))) [some (.list (ns.map PyData.int)), none, none, some (dictU kvs0), some (.int r), none, none] := ((en3.ex g2.eb).set 3 r2).set 4 (.d (.int r))
      generalize (σ2.set 3 (some v)).set 4 (some (.int r)) = σ3 at en4
      obtain ⟨o, ho, hcase⟩ := taken0 r
      have sN : SeqAt.shaped (.str "num") = true := by decide +kernel
      have hfit : Rw_fits [dictU kvs0, .str "num", fromD .none (.int r), .int 5] (.bool (fit (fromD .none (.int r)) 5)) := ⟨kvs0, "num", _, 0, 9, 5, rfl, kinds0, look0, .range rfl rfl, by decide, by decide, rfl⟩
      have htak : Rw_taker [dictU kvs0, .str "num", .list ((rows0 r).map clauseD), .int 5] o := ⟨kvs0, "num", rows0 r, 0, 9, 5, rfl, kinds0, look0, rows0_ok r, (by show 2 ≤ 1000; decide), by decide, by decide, ho⟩
      have hlab : Rw_label [dictU kvs0, .str "num", .list ((rows0 r).map clauseD), .int 5] (lab (rows0 r) o) := ⟨kvs0, "num", rows0 r, 0, 9, 5, o, rfl, kinds0, look0, rows0_ok r, (by show 2 ≤ 1000; decide), by decide, by decide, ho, rfl⟩
      have eo : SeqAt.shaped o = true ∧ plain o = true ∧ PyData.eqv o o = true := by
        rcases hcase with ⟨rfl, _⟩ | ⟨rfl, _⟩ <;> exact ⟨rfl, rfl, rfl⟩
      have el : SeqAt.shaped (lab (rows0 r) o) = true ∧ plain (lab (rows0 r) o) = true ∧ PyData.eqv (lab (rows0 r) o) (lab (rows0 r) o) = true := by
        rcases hcase with ⟨_, e⟩ | ⟨_, e⟩ <;> rw [e] <;> exact ⟨by decide +kernel, rfl, by decide +kernel⟩
      refine ds_use (K := K) (G := [some (.list (ns.map PyData.int)), none, none, some (dictU kvs0), some (.int r), none, none]) (G' := [some (.list (ns.map PyData.int)), none, none, some (dictU kvs0), some (.int r), some (.list ((rows0 r).map clauseD)), some (fromD .none (.int r))]) ?_ x3 en4 fun σ5 B5 H5 g5 en5 => ⟨B5, g5.sub, en_weak en5 rfl fun j d e => ?_⟩
      · refine ds_seq (ds_par (da_cons (de_lst (da_cons (de_tup (da_cons (de_tup (da_cons de_str (da_cons (de_var rfl) (da_cons de_non da_nil))) rfl (by show 3 ≤ 1000; decide)) (da_cons de_str da_nil)) rfl (by show 2 ≤ 1000; decide)) (da_cons (de_tup (da_cons de_non (da_cons de_str da_nil)) rfl (by show 2 ≤ 1000; decide)) da_nil)) rfl (by show 2 ≤ 1000; decide)) (da_cons (de_tup (da_cons de_str (da_cons de_non (da_cons (de_var rfl) da_nil))) rfl (by show 3 ≤ 1000; decide)) da_nil))) ?_
        show DS K _ [some (.list (ns.map PyData.int)), none, none, some (dictU kvs0), some (.int r), some (.list ((rows0 r).map clauseD)), some (fromD .none (.int r))] _
        refine ds_seq (ds_if (b := false) (dt_is (dt_test (de_op (de_callW (da_cons de_int (da_cons (de_var rfl) (da_cons de_str (da_cons (de_var rfl) da_nil)))) hfit) (de_call' (da_cons (de_var rfl) (da_cons de_str (da_cons (de_var rfl) (da_cons de_int da_nil)))) hfit) (rd_ne rfl rfl rfl rfl))) (by show (!((fit _ 5) == (fit _ 5))) = false; rw [beq_self_eq_true]; rfl)) (fun z => nomatch z) fun _ => ds_next) ?_
        refine ds_seq (ds_if (b := false) (dt_is (dt_test (de_op (de_callW (da_cons de_int (da_cons (de_var rfl) (da_cons de_str (da_cons (de_var rfl) da_nil)))) htak) (de_call' (da_cons (de_var rfl) (da_cons de_str (da_cons (de_var rfl) (da_cons de_int da_nil)))) htak) (rd_ne eo.1 eo.1 eo.2.1 eo.2.1))) (by rw [eo.2.2]; rfl)) (fun z => nomatch z) fun _ => ds_next) ?_
        exact ds_if (b := false) (dt_is (dt_test (de_op (de_callW (da_cons de_int (da_cons (de_var rfl) (da_cons de_str (da_cons (de_var rfl) da_nil)))) hlab) (de_call' (da_cons (de_var rfl) (da_cons de_str (da_cons (de_var rfl) (da_cons de_int da_nil)))) hlab) (rd_ne el.1 el.1 el.2.1 el.2.1))) (by rw [el.2.2]; rfl)) (fun z => nomatch z) fun _ => ds_next
      · match j with
        | 0 => exact e
        | 1 => cases e
        | 2 => cases e
        | 3 => cases e
        | 4 => cases e
        | 5 => cases e
        | 6 => cases e
        | j + 7 => simp at e
  · rintro σ H' _
    exact q H'
end
end FP
namespace FP
open PySem PySem.Spec PyProof.Rows L2 FC
open Evl (Ex)
/-! ### the end -/
/-- where a def stands, as the top has left it -/
structure At (K : PySem.W.Frag) (x : Str) (st : Stmt) (f : Addr) : Prop where
  ex : ∃ (oc : Value) (od an : Option Addr) (sl : Array (Option Value)) (kV dc pm cd ct : Value), PySem.W.nsIn K mainGlobals x = some (some (.ref f)) ∧ K.lookup f = some ⟨oc, od, .func (PySem.W.fnOf x x (defArgs st) (defBody st) (defScope st) .none kV dc pm an cd ct), sl⟩ ∧ PySem.W.codeIn K cd x = true ∧ PySem.W.keepIn K (.ref f) = true
theorem At.mk' {K : PySem.W.Frag} {x : Str} {st : Stmt} {f : Addr} {oc : Value} {od an : Option Addr} {sl : Array (Option Value)} {kV dc pm cd ct : Value} (a : PySem.W.nsIn K mainGlobals x = some (some (.ref f))) (l : K.lookup f = some ⟨oc, od, .func (PySem.W.fnOf x x (defArgs st) (defBody st) (defScope st) .none kV dc pm an cd ct), sl⟩) (c : PySem.W.codeIn K cd x = true) (k : PySem.W.keepIn K (.ref f) = true) : At K x st f :=
  ⟨oc, od, an, sl, kV, dc, pm, cd, ct, a, l, c, k⟩
theorem At.fun {K : PySem.W.Frag} {x : Str} {st : Stmt} {f : Addr} (a : At K x st f) : ∃ fd, Fun K x x st f fd := by
  obtain ⟨oc, od, an, sl, kV, dc, pm, cd, ct, _, l, c, k⟩ := a.ex
  exact ⟨_, fun_mk l c k⟩
theorem At.mg {K : PySem.W.Frag} {x : Str} {st : Stmt} {f : Addr} (a : At K x st f) {h : Heap} {mg : Str → Option Value} (X : K.In h) (G : h.Ns mainGlobals mg) : mg x = some (.ref f) := by
  obtain ⟨oc, od, an, sl, kV, dc, pm, cd, ct, e, _⟩ := a.ex
  exact PySem.W.mg_of X G e
structure Top (K : PySem.W.Frag) : Prop where
  ais_whole : ∃ f, At K "is_whole" s_is_whole f
  ais_name : ∃ f, At K "is_name" s_is_name f
  ais_sound : ∃ f, At K "is_sound" s_is_sound f
  ais_kind : ∃ f, At K "is_kind" s_is_kind f
  ais_kinds : ∃ f, At K "is_kinds" s_is_kinds f
  ais_form : ∃ f, At K "is_form" s_is_form f
  ais_bounds : ∃ f, At K "is_bounds" s_is_bounds f
  aall_have_values : ∃ f, At K "all_have_values" s_all_have_values f
  acan_be_built : ∃ f, At K "can_be_built" s_can_be_built f
  ais_pattern : ∃ f, At K "is_pattern" s_is_pattern f
  apatterns_within : ∃ f, At K "patterns_within" s_patterns_within f
  ais_range_pattern : ∃ f, At K "is_range_pattern" s_is_range_pattern f
  ais_bound : ∃ f, At K "is_bound" s_is_bound f
  apattern_fits : ∃ f, At K "pattern_fits" s_pattern_fits f
  ais_clause : ∃ f, At K "is_clause" s_is_clause f
  ais_clauses : ∃ f, At K "is_clauses" s_is_clauses f
  afirst_fitting : ∃ f, At K "first_fitting" s_first_fitting f
  avalues_within : ∃ f, At K "values_within" s_values_within f
  acheck_kind : ∃ f, At K "check_kind" s_check_kind f
  acheck_value : ∃ f, At K "check_value" s_check_value f
  acheck_pattern : ∃ f, At K "check_pattern" s_check_pattern f
  acheck_clauses : ∃ f, At K "check_clauses" s_check_clauses f
  acheck_lists : ∃ f, At K "check_lists" s_check_lists f
  afits : ∃ f, At K "fits" s_fits f
  ataker : ∃ f, At K "taker" s_taker f
  alabel : ∃ f, At K "label" s_label f
  a_law_purse : ∃ f, At K "_law_purse" s_purse f
  a_law_mixed : ∃ f, At K "_law_mixed" s_mixed f
  a_law_draw : ∃ f, At K "_law_draw" s_draw f
  alaw : ∃ f, At K "law" s_law f
  z_isinstance : PySem.W.nsIn K mainGlobals "isinstance" = some none
  z_len : PySem.W.nsIn K mainGlobals "len" = some none
  z_all : PySem.W.nsIn K mainGlobals "all" = some none
  z_int : PySem.W.nsIn K mainGlobals "int" = some none
  z_bool : PySem.W.nsIn K mainGlobals "bool" = some none
  z_str : PySem.W.nsIn K mainGlobals "str" = some none
  z_tuple : PySem.W.nsIn K mainGlobals "tuple" = some none
  z_list : PySem.W.nsIn K mainGlobals "list" = some none
  z_dict : PySem.W.nsIn K mainGlobals "dict" = some none
  z_enumerate : PySem.W.nsIn K mainGlobals "enumerate" = some none
  z_range : PySem.W.nsIn K mainGlobals "range" = some none
  z_max : PySem.W.nsIn K mainGlobals "max" = some none
  z_sum : PySem.W.nsIn K mainGlobals "sum" = some none
section
variable {P : Program} {w : World} {K : PySem.W.Frag} {mg : Str → Option Value} {base : Heap}
theorem cl1 {x : Str} {st : Stmt} {f : Addr} {fd : FuncData} {ps : List Str} {k : Nat} {sp : Sp} (F : Fun K x x st f fd) (G : FnOk P w K mg base CX0 k f fd ps sp) (hm : mg x = some (.ref f)) (hb : ∀ (kV doc pm : Value) (an : Option Addr) (cdv ct : Value) (us : List Value), us.length = ps.length → bindArgs (PySem.W.fnOf x x (defArgs st) (defBody st) (defScope st) .none kV doc pm an cdv ct) ⟨us, []⟩ = pure (ps.zip us)) : Cl P w K mg base k x sp := ⟨f, fd, ps, G, hm, F.kp, F.binds hb⟩
theorem clW {x : Str} {st : Stmt} {f : Addr} {fd : FuncData} {ps : List Str} {k : Nat} {sp : Sp} (F : Fun K x x st f fd) (G : FnOk P w K mg base CX0 k f fd ps sp) (hm : mg x = some (.ref f)) (hb : ∀ (kV doc pm : Value) (an : Option Addr) (cdv ct : Value) (us : List Value), us.length = ps.length → bindArgs (PySem.W.fnOf x x (defArgs st) (defBody st) (defScope st) .none kV doc pm an cdv ct) ⟨us, []⟩ = pure (ps.zip us))
    (hw : ∀ (kV doc pm : Value) (an : Option Addr) (cdv ct : Value) (us : List Value), us.length = ps.length → bindArgs (PySem.W.fnOf x x (defArgs st) (defBody st) (defScope st) .none kV doc pm an cdv ct) ⟨[], ps.reverse.zip us⟩ = pure (ps.zip (rev4 us))) : ClW P w K mg base k x ps sp := by
  obtain ⟨oc, od, kV, doc, pm, an, cdv, ct, osl, rfl, lk, hcd⟩ := F.ex
  exact ⟨f, _, G, hm, F.kp, F.binds hb, fun s ws hl => .of_eq (hw kV doc pm an cdv ct ws hl)⟩
theorem all_ok (T : Top K) {h : Heap} (X : K.In h) (G : h.Ns mainGlobals mg) {fa : Addr} (hfa : mg "law" = some (.ref fa)) :
    ∃ fd : FuncData, (∀ (s : Shared) (v : Value), BindsTo s fd ⟨[v], []⟩ [("script", v)]) ∧ ∀ base : Heap, K.In base → base.Ns mainGlobals mg → FnOk P w K mg base CX0 13 fa fd ["script"] (spLaw K) := by
  obtain ⟨f_is_whole, a_is_whole⟩ := T.ais_whole
  obtain ⟨d_is_whole, F_is_whole⟩ := a_is_whole.fun
  have m_is_whole := a_is_whole.mg X G
  obtain ⟨f_is_name, a_is_name⟩ := T.ais_name
  obtain ⟨d_is_name, F_is_name⟩ := a_is_name.fun
  have m_is_name := a_is_name.mg X G
  obtain ⟨f_is_sound, a_is_sound⟩ := T.ais_sound
  obtain ⟨d_is_sound, F_is_sound⟩ := a_is_sound.fun
  have m_is_sound := a_is_sound.mg X G
  obtain ⟨f_is_kind, a_is_kind⟩ := T.ais_kind
  obtain ⟨d_is_kind, F_is_kind⟩ := a_is_kind.fun
  have m_is_kind := a_is_kind.mg X G
  obtain ⟨f_is_kinds, a_is_kinds⟩ := T.ais_kinds
  obtain ⟨d_is_kinds, F_is_kinds⟩ := a_is_kinds.fun
  have m_is_kinds := a_is_kinds.mg X G
  obtain ⟨f_is_form, a_is_form⟩ := T.ais_form
  obtain ⟨d_is_form, F_is_form⟩ := a_is_form.fun
  have m_is_form := a_is_form.mg X G
  obtain ⟨f_is_bounds, a_is_bounds⟩ := T.ais_bounds
  obtain ⟨d_is_bounds, F_is_bounds⟩ := a_is_bounds.fun
  have m_is_bounds := a_is_bounds.mg X G
  obtain ⟨f_all_have_values, a_all_have_values⟩ := T.aall_have_values
  obtain ⟨d_all_have_values, F_all_have_values⟩ := a_all_have_values.fun
  have m_all_have_values := a_all_have_values.mg X G
  obtain ⟨f_can_be_built, a_can_be_built⟩ := T.acan_be_built
  obtain ⟨d_can_be_built, F_can_be_built⟩ := a_can_be_built.fun
  have m_can_be_built := a_can_be_built.mg X G
  obtain ⟨f_is_pattern, a_is_pattern⟩ := T.ais_pattern
  obtain ⟨d_is_pattern, F_is_pattern⟩ := a_is_pattern.fun
  have m_is_pattern := a_is_pattern.mg X G
  obtain ⟨f_patterns_within, a_patterns_within⟩ := T.apatterns_within
  obtain ⟨d_patterns_within, F_patterns_within⟩ := a_patterns_within.fun
  have m_patterns_within := a_patterns_within.mg X G
  obtain ⟨f_is_range_pattern, a_is_range_pattern⟩ := T.ais_range_pattern
  obtain ⟨d_is_range_pattern, F_is_range_pattern⟩ := a_is_range_pattern.fun
  have m_is_range_pattern := a_is_range_pattern.mg X G
  obtain ⟨f_is_bound, a_is_bound⟩ := T.ais_bound
  obtain ⟨d_is_bound, F_is_bound⟩ := a_is_bound.fun
  have m_is_bound := a_is_bound.mg X G
  obtain ⟨f_pattern_fits, a_pattern_fits⟩ := T.apattern_fits
  obtain ⟨d_pattern_fits, F_pattern_fits⟩ := a_pattern_fits.fun
  have m_pattern_fits := a_pattern_fits.mg X G
  obtain ⟨f_is_clause, a_is_clause⟩ := T.ais_clause
  obtain ⟨d_is_clause, F_is_clause⟩ := a_is_clause.fun
  have m_is_clause := a_is_clause.mg X G
  obtain ⟨f_is_clauses, a_is_clauses⟩ := T.ais_clauses
  obtain ⟨d_is_clauses, F_is_clauses⟩ := a_is_clauses.fun
  have m_is_clauses := a_is_clauses.mg X G
  obtain ⟨f_first_fitting, a_first_fitting⟩ := T.afirst_fitting
  obtain ⟨d_first_fitting, F_first_fitting⟩ := a_first_fitting.fun
  have m_first_fitting := a_first_fitting.mg X G
  obtain ⟨f_values_within, a_values_within⟩ := T.avalues_within
  obtain ⟨d_values_within, F_values_within⟩ := a_values_within.fun
  have m_values_within := a_values_within.mg X G
  obtain ⟨f_check_kind, a_check_kind⟩ := T.acheck_kind
  obtain ⟨d_check_kind, F_check_kind⟩ := a_check_kind.fun
  have m_check_kind := a_check_kind.mg X G
  obtain ⟨f_check_value, a_check_value⟩ := T.acheck_value
  obtain ⟨d_check_value, F_check_value⟩ := a_check_value.fun
  have m_check_value := a_check_value.mg X G
  obtain ⟨f_check_pattern, a_check_pattern⟩ := T.acheck_pattern
  obtain ⟨d_check_pattern, F_check_pattern⟩ := a_check_pattern.fun
  have m_check_pattern := a_check_pattern.mg X G
  obtain ⟨f_check_clauses, a_check_clauses⟩ := T.acheck_clauses
  obtain ⟨d_check_clauses, F_check_clauses⟩ := a_check_clauses.fun
  have m_check_clauses := a_check_clauses.mg X G
  obtain ⟨f_check_lists, a_check_lists⟩ := T.acheck_lists
  obtain ⟨d_check_lists, F_check_lists⟩ := a_check_lists.fun
  have m_check_lists := a_check_lists.mg X G
  obtain ⟨f_fits, a_fits⟩ := T.afits
  obtain ⟨d_fits, F_fits⟩ := a_fits.fun
  have m_fits := a_fits.mg X G
  obtain ⟨f_taker, a_taker⟩ := T.ataker
  obtain ⟨d_taker, F_taker⟩ := a_taker.fun
  have m_taker := a_taker.mg X G
  obtain ⟨f_label, a_label⟩ := T.alabel
  obtain ⟨d_label, F_label⟩ := a_label.fun
  have m_label := a_label.mg X G
  obtain ⟨f__law_purse, a__law_purse⟩ := T.a_law_purse
  obtain ⟨d__law_purse, F__law_purse⟩ := a__law_purse.fun
  have m__law_purse := a__law_purse.mg X G
  obtain ⟨f__law_mixed, a__law_mixed⟩ := T.a_law_mixed
  obtain ⟨d__law_mixed, F__law_mixed⟩ := a__law_mixed.fun
  have m__law_mixed := a__law_mixed.mg X G
  obtain ⟨f__law_draw, a__law_draw⟩ := T.a_law_draw
  obtain ⟨d__law_draw, F__law_draw⟩ := a__law_draw.fun
  have m__law_draw := a__law_draw.mg X G
  obtain ⟨f_law, a_law⟩ := T.alaw
  obtain ⟨d_law, F_law⟩ := a_law.fun
  have m_law := a_law.mg X G
  have e := hfa.symm.trans m_law
  cases e
  have M : Bl mg := ⟨PySem.W.mg_none_of X G T.z_isinstance, PySem.W.mg_none_of X G T.z_len, PySem.W.mg_none_of X G T.z_all, PySem.W.mg_none_of X G T.z_int, PySem.W.mg_none_of X G T.z_bool, PySem.W.mg_none_of X G T.z_str, PySem.W.mg_none_of X G T.z_tuple, PySem.W.mg_none_of X G T.z_list, PySem.W.mg_none_of X G T.z_dict, PySem.W.mg_none_of X G T.z_enumerate, PySem.W.mg_none_of X G T.z_range, PySem.W.mg_none_of X G T.z_max, PySem.W.mg_none_of X G T.z_sum⟩
  refine ⟨d_law, ?_, fun base _ _ => ?_⟩
  · obtain ⟨oc, od, kV, doc, pm, an, cdv, ct, osl, rfl, lk, hcd⟩ := F_law.ex
    exact fun s v => .of_eq rfl
  have c_is_whole := cl1 (P := P) (w := w) (base := base) F_is_whole (ok_is_whole F_is_whole M) m_is_whole (fun _ _ _ _ _ _ us hl => match us, hl with | [_], _ => rfl)
  have c_is_name := cl1 (P := P) (w := w) (base := base) F_is_name (ok_is_name F_is_name M) m_is_name (fun _ _ _ _ _ _ us hl => match us, hl with | [_], _ => rfl)
  have c_is_kind := cl1 (P := P) (w := w) (base := base) F_is_kind (ok_is_kind F_is_kind M) m_is_kind (fun _ _ _ _ _ _ us hl => match us, hl with | [_, _], _ => rfl)
  have c_is_bounds := cl1 (P := P) (w := w) (base := base) F_is_bounds (ok_is_bounds F_is_bounds M c_is_whole) m_is_bounds (fun _ _ _ _ _ _ us hl => match us, hl with | [_, _], _ => rfl)
  have c_is_form := cl1 (P := P) (w := w) (base := base) F_is_form (ok_is_form F_is_form M c_is_bounds c_is_kind) m_is_form (fun _ _ _ _ _ _ us hl => match us, hl with | [_, _], _ => rfl)
  have c_can_be_built := cl1 (P := P) (w := w) (base := base) F_can_be_built (ok_can_be_built F_can_be_built M) m_can_be_built (fun _ _ _ _ _ _ us hl => match us, hl with | [_, _], _ => rfl)
  have c_all_have_values := cl1 (P := P) (w := w) (base := base) F_all_have_values (ok_all_have_values F_all_have_values M c_can_be_built) m_all_have_values (fun _ _ _ _ _ _ us hl => match us, hl with | [_], _ => rfl)
  have c_is_kinds := cl1 (P := P) (w := w) (base := base) F_is_kinds (ok_is_kinds F_is_kinds M c_is_name c_is_form c_all_have_values) m_is_kinds (fun _ _ _ _ _ _ us hl => match us, hl with | [_], _ => rfl)
  have c_is_sound := cl1 (P := P) (w := w) (base := base) F_is_sound (ok_is_sound (kk := 4) F_is_sound) m_is_sound (fun _ _ _ _ _ _ us hl => match us, hl with | [_, _, _, _], _ => rfl)
  have c_is_bound := cl1 (P := P) (w := w) (base := base) F_is_bound (ok_is_bound F_is_bound c_is_whole) m_is_bound (fun _ _ _ _ _ _ us hl => match us, hl with | [_], _ => rfl)
  have c_is_range_pattern := cl1 (P := P) (w := w) (base := base) F_is_range_pattern (ok_is_range_pattern F_is_range_pattern M c_is_bound) m_is_range_pattern (fun _ _ _ _ _ _ us hl => match us, hl with | [_], _ => rfl)
  have c_patterns_within := cl1 (P := P) (w := w) (base := base) F_patterns_within (ok_patterns_within F_patterns_within M c_is_range_pattern) m_patterns_within (fun _ _ _ _ _ _ us hl => match us, hl with | [_, _, _], _ => rfl)
  have c_is_pattern := cl1 (P := P) (w := w) (base := base) F_is_pattern (ok_is_pattern F_is_pattern c_is_sound c_patterns_within) m_is_pattern (fun _ _ _ _ _ _ us hl => match us, hl with | [_, _, _], _ => rfl)
  have c_pattern_fits := cl1 (P := P) (w := w) (base := base) F_pattern_fits (ok_pattern_fits F_pattern_fits) m_pattern_fits (fun _ _ _ _ _ _ us hl => match us, hl with | [_, _], _ => rfl)
  have c_is_clause := cl1 (P := P) (w := w) (base := base) F_is_clause (ok_is_clause F_is_clause M c_is_pattern c_is_name) m_is_clause (fun _ _ _ _ _ _ us hl => match us, hl with | [_, _, _], _ => rfl)
  have c_is_clauses := cl1 (P := P) (w := w) (base := base) F_is_clauses (ok_is_clauses F_is_clauses M c_is_clause) m_is_clauses (fun _ _ _ _ _ _ us hl => match us, hl with | [_, _, _], _ => rfl)
  have c_first_fitting := cl1 (P := P) (w := w) (base := base) F_first_fitting (ok_first_fitting F_first_fitting M c_pattern_fits) m_first_fitting (fun _ _ _ _ _ _ us hl => match us, hl with | [_, _], _ => rfl)
  have c_values_within := cl1 (P := P) (w := w) (base := base) F_values_within ((ok_values_within F_values_within M c_is_whole).mono (show 2 ≤ 4 by decide)) m_values_within (fun _ _ _ _ _ _ us hl => match us, hl with | [_, _, _], _ => rfl)
  have c_check_kind := cl1 (P := P) (w := w) (base := base) F_check_kind (ok_check_kind F_check_kind c_is_kinds c_is_kind) m_check_kind (fun _ _ _ _ _ _ us hl => match us, hl with | [_, _], _ => rfl)
  have c_check_value := cl1 (P := P) (w := w) (base := base) F_check_value (ok_check_value F_check_value c_is_sound c_values_within) m_check_value (fun _ _ _ _ _ _ us hl => match us, hl with | [_, _, _], _ => rfl)
  have c_check_pattern := cl1 (P := P) (w := w) (base := base) F_check_pattern (ok_check_pattern F_check_pattern c_is_pattern) m_check_pattern (fun _ _ _ _ _ _ us hl => match us, hl with | [_, _, _], _ => rfl)
  have c_check_clauses := cl1 (P := P) (w := w) (base := base) F_check_clauses (ok_check_clauses F_check_clauses c_is_clauses) m_check_clauses (fun _ _ _ _ _ _ us hl => match us, hl with | [_, _, _], _ => rfl)
  have c_check_lists := cl1 (P := P) (w := w) (base := base) F_check_lists (ok_check_lists F_check_lists c_check_kind c_check_clauses) m_check_lists (fun _ _ _ _ _ _ us hl => match us, hl with | [_, _, _], _ => rfl)
  have c_fits := clW (P := P) (w := w) (base := base) F_fits (ok_fits F_fits c_check_kind c_check_pattern c_check_value c_pattern_fits) m_fits (fun _ _ _ _ _ _ us hl => match us, hl with | [_, _, _, _], _ => rfl) (fun _ _ _ _ _ _ us hl => match us, hl with | [_, _, _, _], _ => rfl)
  have c_taker := clW (P := P) (w := w) (base := base) F_taker (ok_taker F_taker c_check_lists c_check_value c_first_fitting) m_taker (fun _ _ _ _ _ _ us hl => match us, hl with | [_, _, _, _], _ => rfl) (fun _ _ _ _ _ _ us hl => match us, hl with | [_, _, _, _], _ => rfl)
  have c_label := clW (P := P) (w := w) (base := base) F_label (ok_label F_label c_taker.cl) m_label (fun _ _ _ _ _ _ us hl => match us, hl with | [_, _, _, _], _ => rfl) (fun _ _ _ _ _ _ us hl => match us, hl with | [_, _, _, _], _ => rfl)
  have c__law_purse := cl1 (P := P) (w := w) (base := base) F__law_purse (ok_purse F__law_purse M) m__law_purse (fun _ _ _ _ _ _ us hl => match us, hl with | [_, _], _ => rfl)
  have c__law_mixed := cl1 (P := P) (w := w) (base := base) F__law_mixed (ok_mixed F__law_mixed) m__law_mixed (fun _ _ _ _ _ _ us hl => match us, hl with | [_, _], _ => rfl)
  have c__law_draw := cl1 (P := P) (w := w) (base := base) F__law_draw (ok_draw F__law_draw M c__law_mixed) m__law_draw (fun _ _ _ _ _ _ us hl => match us, hl with | [_, _], _ => rfl)
  exact ok_law F_law M c__law_purse c__law_draw c_fits c_taker c_label
end
end FP
open PySem PySem.W PyProof.Rows
set_option maxRecDepth 100000 in
set_option maxHeartbeats 0 in
theorem PySem.Challenge.cw_firstclause_k22_clauses_by_name_holds : PySem.Challenge.rw_firstclause_k22_clauses_by_name.Holds := by
  w_on; o_law; k_head; (case hw => w_witness2)
  k_fill
  refine L2.walk_of (l := PySem.Challenge.rw_firstclause_k22_clauses_by_name) (n := 63) (k := 13) (x := "script") (CX := fun _ => L2.CX0) (sp := fun w => FP.spLaw _) rfl (by decide) rfl ⟨rfl, by decide, by decide⟩ (fun w h Y => PySem.W.kIn_of Y) ?F (fun _ _ a ns hl _ hS => ⟨a, ns, rfl, hS, hl, fun _ => rfl⟩) (fun _ _ _ _ _ h => h)
  case F =>
    intro w mg fa h KX G hmg
    refine FP.all_ok ?T KX G hmg
    case T =>
      refine' ⟨⟨_, FP.At.mk' ?a0 ?l0 ?c0 ?k0⟩, ⟨_, FP.At.mk' ?a1 ?l1 ?c1 ?k1⟩, ⟨_, FP.At.mk' ?a2 ?l2 ?c2 ?k2⟩, ⟨_, FP.At.mk' ?a3 ?l3 ?c3 ?k3⟩, ⟨_, FP.At.mk' ?a4 ?l4 ?c4 ?k4⟩, ⟨_, FP.At.mk' ?a5 ?l5 ?c5 ?k5⟩, ⟨_, FP.At.mk' ?a6 ?l6 ?c6 ?k6⟩, ⟨_, FP.At.mk' ?a7 ?l7 ?c7 ?k7⟩, ⟨_, FP.At.mk' ?a8 ?l8 ?c8 ?k8⟩, ⟨_, FP.At.mk' ?a9 ?l9 ?c9 ?k9⟩, ⟨_, FP.At.mk' ?a10 ?l10 ?c10 ?k10⟩, ⟨_, FP.At.mk' ?a11 ?l11 ?c11 ?k11⟩, ⟨_, FP.At.mk' ?a12 ?l12 ?c12 ?k12⟩, ⟨_, FP.At.mk' ?a13 ?l13 ?c13 ?k13⟩, ⟨_, FP.At.mk' ?a14 ?l14 ?c14 ?k14⟩, ⟨_, FP.At.mk' ?a15 ?l15 ?c15 ?k15⟩, ⟨_, FP.At.mk' ?a16 ?l16 ?c16 ?k16⟩, ⟨_, FP.At.mk' ?a17 ?l17 ?c17 ?k17⟩, ⟨_, FP.At.mk' ?a18 ?l18 ?c18 ?k18⟩, ⟨_, FP.At.mk' ?a19 ?l19 ?c19 ?k19⟩, ⟨_, FP.At.mk' ?a20 ?l20 ?c20 ?k20⟩, ⟨_, FP.At.mk' ?a21 ?l21 ?c21 ?k21⟩, ⟨_, FP.At.mk' ?a22 ?l22 ?c22 ?k22⟩, ⟨_, FP.At.mk' ?a23 ?l23 ?c23 ?k23⟩, ⟨_, FP.At.mk' ?a24 ?l24 ?c24 ?k24⟩, ⟨_, FP.At.mk' ?a25 ?l25 ?c25 ?k25⟩, ⟨_, FP.At.mk' ?a26 ?l26 ?c26 ?k26⟩, ⟨_, FP.At.mk' ?a27 ?l27 ?c27 ?k27⟩, ⟨_, FP.At.mk' ?a28 ?l28 ?c28 ?k28⟩, ⟨_, FP.At.mk' ?a29 ?l29 ?c29 ?k29⟩, ?z0, ?z1, ?z2, ?z3, ?z4, ?z5, ?z6, ?z7, ?z8, ?z9, ?z10, ?z11, ?z12⟩
      (case a0 => k_is); (case l0 => k_is); (case c0 => k_is); (case k0 => k_is)
      (case a1 => k_is); (case l1 => k_is); (case c1 => k_is); (case k1 => k_is)
      (case a2 => k_is); (case l2 => k_is); (case c2 => k_is); (case k2 => k_is)
      (case a3 => k_is); (case l3 => k_is); (case c3 => k_is); (case k3 => k_is)
      (case a4 => k_is); (case l4 => k_is); (case c4 => k_is); (case k4 => k_is)
      (case a5 => k_is); (case l5 => k_is); (case c5 => k_is); (case k5 => k_is)
      (case a6 => k_is); (case l6 => k_is); (case c6 => k_is); (case k6 => k_is)
      (case a7 => k_is); (case l7 => k_is); (case c7 => k_is); (case k7 => k_is)
      (case a8 => k_is); (case l8 => k_is); (case c8 => k_is); (case k8 => k_is)
      (case a9 => k_is); (case l9 => k_is); (case c9 => k_is); (case k9 => k_is)
      (case a10 => k_is); (case l10 => k_is); (case c10 => k_is); (case k10 => k_is)
      (case a11 => k_is); (case l11 => k_is); (case c11 => k_is); (case k11 => k_is)
      (case a12 => k_is); (case l12 => k_is); (case c12 => k_is); (case k12 => k_is)
      (case a13 => k_is); (case l13 => k_is); (case c13 => k_is); (case k13 => k_is)
      (case a14 => k_is); (case l14 => k_is); (case c14 => k_is); (case k14 => k_is)
      (case a15 => k_is); (case l15 => k_is); (case c15 => k_is); (case k15 => k_is)
      (case a16 => k_is); (case l16 => k_is); (case c16 => k_is); (case k16 => k_is)
      (case a17 => k_is); (case l17 => k_is); (case c17 => k_is); (case k17 => k_is)
      (case a18 => k_is); (case l18 => k_is); (case c18 => k_is); (case k18 => k_is)
      (case a19 => k_is); (case l19 => k_is); (case c19 => k_is); (case k19 => k_is)
      (case a20 => k_is); (case l20 => k_is); (case c20 => k_is); (case k20 => k_is)
      (case a21 => k_is); (case l21 => k_is); (case c21 => k_is); (case k21 => k_is)
      (case a22 => k_is); (case l22 => k_is); (case c22 => k_is); (case k22 => k_is)
      (case a23 => k_is); (case l23 => k_is); (case c23 => k_is); (case k23 => k_is)
      (case a24 => k_is); (case l24 => k_is); (case c24 => k_is); (case k24 => k_is)
      (case a25 => k_is); (case l25 => k_is); (case c25 => k_is); (case k25 => k_is)
      (case a26 => k_is); (case l26 => k_is); (case c26 => k_is); (case k26 => k_is)
      (case a27 => k_is); (case l27 => k_is); (case c27 => k_is); (case k27 => k_is)
      (case a28 => k_is); (case l28 => k_is); (case c28 => k_is); (case k28 => k_is)
      (case a29 => k_is); (case l29 => k_is); (case c29 => k_is); (case k29 => k_is)
      (case z0 => k_is)
      (case z1 => k_is)
      (case z2 => k_is)
      (case z3 => k_is)
      (case z4 => k_is)
      (case z5 => k_is)
      (case z6 => k_is)
      (case z7 => k_is)
      (case z8 => k_is)
      (case z9 => k_is)
      (case z10 => k_is)
      (case z11 => k_is)
      (case z12 => k_is)
