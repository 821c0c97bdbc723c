import PyProof.Rows.All
import HandS.Strs
import HandS.Zip
import KE.GoesMore
import KE.GoesEnum
import KE.KDictZip
import KE.KDictList
import PyProof.ReprRoads
import PyProof.ReprLen
import HandS.Ends
import HandS.More
import HandS.Conv
import Wide.All
import OpenK.AllK
import Wide.FinOn
import HandS.ForMost
import HandS.Walk
import HandS.IsInst
import HandS.CallLocal
import HandS.Defaults
import HandS.Evl
import HandS.WideBits
import HandS.DictComp
import HandS.Style
import PySem.Challenge.RW_firstclause_k21_whole_clauses_that_fit
set_option Elab.async false
set_option linter.all false
set_option maxRecDepth 100000
set_option maxHeartbeats 4000000
/-! Data logic over the hand layer: slots hold data (PyData), a base heap B within the heap H. -/
namespace FC
open PySem PySem.Spec PyProof.Rows L2
open Evl (Ex)

abbrev Dat := PyData
/-! ### data in a heap -/
theorem ex_rd {H H' : Hp} {a : Addr} {u : HO} (e : Ex H H') (h : Rd H a u) : Rd H' a u := by
  rcases h with h | ⟨o, h⟩
  · exact .inl (e a _ h)
  · exact .inr ⟨o, e a _ h⟩
theorem ex_l {K : PySem.W.Frag} {H H' : Hp} {a : Addr} {xs : List V} (e : Ex H H') (h : SqL K H a xs) : SqL K H' a xs := by
  rcases h with h | h
  · exact .inl (ex_rd e h)
  · exact .inr h
theorem ex_t {K : PySem.W.Frag} {H H' : Hp} {a : Addr} {xs : List V} (e : Ex H H') (h : SqT K H a xs) : SqT K H' a xs := by
  rcases h with h | h
  · exact .inl (ex_rd e h)
  · exact .inr h
mutual
theorem dp_ex {K : PySem.W.Frag} {H H' : Hp} (e : Ex H H') : ∀ (d : PyData) (v : V), Dp K H v d → Dp K H' v d
  | .none, _, h => by cases h; exact .non
  | .bool b, _, h => by cases h; exact .bl b
  | .int i, _, h => by cases h; exact .int i
  | .str s, _, h => by cases h; exact .str s
  | .list ds, _, h => by
    cases h with
    | lst hs ha => exact .lst (ex_l e hs) (dps_ex e ds _ ha)
  | .tuple ds, _, h => by
    cases h with
    | tup hs ha => exact .tup (ex_t e hs) (dps_ex e ds _ ha)
  | .dict _, _, h => by cases h
theorem dps_ex {K : PySem.W.Frag} {H H' : Hp} (e : Ex H H') : ∀ (ds : List PyData) (vs : List V), DpAll K H vs ds → DpAll K H' vs ds
  | [], _, h => by cases h; exact .nil
  | d :: ds, _, h => by
    cases h with
    | cons h1 h2 => exact .cons (dp_ex e d _ h1) (dps_ex e ds _ h2)
end
theorem dps_len {K : PySem.W.Frag} {H : Hp} : ∀ {ds : List PyData} {vs : List V}, DpAll K H vs ds → vs.length = ds.length
  | [], _, h => by cases h; rfl
  | _ :: ds, _, h => by
    cases h with
    | cons _ h2 => simp [dps_len h2]
theorem dps_get {K : PySem.W.Frag} {H : Hp} : ∀ {ds : List PyData} {vs : List V} {i : Nat} {d : PyData}, DpAll K H vs ds → ds[i]? = some d → ∃ v, vs[i]? = some v ∧ Dp K H v d
  | [], _, _, _, _, e => by simp at e
  | _ :: _, _, 0, _, h, e => by
    cases h with
    | cons h1 _ =>
      simp at e
      subst e
      exact ⟨_, rfl, h1⟩
  | _ :: ds, _, i + 1, d, h, e => by
    cases h with
    | cons _ h2 =>
      obtain ⟨v, h3, h4⟩ := dps_get (i := i) (d := d) h2 (by simpa using e)
      exact ⟨v, by simpa using h3, h4⟩
theorem dps_snoc {K : PySem.W.Frag} {H : Hp} {v : V} {d : PyData} (r : Dp K H v d) : ∀ {ds : List PyData} {vs : List V}, DpAll K H vs ds → DpAll K H (vs ++ [v]) (ds ++ [d])
  | [], _, h => by cases h; exact .cons r .nil
  | _ :: _, _, h => by
    cases h with
    | cons h1 h2 => exact .cons h1 (dps_snoc r h2)
theorem dps_append {K : PySem.W.Frag} {H : Hp} {es : List PyData} {ws : List V} (r : DpAll K H ws es) : ∀ {ds : List PyData} {vs : List V}, DpAll K H vs ds → DpAll K H (vs ++ ws) (ds ++ es)
  | [], _, h => by cases h; exact r
  | _ :: _, _, h => by
    cases h with
    | cons h1 h2 => exact .cons h1 (dps_append r h2)
/-- the pairs of a dict with texts as keys -/
def KR (K : PySem.W.Frag) (H : Hp) (ks : List (Key × V)) (kvs : List (Str × PyData)) : Prop :=
  Paired (fun (p : Key × V) (q : Str × PyData) => p.1 = Sum.inr q.1 ∧ Dp K H p.2 q.2) ks kvs
def bodyOf (kvs : List (Str × PyData)) : List (PyData × PyData) := kvs.map fun q => (.str q.1, q.2)
/-- a dict, locked or not; one that is not locked; one that is locked, at a -/
def dictOf (kvs : List (Str × PyData)) : PyData := .dict (bodyOf kvs)
def dictU (kvs : List (Str × PyData)) : PyData := .dict ((.none, .none) :: bodyOf kvs)
def dictL (a : Addr) (kvs : List (Str × PyData)) : PyData := .dict ((.int (a : Nat), .none) :: bodyOf kvs)
/-- a list that stands by itself (tracked, not locked) -/
def listX (ds : List PyData) : PyData := .dict [(.bool true, .list ds)]
inductive Rt (K : PySem.W.Frag) (H : Hp) : V → PyData → Prop where
  | d {v : V} {x : PyData} (h : Dp K H v x) : Rt K H v x
  | dict {a : Addr} {ks : List (Key × V)} {kvs : List (Str × PyData)} (e : Rd H a (.dK ks)) (h : KR K H ks kvs) (nd : (kvs.map (·.1)).Nodup) : Rt K H (.ref a) (dictOf kvs)
  | dictU {a : Addr} {ks : List (Key × V)} {kvs : List (Str × PyData)} (e : H a = some (.dK ks)) (h : KR K H ks kvs) (nd : (kvs.map (·.1)).Nodup) : Rt K H (.ref a) (dictU kvs)
  | dictL {a : Addr} {o : Obj} {ks : List (Key × V)} {kvs : List (Str × PyData)} (e : H a = some (.frz o (.dK ks))) (h : KR K H ks kvs) (nd : (kvs.map (·.1)).Nodup) : Rt K H (.ref a) (dictL a kvs)
  | lstX {a : Addr} {vs : List V} {ds : List PyData} (e : H a = some (.lst vs)) (h : DpAll K H vs ds) : Rt K H (.ref a) (listX ds)
theorem kr_ex {K : PySem.W.Frag} {H H' : Hp} (e : Ex H H') : ∀ {ks : List (Key × V)} {kvs : List (Str × PyData)}, KR K H ks kvs → KR K H' ks kvs
  | _, _, .nil => .nil
  | _, _, .cons r t => .cons ⟨r.1, dp_ex e _ _ r.2⟩ (kr_ex e t)
theorem Rt.ex {K : PySem.W.Frag} {H H' : Hp} {v : V} {x : PyData} (e : Ex H H') (h : Rt K H v x) : Rt K H' v x := by
  cases h with
  | d h => exact .d (dp_ex e _ _ h)
  | dict e1 h nd => exact .dict (ex_rd e e1) (kr_ex e h) nd
  | dictU e1 h nd => exact .dictU (e _ _ e1) (kr_ex e h) nd
  | dictL e1 h nd => exact .dictL (e _ _ e1) (kr_ex e h) nd
  | lstX e1 h => exact .lstX (e _ _ e1) (dps_ex e _ _ h)
theorem bodyOf_inj : ∀ {k1 k2 : List (Str × PyData)}, bodyOf k1 = bodyOf k2 → k1 = k2
  | [], [], _ => rfl
  | [], _ :: _, h => by simp [bodyOf] at h
  | _ :: _, [], h => by simp [bodyOf] at h
  | (a, b) :: r, (c, d) :: s, h => by
    simp only [bodyOf, List.map_cons, List.cons.injEq, Prod.mk.injEq, PyData.str.injEq] at h
    obtain ⟨⟨h1, h2⟩, h3⟩ := h
    rw [h1, h2, bodyOf_inj (k1 := r) (k2 := s) h3]
theorem body_ne {kvs : List (Str × PyData)} {x : PyData × PyData} {r : List (PyData × PyData)} (hx : ∀ s, x.1 ≠ .str s) : bodyOf kvs ≠ x :: r := by
  cases kvs with
  | nil => intro h; simp [bodyOf] at h
  | cons q qs =>
    intro h
    simp only [bodyOf, List.map_cons, List.cons.injEq] at h
    exact hx q.1 (by rw [← h.1])
theorem rt_dict {K : PySem.W.Frag} {B : Hp} {v : V} {kvs : List (Str × PyData)} (h : Rt K B v (dictOf kvs)) : ∃ a ks, v = .ref a ∧ Rd B a (.dK ks) ∧ KR K B ks kvs ∧ (kvs.map (·.1)).Nodup := by
  generalize hd : dictOf kvs = dd at h
  cases h with
  | d h =>
    subst hd
    cases h
  | dict e1 h nd =>
    have e := bodyOf_inj (PyData.dict.inj hd)
    subst e
    exact ⟨_, _, rfl, e1, h, nd⟩
  | dictU e1 h nd => exact (body_ne (x := (.none, .none)) (fun s z => by cases z) (PyData.dict.inj hd)).elim
  | @dictL a2 o ks kv2 e1 h nd => exact (body_ne (x := (.int (a2 : Nat), .none)) (fun s z => by cases z) (PyData.dict.inj hd)).elim
  | @lstX a2 vs ds2 e1 h => exact (body_ne (x := (.bool true, .list ds2)) (fun s z => by cases z) (PyData.dict.inj hd)).elim
theorem rt_dictU {K : PySem.W.Frag} {B : Hp} {v : V} {kvs : List (Str × PyData)} (h : Rt K B v (dictU kvs)) : ∃ a ks, v = .ref a ∧ B a = some (.dK ks) ∧ KR K B ks kvs ∧ (kvs.map (·.1)).Nodup := by
  generalize hd : dictU kvs = dd at h
  cases h with
  | d h =>
    subst hd
    cases h
  | dict e1 h nd => exact (body_ne (x := (.none, .none)) (fun s z => by cases z) (PyData.dict.inj hd).symm).elim
  | dictU e1 h nd =>
    have e := bodyOf_inj (List.cons.inj (PyData.dict.inj hd)).2
    subst e
    exact ⟨_, _, rfl, e1, h, nd⟩
  | dictL e1 h nd =>
    have e := (List.cons.inj (PyData.dict.inj hd)).1
    simp at e
  | lstX e1 h =>
    have e := (List.cons.inj (PyData.dict.inj hd)).1
    simp at e
theorem rt_dictL {K : PySem.W.Frag} {B : Hp} {v : V} {a : Addr} {kvs : List (Str × PyData)} (h : Rt K B v (dictL a kvs)) : ∃ o ks, v = .ref a ∧ B a = some (.frz o (.dK ks)) ∧ KR K B ks kvs ∧ (kvs.map (·.1)).Nodup := by
  generalize hd : dictL a kvs = dd at h
  cases h with
  | d h =>
    subst hd
    cases h
  | dict e1 h nd => exact (body_ne (x := (.int (a : Nat), .none)) (fun s z => by cases z) (PyData.dict.inj hd).symm).elim
  | dictU e1 h nd =>
    have e := (List.cons.inj (PyData.dict.inj hd)).1
    simp at e
  | @dictL a2 o ks kv2 e1 h nd =>
    have e := bodyOf_inj (List.cons.inj (PyData.dict.inj hd)).2
    have e2 := (List.cons.inj (PyData.dict.inj hd)).1
    simp only [Prod.mk.injEq, PyData.int.injEq, and_true] at e2
    have e3 : a = a2 := Int.ofNat.inj e2
    subst e e3
    exact ⟨_, _, rfl, e1, h, nd⟩
  | lstX e1 h =>
    have e := (List.cons.inj (PyData.dict.inj hd)).1
    simp at e
theorem rt_listX {K : PySem.W.Frag} {B : Hp} {v : V} {ds : List PyData} (h : Rt K B v (listX ds)) : ∃ a vs, v = .ref a ∧ B a = some (.lst vs) ∧ DpAll K B vs ds := by
  generalize hd : listX ds = dd at h
  cases h with
  | d h =>
    subst hd
    cases h
  | dict e1 h nd => exact (body_ne (x := (.bool true, .list ds)) (fun s z => by cases z) (PyData.dict.inj hd).symm).elim
  | dictU e1 h nd =>
    have e := (List.cons.inj (PyData.dict.inj hd)).1
    simp at e
  | dictL e1 h nd =>
    have e := (List.cons.inj (PyData.dict.inj hd)).1
    simp at e
  | lstX e1 h =>
    have e := (List.cons.inj (PyData.dict.inj hd)).1
    simp only [Prod.mk.injEq, PyData.list.injEq, true_and] at e
    subst e
    exact ⟨_, _, rfl, e1, h⟩
theorem rt_ofX {K : PySem.W.Frag} {B : Hp} {v : V} {ds : List PyData} (h : Rt K B v (listX ds)) : Rt K B v (.list ds) := by
  obtain ⟨a, vs, rfl, e, h⟩ := rt_listX h
  exact .d (.lst (.inl (.inl e)) h)
theorem rt_ofU {K : PySem.W.Frag} {B : Hp} {v : V} {kvs : List (Str × PyData)} (h : Rt K B v (dictU kvs)) : Rt K B v (dictOf kvs) := by
  obtain ⟨a, ks, rfl, e, kr, nd⟩ := rt_dictU h
  exact .dict (.inl e) kr nd
theorem rt_ofL {K : PySem.W.Frag} {B : Hp} {v : V} {a : Addr} {kvs : List (Str × PyData)} (h : Rt K B v (dictL a kvs)) : Rt K B v (dictOf kvs) := by
  obtain ⟨o, ks, rfl, e, kr, nd⟩ := rt_dictL h
  exact .dict (.inr ⟨o, e⟩) kr nd
def plain : PyData → Bool
  | .dict _ => false
  | _ => true
theorem Rt.dp {K : PySem.W.Frag} {H : Hp} {v : V} {x : PyData} (h : Rt K H v x) (p : plain x = true) : Dp K H v x := by
  cases h with
  | d h => exact h
  | dict e1 h nd => simp [plain, dictOf] at p
  | dictU e1 h nd => simp [plain, FC.dictU] at p
  | dictL e1 h nd => simp [plain, FC.dictL] at p
  | lstX e1 h => simp [plain, FC.listX] at p
abbrev RtA (K : PySem.W.Frag) (H : Hp) : List V → List PyData → Prop := Paired (Rt K H)
theorem RtA.ex {K : PySem.W.Frag} {H H' : Hp} (e : Ex H H') : ∀ {vs : List V} {ds : List PyData}, RtA K H vs ds → RtA K H' vs ds
  | _, _, .nil => .nil
  | _, _, .cons r t => .cons (r.ex e) (RtA.ex e t)
theorem RtA.dps {K : PySem.W.Frag} {H : Hp} : ∀ {vs : List V} {ds : List PyData}, RtA K H vs ds → ds.all plain = true → DpAll K H vs ds
  | _, _, .nil, _ => .nil
  | _, _, .cons r t, h => by
    simp only [List.all_cons, Bool.and_eq_true] at h
    exact .cons (r.dp h.1) (RtA.dps t h.2)
/-! ### the slots -/
structure En (K : PySem.W.Frag) (B : Hp) (σ : L2.St) (G : List (Option PyData)) : Prop where
  len : σ.length = G.length
  get : ∀ (i : Nat) (d : PyData), G[i]? = some (some d) → ∃ v, σ[i]? = some (some v) ∧ Rt K B v d
theorem En.ex {K : PySem.W.Frag} {B B' : Hp} {σ : L2.St} {G : List (Option PyData)} (e : Ex B B') (h : En K B σ G) : En K B' σ G :=
  ⟨h.len, fun i d q => by
    obtain ⟨v, h1, h2⟩ := h.get i d q
    exact ⟨v, h1, h2.ex e⟩⟩
theorem En.set {K : PySem.W.Frag} {B : Hp} {σ : L2.St} {G : List (Option PyData)} {v : V} {d : PyData} (j : Nat) (h : En K B σ G) (r : Rt K B v d) : En K B (σ.set j (some v)) (G.set j (some d)) := by
  refine ⟨by rw [List.length_set, List.length_set, h.len], fun i e q => ?_⟩
  by_cases hij : j = i
  · subst hij
    have hl : j < G.length := by
      have := (List.getElem?_eq_some_iff.mp q).1
      simpa using this
    rw [List.getElem?_set_self hl] at q
    cases q
    exact ⟨v, List.getElem?_set_self (by rw [h.len]; exact hl), r⟩
  · rw [List.getElem?_set_ne hij] at q
    obtain ⟨u, h1, h2⟩ := h.get i e q
    exact ⟨u, by rw [List.getElem?_set_ne hij]; exact h1, h2⟩
/-- a slot whose value is not told -/
theorem En.setN {K : PySem.W.Frag} {B : Hp} {σ : L2.St} {G : List (Option PyData)} {x : Option V} (j : Nat) (h : En K B σ G) : En K B (σ.set j x) (G.set j none) := by
  refine ⟨by rw [List.length_set, List.length_set, h.len], fun i e q => ?_⟩
  by_cases hij : j = i
  · subst hij
    have hl : j < G.length := by
      have := (List.getElem?_eq_some_iff.mp q).1
      simpa using this
    rw [List.getElem?_set_self hl] at q
    cases q
  · rw [List.getElem?_set_ne hij] at q
    obtain ⟨u, h1, h2⟩ := h.get i e q
    exact ⟨u, by rw [List.getElem?_set_ne hij]; exact h1, h2⟩
def wipeG (G : List (Option PyData)) : List Nat → List (Option PyData)
  | [] => G
  | v :: vs => (wipeG G vs).set v none
theorem En.wipe {K : PySem.W.Frag} {B : Hp} {σ : L2.St} {G : List (Option PyData)} (h : En K B σ G) : ∀ vs, En K B (wipe σ vs) (wipeG G vs)
  | [] => h
  | v :: vs => (h.wipe vs).setN v
def startG (N : List Str) (ds : List PyData) : List (Option PyData) := ds.map some ++ List.replicate (N.length - ds.length) none
theorem En.start {K : PySem.W.Frag} {B : Hp} {N : List Str} {vs : List V} {ds : List PyData} (h : RtA K B vs ds) : En K B (start N vs) (startG N ds) := by
  have hl : vs.length = ds.length := Paired.length h
  unfold L2.start startG
  refine ⟨by simp [hl], fun i d q => ?_⟩
  rw [List.getElem?_append] at q
  split at q
  · rename_i hi
    rw [List.length_map] at hi
    rw [List.getElem?_map] at q
    have hi' : i < vs.length := by omega
    have e1 : ds[i]? = some d := by
      cases e : ds[i]? with
      | none => rw [e] at q; cases q
      | some x => rw [e] at q; simpa using q
    have key : ∀ {vs : List V} {ds : List PyData} {i : Nat}, RtA K B vs ds → ds[i]? = some d → ∃ v, vs[i]? = some v ∧ Rt K B v d := by
      intro vs ds i h
      induction h generalizing i with
      | nil => intro e; simp at e
      | cons r t ih =>
        intro e
        cases i with
        | zero =>
          simp at e
          subst e
          exact ⟨_, rfl, r⟩
        | succ i => simpa using ih (by simpa using e)
    obtain ⟨v, h1, h2⟩ := key h e1
    refine ⟨v, ?_, h2⟩
    rw [List.getElem?_append_left (by simpa using hi'), List.getElem?_map, h1]
    rfl
  · rename_i hi
    have : ∀ (n j : Nat), (List.replicate n (none : Option PyData))[j]? = some (some d) → False := by
      intro n j e
      rw [List.getElem?_replicate] at e
      split at e <;> simp at e
    exact (this _ _ q).elim
/-! ### steps of (B, H) -/
structure Go (B H B' H' : Hp) : Prop where
  eb : Ex B B'
  eh : Ex H H'
  sub : Ex B' H'
  fr : ∀ a o, H a = some o → B a = none → B' a = none
theorem Go.refl {B H : Hp} (e : Ex B H) : Go B H B H := ⟨Evl.Ex.refl _, Evl.Ex.refl _, e, fun _ _ _ n => n⟩
theorem Go.trans {B H B1 H1 B2 H2 : Hp} (a : Go B H B1 H1) (b : Go B1 H1 B2 H2) : Go B H B2 H2 :=
  ⟨a.eb.trans b.eb, a.eh.trans b.eh, b.sub, fun c o h n => b.fr c o (a.eh c o h) (a.fr c o h n)⟩
theorem sub_none {B H : Hp} {p : Addr} (e : Ex B H) (n : H p = none) : B p = none := Evl.fresh_back e n
theorem Go.new {B H : Hp} {p : Addr} {o : HO} (e : Ex B H) (n : H p = none) : Go B H (upd B p o) (upd H p o) :=
  ⟨Evl.Ex.new (sub_none e n), Evl.Ex.new n, fun a u h => by
    by_cases ha : a = p
    · subst ha
      rw [upd_same] at h ⊢
      exact h
    · rw [upd_ne ha] at h ⊢
      exact e a u h, fun a u h nb => by
    rw [upd_ne (ne_of_none h n)]
    exact nb⟩
/-- a new object that B does not learn of -/
theorem Go.own {B H : Hp} {p : Addr} {o : HO} (e : Ex B H) (n : H p = none) : Go B H B (upd H p o) :=
  ⟨Evl.Ex.refl _, Evl.Ex.new n, e.trans (Evl.Ex.new n), fun _ _ _ nb => nb⟩

/-! ### judgements -/
section
variable (K : PySem.W.Frag)
def DE (te : TE) (G : List (Option PyData)) (d : PyData) : Prop :=
  ∀ σ B H, Ex B H → En K B σ G → ∀ Q : VK, (∀ v B' H', Go B H B' H' → Rt K B' v d → Q v H') → te σ H Q
def DT (tt : TT) (G : List (Option PyData)) (b : Bool) : Prop :=
  ∀ σ B H, Ex B H → En K B σ G → ∀ Q : Bool → Hp → Prop, (∀ B' H', Go B H B' H' → Q b H') → tt σ H Q
def DA (ta : TA) (G : List (Option PyData)) (ds : List PyData) : Prop :=
  ∀ σ B H, Ex B H → En K B σ G → ∀ Q : List V → Hp → Prop, (∀ vs B' H', Go B H B' H' → RtA K B' vs ds → Q vs H') → ta σ H Q
inductive Out where
  | nx (G : List (Option PyData)) | rt (d : PyData)
def Out.Ok (B H : Hp) (D : Ends) : Out → Prop
  | .nx G => ∀ σ' B' H', Go B H B' H' → En K B' σ' G → D.nx σ' H'
  | .rt d => ∀ v B' H', Go B H B' H' → Rt K B' v d → D.rt v H'
def DS (ts : TS) (G : List (Option PyData)) (r : Out) : Prop :=
  ∀ D σ B H, Ex B H → En K B σ G → r.Ok K B H D → ts D σ H
/-- the promise of a def: data in, data out, nothing that stood is changed -/
def spD (n : Nat) (pre : List PyData → Prop) (F : List PyData → PyData) : Sp := fun vs H Q _ =>
  ∃ B ds, Ex B H ∧ RtA K B vs ds ∧ ds.length = n ∧ pre ds ∧ ∀ v B' H', Go B H B' H' → Rt K B' v (F ds) → Q v H'
end
theorem Out.Ok.go {K : PySem.W.Frag} {B H B1 H1 : Hp} {D : Ends} (g : Go B H B1 H1) {r : Out} (h : r.Ok K B H D) : r.Ok K B1 H1 D := by
  cases r with
  | nx G => exact fun σ' B' H' g' e => h σ' B' H' (g.trans g') e
  | rt d => exact fun v B' H' g' e => h v B' H' (g.trans g') e
section
variable {K : PySem.W.Frag} {G : List (Option PyData)} {ta tb te tc : TE} {t u : TT} {d e f : PyData} {b c : Bool}
theorem DE.fin {n : Nat} {pre : List PyData → Prop} {F : List PyData → PyData} {N : List Str} {ts : TS} {vs : List V} {ds : List PyData} {B H : Hp} {Q : VK} (h : DS K ts (startG N ds) (.rt (F ds)))
    (e : Ex B H) (r : RtA K B vs ds) (q : ∀ v B' H', Go B H B' H' → Rt K B' v (F ds) → Q v H') : ts { nx := fun _ H' => Q .non H', rt := Q } (start N vs) H :=
  h _ _ B H e (En.start r) q
theorem de_ofU {kvs : List (Str × PyData)} (h : DE K te G (dictU kvs)) : DE K te G (dictOf kvs) := fun σ B H x en Q q => h σ B H x en _ fun v B' H' g r => q v B' H' g (rt_ofU r)
theorem de_ofL {a : Addr} {kvs : List (Str × PyData)} (h : DE K te G (dictL a kvs)) : DE K te G (dictOf kvs) := fun σ B H x en Q q => h σ B H x en _ fun v B' H' g r => q v B' H' g (rt_ofL r)
theorem de_ofX {ds : List PyData} (h : DE K te G (listX ds)) : DE K te G (.list ds) := fun σ B H x en Q q => h σ B H x en _ fun v B' H' g r => q v B' H' g (rt_ofX r)
theorem de_is (h : DE K te G d) (x : d = e) : DE K te G e := x ▸ h
theorem dt_is (h : DT K t G b) (x : b = c) : DT K t G c := x ▸ h
theorem de_var {i : Nat} (h : G[i]? = some (some d)) : DE K (tVar i) G d := fun σ B H x en Q q => by
  obtain ⟨v, h1, h2⟩ := en.get i d h
  exact ⟨v, h1, q v B H (.refl x) h2⟩
theorem de_int {i : Int} : DE K (tC (.int i)) G (.int i) := fun σ B H x en Q q => q _ B H (.refl x) (.d (.int i))
theorem de_bl {b : Bool} : DE K (tC (.bl b)) G (.bool b) := fun σ B H x en Q q => q _ B H (.refl x) (.d (.bl b))
theorem de_non : DE K (tC .non) G .none := fun σ B H x en Q q => q _ B H (.refl x) (.d .non)
theorem de_str {s : Str} : DE K (tC (.str s)) G (.str s) := fun σ B H x en Q q => q _ B H (.refl x) (.d (.str s))
theorem da_nil : DA K tNil G [] := fun σ B H x en Q q => q [] B H (.refl x) .nil
theorem da_cons {tr : TA} {ds : List PyData} (h : DE K te G d) (hr : DA K tr G ds) : DA K (tCons te tr) G (d :: ds) := fun σ B H x en Q q =>
  h σ B H x en _ fun v B1 H1 g1 r1 => hr σ B1 H1 g1.sub (en.ex g1.eb) _ fun vs B2 H2 g2 r2 => q (v :: vs) B2 H2 (g1.trans g2) (.cons (r1.ex g2.eb) r2)
theorem de_tup {tr : TA} {ds : List PyData} (h : DA K tr G ds) (hp : ds.all plain = true) (hl : ds.length ≤ 1000) : DE K (tTup tr) G (.tuple ds) := fun σ B H x en Q q =>
  h σ B H x en _ fun vs B1 H1 g1 r1 => ⟨by rw [Paired.length r1]; exact Nat.le_trans hl (by decide), fun p hn => by
    have g2 : Go B1 H1 (upd B1 p (.tup vs)) (upd H1 p (.tup vs)) := Go.new g1.sub hn
    exact q _ _ _ (g1.trans g2) (.d (.tup (.inl (.inl upd_same)) ((RtA.ex g2.eb r1).dps hp)))⟩
theorem de_lst {tr : TA} {ds : List PyData} (h : DA K tr G ds) (hp : ds.all plain = true) (hl : ds.length ≤ 1000) : DE K (tLst tr) G (.list ds) := fun σ B H x en Q q =>
  h σ B H x en _ fun vs B1 H1 g1 r1 => ⟨by rw [Paired.length r1]; exact Nat.le_trans hl (by decide), fun p hn => by
    have g2 : Go B1 H1 (upd B1 p (.lst vs)) (upd H1 p (.lst vs)) := Go.new g1.sub hn
    exact q _ _ _ (g1.trans g2) (.d (.lst (.inl (.inl upd_same)) ((RtA.ex g2.eb r1).dps hp)))⟩
theorem de_lstX {tr : TA} {ds : List PyData} (h : DA K tr G ds) (hp : ds.all plain = true) (hl : ds.length ≤ 1000) : DE K (tLst tr) G (listX ds) := fun σ B H x en Q q =>
  h σ B H x en _ fun vs B1 H1 g1 r1 => ⟨by rw [Paired.length r1]; exact Nat.le_trans hl (by decide), fun p hn => by
    have g2 : Go B1 H1 (upd B1 p (.lst vs)) (upd H1 p (.lst vs)) := Go.new g1.sub hn
    exact q _ _ _ (g1.trans g2) (.lstX upd_same ((RtA.ex g2.eb r1).dps hp))⟩
theorem rt_bool {B : Hp} {v : V} (h : Rt K B v (.bool b)) : v = .bl b := by
  have h := h.dp rfl
  cases h
  rfl
theorem rt_int {B : Hp} {v : V} {i : Int} (h : Rt K B v (.int i)) : v = .int i := by
  have h := h.dp rfl
  cases h
  rfl
theorem rt_str {B : Hp} {v : V} {s : Str} (h : Rt K B v (.str s)) : v = .str s := by
  have h := h.dp rfl
  cases h
  rfl
theorem de_and (h1 : DE K ta G (.bool b)) (h2 : b = true → DE K tb G (.bool c)) : DE K (tAndV ta tb) G (.bool (b && c)) := fun σ B H x en Q q =>
  h1 σ B H x en _ fun v B1 H1 g1 r1 => ⟨b, rt_bool r1, by
    cases b with
    | true =>
      rw [if_pos rfl]
      exact h2 rfl σ B1 H1 g1.sub (en.ex g1.eb) _ fun v B2 H2 g2 r2 => q v B2 H2 (g1.trans g2) r2
    | false =>
      rw [if_neg Bool.false_ne_true]
      exact q _ B1 H1 g1 (.d (.bl false))⟩
theorem de_or (h1 : DE K ta G (.bool b)) (h2 : b = false → DE K tb G (.bool c)) : DE K (tOrV ta tb) G (.bool (b || c)) := fun σ B H x en Q q =>
  h1 σ B H x en _ fun v B1 H1 g1 r1 => ⟨b, rt_bool r1, by
    cases b with
    | true =>
      rw [if_pos rfl]
      exact q _ B1 H1 g1 (.d (.bl true))
    | false =>
      rw [if_neg Bool.false_ne_true]
      exact h2 rfl σ B1 H1 g1.sub (en.ex g1.eb) _ fun v B2 H2 g2 r2 => q v B2 H2 (g1.trans g2) r2⟩
theorem de_not (h1 : DE K ta G (.bool b)) : DE K (tNotV ta) G (.bool (!b)) := fun σ B H x en Q q =>
  h1 σ B H x en _ fun v B1 H1 g1 r1 => ⟨b, rt_bool r1, q _ B1 H1 g1 (.d (.bl _))⟩
theorem de_if (h : DT K t G b) (h1 : b = true → DE K ta G d) (h2 : b = false → DE K tb G d) : DE K (tIf t ta tb) G d := fun σ B H x en Q q =>
  h σ B H x en _ fun B1 H1 g1 => by
    cases b with
    | true =>
      rw [if_pos rfl]
      exact h1 rfl σ B1 H1 g1.sub (en.ex g1.eb) _ fun v B2 H2 g2 r2 => q v B2 H2 (g1.trans g2) r2
    | false =>
      rw [if_neg Bool.false_ne_true]
      exact h2 rfl σ B1 H1 g1.sub (en.ex g1.eb) _ fun v B2 H2 g2 r2 => q v B2 H2 (g1.trans g2) r2
theorem dt_B (h : DE K te G (.bool b)) : DT K (tB te) G b := fun σ B H x en Q q => h σ B H x en _ fun v B1 H1 g1 r1 => ⟨b, rt_bool r1, q B1 H1 g1⟩
theorem dt_test (h : DE K te G (.bool b)) : DT K (tTest te) G b := fun σ B H x en Q q => h σ B H x en _ fun v B1 H1 g1 r1 => ⟨b, rt_bool r1, q B1 H1 g1⟩
theorem dt_and (h1 : DT K t G b) (h2 : b = true → DT K u G c) : DT K (tAnd t u) G (b && c) := fun σ B H x en Q q =>
  h1 σ B H x en _ fun B1 H1 g1 => by
    cases b with
    | true =>
      rw [if_pos rfl]
      exact h2 rfl σ B1 H1 g1.sub (en.ex g1.eb) _ fun B2 H2 g2 => q B2 H2 (g1.trans g2)
    | false =>
      rw [if_neg Bool.false_ne_true]
      exact q B1 H1 g1
theorem dt_or (h1 : DT K t G b) (h2 : b = false → DT K u G c) : DT K (tOr t u) G (b || c) := fun σ B H x en Q q =>
  h1 σ B H x en _ fun B1 H1 g1 => by
    cases b with
    | true =>
      rw [if_pos rfl]
      exact q B1 H1 g1
    | false =>
      rw [if_neg Bool.false_ne_true]
      exact h2 rfl σ B1 H1 g1.sub (en.ex g1.eb) _ fun B2 H2 g2 => q B2 H2 (g1.trans g2)
theorem dt_not (h1 : DT K t G b) : DT K (tNot t) G (!b) := fun σ B H x en Q q => h1 σ B H x en _ fun B1 H1 g1 => q B1 H1 g1
/-- a value operation on two data -/
def RD (K : PySem.W.Frag) (r : R2) (d e f : PyData) : Prop := ∀ B H v w, Ex B H → Rt K B v d → Rt K B w e → ∀ Q : VK, (∀ z B' H', Go B H B' H' → Rt K B' z f → Q z H') → r v w H Q
theorem de_op {r : R2} (h1 : DE K ta G d) (h2 : DE K tb G e) (hr : RD K r d e f) : DE K (tOp r ta tb) G f := fun σ B H x en Q q =>
  h1 σ B H x en _ fun v B1 H1 g1 r1 => h2 σ B1 H1 g1.sub (en.ex g1.eb) _ fun w B2 H2 g2 r2 =>
    hr B2 H2 v w g2.sub (r1.ex g2.eb) r2 _ fun z B3 H3 g3 r3 => q z B3 H3 (g1.trans (g2.trans g3)) r3
theorem de_chain {r r' : R2} {e' : PyData} (h1 : DE K ta G d) (h2 : DE K tb G e) (h3 : b = true → DE K tc G e') (hr : RD K r d e (.bool b)) (hr' : b = true → RD K r' e e' (.bool c)) :
    DE K (tChain r r' ta tb tc) G (.bool (b && c)) := fun σ B H x en Q q =>
  h1 σ B H x en _ fun v B1 H1 g1 r1 => h2 σ B1 H1 g1.sub (en.ex g1.eb) _ fun w B2 H2 g2 r2 =>
    hr B2 H2 v w g2.sub (r1.ex g2.eb) r2 _ fun z B3 H3 g3 r3 => ⟨b, rt_bool r3, by
      cases b with
      | true =>
        rw [if_pos rfl]
        exact h3 rfl σ B3 H3 g3.sub (((en.ex g1.eb).ex g2.eb).ex g3.eb) _ fun w' B4 H4 g4 r4 =>
          hr' rfl B4 H4 w w' g4.sub ((r2.ex g3.eb).ex g4.eb) r4 _ fun z5 B5 H5 g5 r5 => q z5 B5 H5 (g1.trans (g2.trans (g3.trans (g4.trans g5)))) r5
      | false =>
        rw [if_neg Bool.false_ne_true]
        exact q _ B3 H3 (g1.trans (g2.trans g3)) (.d (.bl false))⟩
/-- a call's rule on data -/
def CD (K : PySem.W.Frag) (r : List V → Hp → VK → Prop) (ds : List PyData) (f : PyData) : Prop := ∀ B H vs, Ex B H → RtA K B vs ds → ∀ Q : VK, (∀ z B' H', Go B H B' H' → Rt K B' z f → Q z H') → r vs H Q
theorem de_cb {r : List V → Hp → VK → Prop} {tr : TA} {ds : List PyData} (h : DA K tr G ds) (hr : CD K r ds f) : DE K (tCB r tr) G f := fun σ B H x en Q q =>
  h σ B H x en _ fun vs B1 H1 g1 r1 => hr B1 H1 vs g1.sub r1 _ fun z B2 H2 g2 r2 => q z B2 H2 (g1.trans g2) r2
theorem de_call {tr : TA} {ds : List PyData} {n : Nat} {pre : List PyData → Prop} {F : List PyData → PyData} {E : XK} (h : DA K tr G ds) (hn : ds.length = n) (hp : pre ds) : DE K (tCall (spD K n pre F) [] E tr) G (F ds) := fun σ B H x en Q q =>
  h σ B H x en _ fun vs B1 H1 g1 r1 => by
    rw [List.append_nil]
    exact ⟨B1, ds, g1.sub, r1, hn, hp, fun v B' H' g2 r2 => q v B' H' (g1.trans g2) r2⟩
/-! ### statements -/
variable {t1 t2 : TS} {r : Out}
theorem ds_seq {G1 : List (Option PyData)} (h1 : DS K t1 G (.nx G1)) (h2 : DS K t2 G1 r) : DS K (tSeq t1 t2) G r := fun D σ B H x en q =>
  h1 { D with nx := t2 D } σ B H x en fun σ' B' H' g e => h2 D σ' B' H' g.sub e (q.go g)
theorem ds_seqR (h1 : DS K t1 G (.rt d)) : DS K (tSeq t1 t2) G (.rt d) := fun D σ B H x en q => h1 { D with nx := t2 D } σ B H x en q
theorem ds_next : DS K tNext G (.nx G) := fun D σ B H x en q => q σ B H (.refl x) en
theorem ds_ret (h : DE K te G d) : DS K (tRet te) G (.rt d) := fun D σ B H x en q => h σ B H x en _ fun v B' H' g r => q v B' H' g r
theorem ds_set {i : Nat} (h : DE K te G d) : DS K (tAsg te (gName i)) G (.nx (G.set i (some d))) := fun D σ B H x en q =>
  h σ B H x en _ fun v B' H' g r => q _ B' H' g ((en.ex g.eb).set i r)
theorem ds_drop (h : DE K te G d) : DS K (tDrop te) G (.nx G) := fun D σ B H x en q => h σ B H x en _ fun v B' H' g r => q σ B' H' g (en.ex g.eb)
theorem ds_if (h : DT K t G b) (h1 : b = true → DS K t1 G r) (h2 : b = false → DS K t2 G r) : DS K (tIfS t t1 t2) G r := fun D σ B H x en q =>
  h σ B H x en _ fun B1 H1 g1 => by
    cases b with
    | true =>
      rw [if_pos rfl]
      exact h1 rfl D σ B1 H1 g1.sub (en.ex g1.eb) (q.go g1)
    | false =>
      rw [if_neg Bool.false_ne_true]
      exact h2 rfl D σ B1 H1 g1.sub (en.ex g1.eb) (q.go g1)
/-- if .. : return .. ; the rest -/
theorem ds_guard (h : DT K t G b) (h1 : b = true → DS K t1 G (.rt d)) (h2 : b = false → DS K t2 G (.rt d)) : DS K (tSeq (tIfS t t1 tNext) t2) G (.rt d) := fun D σ B H x en q =>
  h σ B H x en _ fun B1 H1 g1 => by
    cases b with
    | true =>
      rw [if_pos rfl]
      exact h1 rfl { D with nx := t2 D } σ B1 H1 g1.sub (en.ex g1.eb) (Out.Ok.go (K := K) (r := .rt d) g1 q)
    | false =>
      rw [if_neg Bool.false_ne_true]
      exact h2 rfl D σ B1 H1 g1.sub (en.ex g1.eb) (Out.Ok.go (K := K) (r := .rt d) g1 q)
end
end FC
/-! Data logic: the operations. -/
namespace FC
open PySem PySem.Spec PyProof.Rows L2
open Evl (Ex)
section
variable {X : Cx}
theorem pe_dead {e : Expr} : PE X e (fun _ _ _ => False) := ⟨fun _ _ _ _ _ _ h => h.elim⟩
theorem pt_dead {e : Expr} : PT X e (fun _ _ _ => False) := ⟨fun _ _ _ _ _ _ h => h.elim⟩
theorem pe_either {e : Expr} {t u : TE} (h : PE X e t) (h2 : PE X e u) : PE X e (fun σ H Q => t σ H Q ∨ u σ H Q) := ⟨fun pins s σ H Q I q => by
  rcases q with q | q
  · exact h.run pins s σ H Q I q
  · exact h2.run pins s σ H Q I q⟩
theorem ps_either {e : Stmt} {t u : TS} (h : PS X e t) (h2 : PS X e u) : PS X e (fun D σ H => t D σ H ∨ u D σ H) := ⟨fun pins s σ H D I q => by
  rcases q with q | q
  · exact h.run pins s σ H D I q
  · exact h2.run pins s σ H D I q⟩
end
/-- a def of the module by its name, its promise on data -/
structure Cl (P : Program) (w : World) (K : PySem.W.Frag) (mg : Str → Option Value) (base : Heap) (k : Nat) (x : Str) (sp : Sp) : Prop where
  ex : ∃ (f : Addr) (fd : FuncData) (ps : List Str), FnOk P w K mg base CX0 k f fd ps sp ∧ mg x = some (.ref f) ∧ PySem.W.keepIn K (.ref f) = true ∧ Binds K fd ps []
section
variable {X : Cx} {k j : Nat} {x : Str} {sp : Sp} {p pos : Pos} {e : Expr} {es : List Expr} {t : TA}
theorem pe_cl (c : Cl X.prog X.w X.K X.mg X.base k x sp) (hr : Room j X.A) (hk : k ≤ j) (hg : Gl X x) (ha : PA X (e :: es) t)
    (hdb : (x == ("__debug__" : Str)) = false := by decide) (he : starEach (e :: es) X.env = (false, eval e X.env) :: starEach es X.env := by rfl) (hpl : (backTo pos (starEach es X.env)).any (·.1) = false := by rfl) :
    PE X (.Call (.Name x p) (e :: es) [] pos) (tCall sp [] E0 t) := by
  obtain ⟨f, fd, ps, F, hm, kp, b⟩ := c.ex
  exact pe_call F (hr.mono hk) hg hm kp b .nil pass0 ha hdb he hpl
end
section
variable {K : PySem.W.Frag} {G : List (Option PyData)} {ta tb te tc : TE} {t u : TT} {d e f : PyData} {b c : Bool}
/-! ### == , is None, <= -/
theorem rd_eq (hd : SeqAt.shaped d = true) (he : SeqAt.shaped e = true) (pd : plain d = true) (pe : plain e = true) : RD K (rEqD K) d e (.bool (PyData.eqv d e)) := fun B H v w x r1 r2 Q q =>
  ⟨d, e, dp_ex x _ _ (r1.dp pd), dp_ex x _ _ (r2.dp pe), hd, he, q _ B H (.refl x) (.d (.bl _))⟩
theorem rd_ne (hd : SeqAt.shaped d = true) (he : SeqAt.shaped e = true) (pd : plain d = true) (pe : plain e = true) : RD K (rNeD K) d e (.bool (!PyData.eqv d e)) := fun B H v w x r1 r2 Q q =>
  ⟨d, e, dp_ex x _ _ (r1.dp pd), dp_ex x _ _ (r2.dp pe), hd, he, q _ B H (.refl x) (.d (.bl _))⟩
def isNon : PyData → Bool
  | .none => true
  | _ => false
theorem rt_isnon {B : Hp} {v : V} (h : Rt K B v d) : decide (v = V.non) = isNon d := by
  cases h with
  | d h => cases h <;> simp [isNon]
  | dict e1 h nd => simp [isNon, dictOf]
  | dictU e1 h nd => simp [isNon, dictU]
  | dictL e1 h nd => simp [isNon, dictL]
  | lstX e1 h => simp [isNon, listX]
theorem de_isN (h : DE K ta G d) : DE K (tIsN ta) G (.bool (isNon d)) := fun σ B H x en Q q => h σ B H x en _ fun v B' H' g r => by
  rw [rt_isnon r]
  exact q _ B' H' g (.d (.bl _))
theorem de_notN (h : DE K ta G d) : DE K (tNotN ta) G (.bool (!isNon d)) := fun σ B H x en Q q => h σ B H x en _ fun v B' H' g r => by
  rw [rt_isnon r]
  exact q _ B' H' g (.d (.bl _))
theorem rd_le {i j : Int} : RD K (rI0 fun i j => .bl (decide (i ≤ j))) (.int i) (.int j) (.bool (decide (i ≤ j))) := fun B H v w x r1 r2 Q q => ⟨i, j, rt_int r1, rt_int r2, q _ B H (.refl x) (.d (.bl _))⟩
theorem rd_ge {i j : Int} : RD K (rI0 fun i j => .bl (decide (j ≤ i))) (.int i) (.int j) (.bool (decide (j ≤ i))) := fun B H v w x r1 r2 Q q => ⟨i, j, rt_int r1, rt_int r2, q _ B H (.refl x) (.d (.bl _))⟩
theorem rd_gt {i j : Int} : RD K (rI0 fun i j => .bl (decide (j < i))) (.int i) (.int j) (.bool (decide (j < i))) := fun B H v w x r1 r2 Q q => ⟨i, j, rt_int r1, rt_int r2, q _ B H (.refl x) (.d (.bl _))⟩
theorem rd_lt {i j : Int} : RD K (rI0 fun i j => .bl (decide (i < j))) (.int i) (.int j) (.bool (decide (i < j))) := fun B H v w x r1 r2 Q q => ⟨i, j, rt_int r1, rt_int r2, q _ B H (.refl x) (.d (.bl _))⟩
theorem rd_add {i j : Int} : RD K (rI0 fun i j => .int (i + j)) (.int i) (.int j) (.int (i + j)) := fun B H v w x r1 r2 Q q => ⟨i, j, rt_int r1, rt_int r2, q _ B H (.refl x) (.d (.int _))⟩
theorem rd_sub {i j : Int} : RD K (rI0 fun i j => .int (i - j)) (.int i) (.int j) (.int (i - j)) := fun B H v w x r1 r2 Q q => ⟨i, j, rt_int r1, rt_int r2, q _ B H (.refl x) (.d (.int _))⟩
def rLeS : R2 := fun x y H Q => ∃ i j, x = .str i ∧ y = .str j ∧ Q (.bl (!decide (j.cps.toList < i.cps.toList))) H
theorem op_leS {X : Cx} : OpR X (compareOp .LtE) rLeS := op_le_str
theorem rd_leS {i j : Str} : RD K rLeS (.str i) (.str j) (.bool (!decide (j.cps.toList < i.cps.toList))) := fun B H v w x r1 r2 Q q => ⟨i, j, rt_str r1, rt_str r2, q _ B H (.refl x) (.d (.bl _))⟩
/-! ### items -/
theorem rd_ixT {ds : List PyData} {i : Int} {j : Nat} (hi : i = (j : Int)) (h : ds[j]? = some d) : RD K (rIxT K) (.tuple ds) (.int i) d := fun B H v w x r1 r2 Q q => by
  have r1 := r1.dp rfl
  cases r1 with
  | tup hs ha =>
    obtain ⟨y, h1, h2⟩ := dps_get ha h
    exact ⟨_, _, i, y, rfl, rt_int r2, ex_t x hs, by rw [hi]; exact atI_nat h1, q y B H (.refl x) (.d h2)⟩
theorem rd_ixL {ds : List PyData} {i : Int} {j : Nat} (hi : i = (j : Int)) (h : ds[j]? = some d) : RD K (rIxL K) (.list ds) (.int i) d := fun B H v w x r1 r2 Q q => by
  have r1 := r1.dp rfl
  cases r1 with
  | lst hs ha =>
    obtain ⟨y, h1, h2⟩ := dps_get ha h
    exact ⟨_, _, i, y, rfl, rt_int r2, ex_l x hs, by rw [hi]; exact atI_nat h1, q y B H (.refl x) (.d h2)⟩
/-! ### isinstance, len, all, any -/
def tyN : PyData → String
  | .none => "NoneType" | .bool _ => "bool" | .int _ => "int" | .str _ => "str" | .list _ => "list" | .tuple _ => "tuple" | .dict ((.bool true, _) :: _) => "list" | .dict _ => "dict"
theorem tyN_dictOf (kvs : List (Str × PyData)) : tyN (dictOf kvs) = "dict" := by
  cases kvs <;> rfl
theorem rt_ty {B H : Hp} {v : V} (x : Ex B H) (h : Rt K B v d) : TyX K H v (.type (tyN d)) := by
  cases h with
  | d h =>
    cases h with
    | non => exact .base .non
    | bl b => exact .base (.bl b)
    | int i => exact .base (.int i)
    | str s => exact .base (.str s)
    | lst hs _ =>
      rcases ex_l x hs with (h | ⟨o, h⟩) | ⟨o, its, n, h, hc, _⟩
      · exact .base (.lst h)
      · exact .base (.frz h)
      · exact .kList h hc
    | tup hs _ =>
      rcases ex_t x hs with (h | ⟨o, h⟩) | ⟨o, its, n, h, hc, _⟩
      · exact .base (.tup h)
      · exact .fTuple h
      · exact .kTuple h hc
  | dict e1 h nd =>
    rw [tyN_dictOf]
    rcases ex_rd x e1 with h | ⟨o, h⟩
    · exact .base (.dK h)
    · exact .fDict h
  | dictU e1 h nd => exact .base (.dK (x _ _ e1))
  | dictL e1 h nd => exact .fDict (x _ _ e1)
  | lstX e1 h => exact .base (.lst (x _ _ e1))
theorem de_isi {n : String} (h : DE K ta G d) (hk : kitB (tyN d) n = some b) : DE K (tCB (rIsi K) (tCons ta (tCons (tC (.ty n)) tNil))) G (.bool b) := fun σ B H x en Q q =>
  h σ B H x en _ fun v B' H' g r => ⟨v, .ty n, .type (tyN d), .type n, b, rfl, .ty n, rt_ty g.sub r, kit_ty hk, q _ B' H' g (.d (.bl b))⟩
theorem de_ty {n m : String} (h : DE K ta G d) (ht : tyN d = m) (hk : kitB m n = some b) : DE K (tCB (rIsi K) (tCons ta (tCons (tC (.ty n)) tNil))) G (.bool b) := de_isi h (by rw [ht]; exact hk)
def rLen (K : PySem.W.Frag) : List V → Hp → VK → Prop := fun xs H Q => ∃ x n, xs = [x] ∧ LenV K x H n ∧ Q (.int n) H
theorem call_lenR {X : Cx} : CallR X (.builtin "len") (rLen X.K) := call_len
theorem cd_lenL {ds : List PyData} : CD K (rLen K) [.list ds] (.int ds.length) := fun B H vs x r Q q => by
  cases r with
  | cons r1 r2 =>
    cases r2
    have r1 := r1.dp rfl
    cases r1 with
    | lst hs ha => exact ⟨_, _, rfl, .inl ⟨_, ex_l x hs, (dps_len ha).symm⟩, q _ B H (.refl x) (.d (.int _))⟩
theorem cd_lenT {ds : List PyData} : CD K (rLen K) [.tuple ds] (.int ds.length) := fun B H vs x r Q q => by
  cases r with
  | cons r1 r2 =>
    cases r2
    have r1 := r1.dp rfl
    cases r1 with
    | tup hs ha => exact ⟨_, _, rfl, .inr ⟨_, ex_t x hs, (dps_len ha).symm⟩, q _ B H (.refl x) (.d (.int _))⟩
theorem cd_lenS {s : Str} (hl : s.length ≤ sizeLine) : CD K (rLen K) [.str s] (.int s.length) := fun B H vs x r Q q => by
  cases r with
  | cons r1 r2 =>
    cases r2
    have r1 := r1.dp rfl
    cases r1
    exact ⟨_, _, rfl, ⟨hl, rfl⟩, q _ B H (.refl x) (.d (.int _))⟩
theorem bools_dp {B : Hp} : ∀ {bs : List Bool} {vs : List V}, DpAll K B vs (bs.map PyData.bool) → vs = bs.map V.bl
  | [], _, h => by cases h; rfl
  | _ :: bs, _, h => by
    cases h with
    | cons h1 h2 =>
      cases h1
      rw [bools_dp h2]
      rfl
theorem cd_all {bs : List Bool} : CD K (rAll K) [.list (bs.map .bool)] (.bool (bs.all id)) := fun B H vs x r Q q => by
  cases r with
  | cons r1 r2 =>
    cases r2
    have r1 := r1.dp rfl
    cases r1 with
    | lst hs ha => exact ⟨_, bs, rfl, by rw [← bools_dp ha]; exact ex_l x hs, q _ B H (.refl x) (.d (.bl _))⟩
theorem cd_any {bs : List Bool} : CD K (rAny K) [.list (bs.map .bool)] (.bool (bs.any id)) := fun B H vs x r Q q => by
  cases r with
  | cons r1 r2 =>
    cases r2
    have r1 := r1.dp rfl
    cases r1 with
    | lst hs ha => exact ⟨_, bs, rfl, by rw [← bools_dp ha]; exact ex_l x hs, q _ B H (.refl x) (.d (.bl _))⟩
end
end FC
/-! Data logic: what is walked; comprehensions, loops; dicts. -/
namespace FC
open PySem PySem.Spec PyProof.Rows L2
open Evl (Ex)
/-- a target's effect on the slots -/
def TgOk (K : PySem.W.Frag) (T : List Nat) (g : TG) (ff : List (Option PyData) → List (Option PyData)) (P : Hp → V → Hp → Prop) : Prop :=
  ∀ B H σ G x H', Ex B H → En K B σ G → P H x H' → ∀ Q : L2.St → Hp → Prop, (∀ σ' B' H2, Go B H B' H2 → En K B' σ' (ff G) → (∀ vs, (∀ j ∈ T, j ∈ vs) → wipe σ' vs = wipe σ vs) → Q σ' H2) → g x σ H' Q
/-- wi gives n turns; turn i sets the slots as ff i says -/
def DIat (K : PySem.W.Frag) (wi : TI) (g : TG) (T : List Nat) (n : Nat) (ff : Nat → List (Option PyData) → List (Option PyData)) (σ : L2.St) (B H : Hp) : Prop :=
  ∀ R : It → Hp → Prop, (∀ J B1 H1 Y, Go B H B1 H1 → Walk J n (fun H2 => Ex B1 H2) Y →
    (∀ i, i < n → ∀ B2 H2 σ2 G2 x H3, Ex B1 B2 → Ex B2 H2 → En K B2 σ2 G2 → Y i H2 x H3 → ∀ Q : L2.St → Hp → Prop, (∀ σ' B' H4, Go B2 H2 B' H4 → En K B' σ' (ff i G2) → (∀ vs, (∀ j ∈ T, j ∈ vs) → wipe σ' vs = wipe σ2 vs) → Q σ' H4) → g x σ2 H3 Q) → R J H1) → wi σ H R
def DI (K : PySem.W.Frag) (wi : TI) (g : TG) (T : List Nat) (G : List (Option PyData)) (n : Nat) (ff : Nat → List (Option PyData) → List (Option PyData)) : Prop :=
  ∀ σ B H, Ex B H → En K B σ G → DIat K wi g T n ff σ B H
theorem wipe_set : ∀ {vs : List Nat} {σ : L2.St} {j : Nat} {x : Option V}, j ∈ vs → wipe (σ.set j x) vs = wipe σ vs
  | [], _, _, _, h => by cases h
  | v :: vs, σ, j, x, h => by
    show (wipe (σ.set j x) vs).set v none = (wipe σ vs).set v none
    by_cases hj : j ∈ vs
    · rw [wipe_set hj]
    · have e : j = v := by
        rcases List.mem_cons.mp h with h | h
        · exact h
        · exact absurd h hj
      subst e
      have key : ∀ (ws : List Nat) (τ : L2.St), j ∉ ws → wipe (τ.set j x) ws = (wipe τ ws).set j x := by
        intro ws
        induction ws with
        | nil => intro τ _; rfl
        | cons w ws ih =>
          intro τ hn
          show (wipe (τ.set j x) ws).set w none = ((wipe τ ws).set w none).set j x
          rw [ih τ (fun z => hn (List.mem_cons_of_mem _ z))]
          exact List.set_comm _ _ (fun z => hn (by rw [z]; exact List.mem_cons_self ..))
      rw [key vs σ hj, List.set_set]
theorem wipe_wipe {σ : L2.St} : ∀ {vs ws : List Nat}, (∀ j ∈ vs, j ∈ ws) → wipe (wipe σ vs) ws = wipe σ ws
  | [], _, _ => rfl
  | v :: vs, ws, h => by
    show wipe ((wipe σ vs).set v none) ws = wipe σ ws
    rw [wipe_set (h v (List.mem_cons_self ..)), wipe_wipe fun j hj => h j (List.mem_cons_of_mem _ hj)]
section
variable {K : PySem.W.Frag} {G : List (Option PyData)} {te td : TE} {tt : TT} {n : Nat} {g : TG} {T : List Nat} {wi : TI} {ff : Nat → List (Option PyData) → List (Option PyData)}
/-- over a list of data, a name as target -/
theorem di_list {ds : List PyData} {j : Nat} (h : DE K te G (.list ds)) : DI K (iList K te) (gName j) [j] G ds.length (fun i G2 => G2.set j ds[i]?) := fun σ B H x en R q =>
  h σ B H x en _ fun v B1 H1 g1 r1 => by
    have r1 := r1.dp rfl
    cases r1 with
    | @lst a xs _ hs ha =>
      refine ⟨a, rfl, ⟨xs, ex_l g1.sub hs⟩, ?_⟩
      have hl := dps_len ha
      refine q (Itl K a) B1 H1 (YAt xs) g1 ?_ fun i hi B2 H2 σ2 G2 y H3 e1 e2 en2 hy Q k => ?_
      · rw [← hl]
        exact walk_list.mono (fun H2 e => ex_l e hs) fun _ _ _ _ _ _ y => y
      · obtain ⟨rfl, hy⟩ := hy
        have hd : ds[i]? = some ds[i] := List.getElem?_eq_getElem hi
        obtain ⟨y', h1, h2⟩ := dps_get ha hd
        have : y = y' := Option.some.inj (hy.symm.trans h1)
        subst this
        refine k _ B2 H3 (.refl e2) ?_ fun vs hv => wipe_set (hv j (List.mem_singleton.mpr rfl))
        show En K B2 _ (G2.set j ds[i]?)
        rw [hd]
        exact en2.set j (.d (dp_ex e1 _ _ h2))
theorem di_tup {ds : List PyData} {j : Nat} (h : DE K te G (.tuple ds)) : DI K (iTup K te) (gName j) [j] G ds.length (fun i G2 => G2.set j ds[i]?) := fun σ B H x en R q =>
  h σ B H x en _ fun v B1 H1 g1 r1 => by
    have r1 := r1.dp rfl
    cases r1 with
    | @tup a xs _ hs ha =>
      refine ⟨a, rfl, ⟨xs, ex_t g1.sub hs⟩, ?_⟩
      have hl := dps_len ha
      refine q (Itt K a) B1 H1 (YAt xs) g1 ?_ fun i hi B2 H2 σ2 G2 y H3 e1 e2 en2 hy Q k => ?_
      · rw [← hl]
        exact walk_tup.mono (fun H2 e => ex_t e hs) fun _ _ _ _ _ _ y => y
      · obtain ⟨rfl, hy⟩ := hy
        have hd : ds[i]? = some ds[i] := List.getElem?_eq_getElem hi
        obtain ⟨y', h1, h2⟩ := dps_get ha hd
        have : y = y' := Option.some.inj (hy.symm.trans h1)
        subst this
        refine k _ B2 H3 (.refl e2) ?_ fun vs hv => wipe_set (hv j (List.mem_singleton.mpr rfl))
        show En K B2 _ (G2.set j ds[i]?)
        rw [hd]
        exact en2.set j (.d (dp_ex e1 _ _ h2))
def sgnsOf (s : Str) : List PyData := s.cps.toList.map fun c => .str ⟨#[c]⟩
theorem di_str {s : Str} {j : Nat} (h : DE K te G (.str s)) : DI K (iStr te) (gName j) [j] G s.cps.size (fun i G2 => G2.set j (sgnsOf s)[i]?) := fun σ B H x en R q =>
  h σ B H x en _ fun v B1 H1 g1 r1 => by
    have e := rt_str r1
    subst e
    refine ⟨s, rfl, ?_⟩
    refine q (Its s) B1 H1 (fun i H v H' => H' = H ∧ ∃ c, s.cps[i]? = some c ∧ v = .str ⟨#[c]⟩) g1 ?_ fun i hi B2 H2 σ2 G2 y H3 e1 e2 en2 hy Q k => ?_
    · exact walk_str.mono (fun _ _ => trivial) fun _ _ _ _ _ _ y => y
    · obtain ⟨rfl, c, hc, rfl⟩ := hy
      have hd : (sgnsOf s)[i]? = some (.str ⟨#[c]⟩) := by
        unfold sgnsOf
        rw [List.getElem?_map, Array.getElem?_toList, hc]
        rfl
      refine k _ B2 H3 (.refl e2) ?_ fun vs hv => wipe_set (hv j (List.mem_singleton.mpr rfl))
      show En K _ _ (G2.set j (sgnsOf s)[i]?)
      rw [hd]
      exact en2.set j (.d (.str _))
/-- enumerate(list), target (name, (name, name)) with the items pairs: slots j, k, l -/
theorem di_enumP {ta : TA} {ps : List (PyData × PyData)} {j k l : Nat} (h : DA K ta G [.list (ps.map fun p => .tuple [p.1, p.2])]) :
    DI K (iEnum K ta) (gTup K 2 (gCons (gName j) (gCons (gTup K 2 (gCons (gName k) (gCons (gName l) gNil))) gNil))) [j, k, l] G ps.length
      (fun i G2 => ((G2.set j (some (.int i))).set k (ps[i]?.map (·.1))).set l (ps[i]?.map (·.2))) := fun σ B H x en R q =>
  h σ B H x en _ fun vs B1 H1 g1 r1 => by
    cases r1 with
    | cons r1 r2 =>
      cases r2
      have r1 := r1.dp rfl
      cases r1 with
      | @lst a xs _ hs ha =>
        refine ⟨a, xs, rfl, ex_l g1.sub hs, ?_⟩
        have hl := dps_len ha
        rw [List.length_map] at hl
        refine q (Ite K a) B1 H1 (YPair (fun i => some (.int (i : Nat))) (fun i => xs[i]?)) g1 ?_ fun i hi B2 H2 σ2 G2 y H3 e1 e2 en2 hy Q kk => ?_
        · rw [← hl]
          exact walk_enum.mono (fun H2 e => ex_l e hs) fun _ _ _ _ _ _ y => y
        · obtain ⟨t, y1, y2, rfl, ht, rfl, h1, h2⟩ := hy
          have hd : (ps.map fun p => PyData.tuple [p.1, p.2])[i]? = some (.tuple [ps[i].1, ps[i].2]) := by
            rw [List.getElem?_map, List.getElem?_eq_getElem hi]
            rfl
          obtain ⟨z, h3, h4⟩ := dps_get ha hd
          have ez : y2 = z := Option.some.inj (h2.symm.trans h3)
          have e1' : y1 = .int (i : Nat) := (Option.some.inj h1).symm
          subst ez e1'
          have h4 := dp_ex e1 _ _ h4
          cases h4 with
          | @tup b zs _ hz hza =>
            cases hza with
            | cons q1 hza =>
              cases hza with
              | cons q2 hza =>
                cases hza
                have gn : Go B2 H2 B2 (upd H2 t (.tup [.int (i : Nat), .ref b])) := Go.own e2 ht
                refine ⟨t, _, rfl, .inl (.inl upd_same), rfl, _, _, rfl, _, _, rfl, ⟨b, _, rfl, ex_t gn.sub hz, rfl, _, _, rfl, _, _, rfl, rfl, ?_⟩⟩
                refine ⟨rfl, ?_⟩
                refine kk _ B2 _ gn ?_ fun vs hv => ?_
                · show En K _ _ (((G2.set j (some (.int i))).set k (ps[i]?.map (·.1))).set l (ps[i]?.map (·.2)))
                  rw [List.getElem?_eq_getElem hi]
                  exact ((en2.set j (.d (.int _))).set k (.d q1)).set l (.d q2)
                · rw [wipe_set (hv l (by simp)), wipe_set (hv k (by simp)), wipe_set (hv j (by simp))]
theorem di_range {ta : TA} {m : Int} {j : Nat} (h : DA K ta G [.int m]) (h0 : 0 ≤ m) (h1 : m ≤ 100000) : DI K (iRng1 ta) (gName j) [j] G m.toNat (fun i G2 => G2.set j (some (.int (i : Nat)))) := fun σ B H x en R q =>
  h σ B H x en _ fun vs B1 H1 g1 r1 => by
    cases r1 with
    | cons r1 r2 =>
      cases r2
      have e := rt_int r1
      subst e
      refine ⟨m, rfl, by omega, by omega, ?_⟩
      refine q (Itr 0 m.toNat) B1 H1 (YFn fun i => .int (0 + (i : Nat))) g1 ?_ fun i hi B2 H2 σ2 G2 y H3 e1 e2 en2 hy Q k => ?_
      · exact walk_range.mono (fun _ _ => trivial) fun _ _ _ _ _ _ y => y
      · obtain ⟨rfl, rfl⟩ := hy
        show gName j (V.int (0 + (i : Int))) σ2 H3 Q
        rw [Int.zero_add]
        exact k _ B2 H3 (.refl e2) (en2.set j (.d (.int _))) fun vs hv => wipe_set (hv j (List.mem_singleton.mpr rfl))
/-- what a comprehension has made -/
def madeG (p : Nat → Bool) (d : Nat → PyData) (i : Nat) : List PyData := ((List.range i).filter p).map d
theorem madeG_yes {p : Nat → Bool} {d : Nat → PyData} {i : Nat} (h : p i = true) : madeG p d (i + 1) = madeG p d i ++ [d i] := by
  unfold madeG
  rw [List.range_succ, List.filter_append, List.map_append, List.filter_cons, if_pos h]
  rfl
theorem madeG_no {p : Nat → Bool} {d : Nat → PyData} {i : Nat} (h : p i = false) : madeG p d (i + 1) = madeG p d i := by
  unfold madeG
  rw [List.range_succ, List.filter_append, List.map_append, List.filter_cons, if_neg (by rw [h]; exact Bool.false_ne_true)]
  exact List.append_nil _
theorem madeG_len (p : Nat → Bool) (d : Nat → PyData) (i : Nat) : (madeG p d i).length ≤ i := by
  unfold madeG
  rw [List.length_map]
  have h := List.length_filter_le p (List.range i)
  rw [List.length_range] at h
  exact h
structure LcI (K : PySem.W.Frag) (B1 H1 : Hp) (D : Addr) (ds : List PyData) (B' H' : Hp) : Prop where
  go : Go B1 H1 B' H'
  nD : B' D = none
  acc : ∃ vs, H' D = some (.lst vs) ∧ DpAll K B' vs ds
theorem LcI.step {B1 H1 B' H' B2 H2 : Hp} {D : Addr} {ds : List PyData} (p : LcI K B1 H1 D ds B' H') (g : Go B' H' B2 H2) : LcI K B1 H1 D ds B2 H2 := by
  obtain ⟨vs, h1, h2⟩ := p.acc
  exact ⟨p.go.trans g, g.fr D _ h1 p.nD, vs, g.eh D _ h1, dps_ex g.eb _ _ h2⟩
theorem LcI.app {B1 H1 B' H' : Hp} {D : Addr} {ds : List PyData} {y : V} {d : PyData} (p : LcI K B1 H1 D ds B' H') (n1 : H1 D = none) (hl : ds.length ≤ 2000) (r : Dp K B' y d) :
    ∃ acc, H' D = some (.lst acc) ∧ acc.length < sizeLine ∧ LcI K B1 H1 D (ds ++ [d]) B' (upd H' D (.lst (acc ++ [y]))) := by
  obtain ⟨vs, h1, h2⟩ := p.acc
  have hlen := dps_len h2
  refine ⟨vs, h1, Nat.lt_of_le_of_lt (by rw [hlen]; exact hl) (by decide), ⟨⟨p.go.eb, Evl.Ex.mut p.go.eh n1, Evl.Ex.mut p.go.sub p.nD, p.go.fr⟩, p.nD, _, upd_same, dps_snoc r h2⟩⟩
theorem de_lcX {vs : List Nat} (p : Nat → Bool) (d : Nat → PyData) (hi : DI K wi g T G n ff) (hT : ∀ j ∈ T, j ∈ vs) (ht : ∀ i, i < n → DT K tt (ff i (wipeG G vs)) (p i)) (he : ∀ i, i < n → p i = true → DE K te (ff i (wipeG G vs)) (d i))
    (hp : ∀ i, i < n → p i = true → plain (d i) = true) (hn : n ≤ 2000) : DE K (tLc wi g tt te vs) G (listX (madeG p d n)) := fun σ B H x en Q q =>
  hi σ B H x en _ fun J B1 H1 Y g1 W turn => fun D hD => by
    refine lc_it W (fun i H' => ∃ B', LcI K B1 H1 D (madeG p d i) B' H') ⟨B1, Go.own g1.sub hD, sub_none g1.sub hD, [], upd_same, .nil⟩ (fun i H' _ ⟨B', p'⟩ => p'.go.eb.trans p'.go.sub) (fun i y H2 H3 hil ⟨B2, p2⟩ hy => ?_) (fun H2 ⟨B2, p2⟩ => ?_)
    · refine turn i hil B2 H2 (wipe σ vs) (wipeG G vs) y H3 p2.go.eb p2.go.sub ((en.ex (g1.eb.trans p2.go.eb)).wipe vs) hy _ fun σ' B3 H4 g3 en3 hw => ⟨?_, ?_⟩
      · exact (hw vs hT).trans (wipe_wipe fun _ h => h)
      · have p3 := p2.step g3
        refine ht i hil σ' B3 H4 g3.sub en3 _ fun B4 H5 g4 => ?_
        have p4 := p3.step g4
        cases hpi : p i with
        | true =>
          rw [if_pos rfl]
          refine he i hil hpi σ' B4 H5 g4.sub (en3.ex g4.eb) _ fun z B5 H6 g5 r5 => ?_
          have p5 := p4.step g5
          obtain ⟨acc, h1, h2, h3⟩ := p5.app hD (Nat.le_trans (madeG_len p d i) (by omega)) (r5.dp (hp i hil hpi))
          refine ⟨acc, h1, h2, B5, ?_⟩
          rw [madeG_yes hpi]
          exact h3
        | false =>
          rw [if_neg Bool.false_ne_true]
          refine ⟨B4, ?_⟩
          rw [madeG_no hpi]
          exact p4
    · obtain ⟨vs', h1, h2⟩ := p2.acc
      have gg : Go B H (upd B2 D (.lst vs')) H2 := by
        have g2 := g1.trans p2.go
        refine ⟨g2.eb.trans (Evl.Ex.new p2.nD), g2.eh, fun a o e => ?_, fun a o e nb => ?_⟩
        · by_cases ha : a = D
          · subst ha
            rw [upd_same] at e
            rw [← e]
            exact h1
          · rw [upd_ne ha] at e
            exact g2.sub a o e
        · have ha : a ≠ D := by
            intro z
            subst z
            have := Evl.fresh_back g1.eh hD
            rw [this] at e
            cases e
          rw [upd_ne ha]
          exact g2.fr a o e nb
      exact q _ _ _ gg (.lstX upd_same (dps_ex (Evl.Ex.new p2.nD) _ _ h2))
theorem de_lc {vs : List Nat} (p : Nat → Bool) (d : Nat → PyData) (hi : DI K wi g T G n ff) (hT : ∀ j ∈ T, j ∈ vs) (ht : ∀ i, i < n → DT K tt (ff i (wipeG G vs)) (p i)) (he : ∀ i, i < n → p i = true → DE K te (ff i (wipeG G vs)) (d i))
    (hp : ∀ i, i < n → p i = true → plain (d i) = true) (hn : n ≤ 2000) : DE K (tLc wi g tt te vs) G (.list (madeG p d n)) := de_ofX (de_lcX p d hi hT ht he hp hn)
theorem dt_yes : DT K tYes G true := fun σ B H x en Q q => q B H (.refl x)
/-- a for: every turn goes on -/
theorem ds_for {tb : TS} (Gs : Nat → List (Option PyData)) (hi : DI K wi g T G n ff) (h0 : Gs 0 = G) (hs : ∀ i, i < n → DS K tb (ff i (Gs i)) (.nx (Gs (i + 1)))) : DS K (tFor wi g tb) G (.nx (Gs n)) := fun D σ B H x en q =>
  hi σ B H x en _ fun J B1 H1 Y g1 W turn => by
    refine for_it W (fun i σ' H' => ∃ B', Go B1 H1 B' H' ∧ En K B' σ' (Gs i)) ⟨B1, .refl g1.sub, by rw [h0]; exact en.ex g1.eb⟩ (fun i σ' H' _ ⟨B', p'⟩ => p'.1.eb.trans p'.1.sub) (fun i y σ2 H2 H3 hil ⟨B2, p2, en2⟩ hy => ?_) (fun σ2 H2 ⟨B2, p2, en2⟩ => ?_)
    · refine turn i hil B2 H2 σ2 (Gs i) y H3 p2.eb p2.sub en2 hy _ fun σ' B3 H4 g3 en3 hw => ?_
      exact hs i hil _ σ' B3 H4 g3.sub en3 fun σ5 B5 H5 g5 en5 => ⟨B5, p2.trans (g3.trans g5), en5⟩
    · exact q σ2 B2 H2 (g1.trans p2) en2
/-- a for that returns at turn m -/
theorem ds_forR {tb : TS} {d : PyData} (m : Nat) (Gs : Nat → List (Option PyData)) (hi : DI K wi g T G n ff) (hm : m < n) (h0 : Gs 0 = G) (hs : ∀ i, i < m → DS K tb (ff i (Gs i)) (.nx (Gs (i + 1)))) (hr : DS K tb (ff m (Gs m)) (.rt d)) : DS K (tFor wi g tb) G (.rt d) := fun D σ B H x en q =>
  hi σ B H x en _ fun J B1 H1 Y g1 W turn => by
    refine for_it W (fun i σ' H' => i ≤ m ∧ ∃ B', Go B1 H1 B' H' ∧ En K B' σ' (Gs i)) ⟨Nat.zero_le _, B1, .refl g1.sub, by rw [h0]; exact en.ex g1.eb⟩ (fun i σ' H' _ ⟨_, B', p'⟩ => p'.1.eb.trans p'.1.sub) (fun i y σ2 H2 H3 hil ⟨him, B2, p2, en2⟩ hy => ?_) (fun σ2 H2 ⟨him, B2, p2, en2⟩ => absurd him (by omega))
    refine turn i hil B2 H2 σ2 (Gs i) y H3 p2.eb p2.sub en2 hy _ fun σ' B3 H4 g3 en3 hw => ?_
    by_cases e : i = m
    · subst e
      exact hr _ σ' B3 H4 g3.sub en3 fun v B5 H5 g5 r5 => q v B5 H5 (g1.trans (p2.trans (g3.trans g5))) r5
    · exact hs i (by omega) _ σ' B3 H4 g3.sub en3 fun σ5 B5 H5 g5 en5 => ⟨by omega, B5, p2.trans (g3.trans g5), en5⟩
end
/-! ### dicts -/
section
variable {K : PySem.W.Frag} {G : List (Option PyData)} {te td : TE} {kvs : List (Str × PyData)}
def look (kvs : List (Str × PyData)) (k : Str) : Option PyData := (kvs.find? fun q => decide (q.1 = k)).map (·.2)
theorem kr_look {B : Hp} {k : Str} : ∀ {ks : List (Key × V)} {kvs : List (Str × PyData)}, KR K B ks kvs → (valV ks (Sum.inr k : Key) = none ∧ look kvs k = none) ∨ ∃ v d, valV ks (Sum.inr k : Key) = some v ∧ look kvs k = some d ∧ Dp K B v d
  | _, _, .nil => .inl ⟨rfl, rfl⟩
  | (a, v) :: ks, (b, d) :: kvs, .cons r t => by
    obtain ⟨r1, r2⟩ := r
    simp only at r1 r2
    subst r1
    unfold valV look
    simp only [List.find?_cons]
    by_cases e : b = k
    · subst e
      refine .inr ⟨v, d, ?_, ?_, r2⟩ <;> simp
    · have e1 : decide ((Sum.inr b : Key) = Sum.inr k) = false := by simp [e]
      have e2 : decide (b = k) = false := by simp [e]
      rw [e1, e2]
      exact kr_look t
theorem de_dget {k : Str} {d : PyData} (h : DE K td G (dictOf kvs)) (hk : DE K te G (.str k)) (hl : look kvs k = some d) : DE K (tDGet td te) G d := fun σ B H x en Q q =>
  h σ B H x en _ fun v B1 H1 g1 r1 => hk σ B1 H1 g1.sub (en.ex g1.eb) _ fun y B2 H2 g2 r2 => by
    obtain ⟨a, ks, rfl, e1, kr, nd⟩ := rt_dict (r1.ex g2.eb)
    have := rt_str r2
    subst this
    rcases kr_look (k := k) kr with ⟨_, e⟩ | ⟨v, d', h1, h2, h3⟩
    · rw [e] at hl; cases hl
    · have : d = d' := Option.some.inj (hl.symm.trans h2)
      subst this
      exact ⟨a, v, rfl, .inl ⟨ks, Sum.inr k, ex_rd g2.sub e1, rfl, h1.symm⟩, q v B2 H2 (g1.trans g2) (.d h3)⟩
theorem de_din {k : Str} (h : DE K td G (dictOf kvs)) (hk : DE K te G (.str k)) : DE K (tDIn te td) G (.bool (look kvs k).isSome) := fun σ B H x en Q q =>
  hk σ B H x en _ fun y B1 H1 g1 r1 => h σ B1 H1 g1.sub (en.ex g1.eb) _ fun v B2 H2 g2 r2 => by
    obtain ⟨a, ks, rfl, e1, kr, nd⟩ := rt_dict r2
    have := rt_str r1
    subst this
    refine ⟨a, valV ks (Sum.inr k : Key), rfl, .inl ⟨ks, Sum.inr k, ex_rd g2.sub e1, rfl, rfl⟩, ?_⟩
    have e : (valV ks (Sum.inr k : Key)).isSome = (look kvs k).isSome := by
      rcases kr_look (k := k) kr with ⟨e1, e2⟩ | ⟨v, d', h1, h2, h3⟩
      · rw [e1, e2]; rfl
      · rw [h1, h2]; rfl
    rw [e]
    exact q _ B2 H2 (g1.trans g2) (.d (.bl _))
end
/-! ### a dict that is locked -/
section
variable {K : PySem.W.Frag} {B H : Hp} {a : Addr} {ks : List (Key × V)} {od : Obj}
theorem rd_lock {b : Addr} {u : HO} (e : B a = some (.dK ks)) (h : Rd B b u) : Rd (upd B a (.frz od (.dK ks))) b u := by
  by_cases hb : b = a
  · subst hb
    rcases h with h | ⟨o, h⟩
    · rw [e] at h
      cases h
      exact .inr ⟨od, upd_same⟩
    · rw [e] at h
      cases h
  · rcases h with h | ⟨o, h⟩
    · exact .inl (by rw [upd_ne hb]; exact h)
    · exact .inr ⟨o, by rw [upd_ne hb]; exact h⟩
theorem rd_unlock {b : Addr} {u : HO} (e : B a = some (.frz od (.dK ks))) (hu : ∀ o w, u ≠ .frz o w) (h : Rd B b u) : Rd (upd B a (.dK ks)) b u := by
  by_cases hb : b = a
  · subst hb
    rcases h with h | ⟨o, h⟩
    · rw [e] at h
      cases h
      exact (hu _ _ rfl).elim
    · rw [e] at h
      cases h
      exact .inl upd_same
  · rcases h with h | ⟨o, h⟩
    · exact .inl (by rw [upd_ne hb]; exact h)
    · exact .inr ⟨o, by rw [upd_ne hb]; exact h⟩
mutual
theorem dp_rd {B B' : Hp} (r : ∀ b u, (∀ o w, u ≠ .frz o w) → Rd B b u → Rd B' b u) : ∀ (d : PyData) (v : V), Dp K B v d → Dp K B' v d
  | .none, _, h => by cases h; exact .non
  | .bool b, _, h => by cases h; exact .bl b
  | .int i, _, h => by cases h; exact .int i
  | .str s, _, h => by cases h; exact .str s
  | .list ds, _, h => by
    cases h with
    | lst hs ha =>
      refine .lst ?_ (dps_rd r ds _ ha)
      rcases hs with hs | hs
      · exact .inl (r _ _ (fun _ _ z => nomatch z) hs)
      · exact .inr hs
  | .tuple ds, _, h => by
    cases h with
    | tup hs ha =>
      refine .tup ?_ (dps_rd r ds _ ha)
      rcases hs with hs | hs
      · exact .inl (r _ _ (fun _ _ z => nomatch z) hs)
      · exact .inr hs
  | .dict _, _, h => by cases h
theorem dps_rd {B B' : Hp} (r : ∀ b u, (∀ o w, u ≠ .frz o w) → Rd B b u → Rd B' b u) : ∀ (ds : List PyData) (vs : List V), DpAll K B vs ds → DpAll K B' vs ds
  | [], _, h => by cases h; exact .nil
  | d :: ds, _, h => by
    cases h with
    | cons h1 h2 => exact .cons (dp_rd r d _ h1) (dps_rd r ds _ h2)
end
theorem kr_rd {B B' : Hp} (r : ∀ b u, (∀ o w, u ≠ .frz o w) → Rd B b u → Rd B' b u) : ∀ {ks : List (Key × V)} {kvs : List (Str × PyData)}, KR K B ks kvs → KR K B' ks kvs
  | _, _, .nil => .nil
  | _, _, .cons q t => .cons ⟨q.1, dp_rd r _ _ q.2⟩ (kr_rd r t)
/-- the slots of which nothing is lost when a dict is locked -/
def keepP : Option PyData → Option PyData
  | some d => if plain d = true then some d else none
  | none => none
theorem en_rd {B B' : Hp} {σ : L2.St} {G : List (Option PyData)} (r : ∀ b u, (∀ o w, u ≠ .frz o w) → Rd B b u → Rd B' b u) (h : En K B σ G) : En K B' σ (G.map keepP) :=
  ⟨by rw [List.length_map, h.len], fun i d q => by
    rw [List.getElem?_map] at q
    cases e : G[i]? with
    | none => rw [e] at q; cases q
    | some od =>
      rw [e] at q
      cases od with
      | none => simp [keepP] at q
      | some x =>
        simp only [Option.map_some, keepP, Option.some.injEq] at q
        split at q
        · rename_i hp
          cases q
          obtain ⟨v, h1, h2⟩ := h.get i d e
          exact ⟨v, h1, .d (dp_rd r _ _ (h2.dp hp))⟩
        · cases q⟩
theorem ex_lock (x : Ex B H) (e : B a = some (.dK ks)) : Ex (upd B a (.frz od (.dK ks))) (upd H a (.frz od (.dK ks))) := fun b o h => by
  by_cases hb : b = a
  · subst hb
    rw [upd_same] at h ⊢
    exact h
  · rw [upd_ne hb] at h ⊢
    exact x b o h
theorem go_unlock {B' H' : Hp} (x : Ex B H) (e : B a = some (.dK ks)) (g : Go (upd B a (.frz od (.dK ks))) (upd H a (.frz od (.dK ks))) B' H') : Go B H (upd B' a (.dK ks)) (upd H' a (.dK ks)) := by
  refine ⟨fun b o h => ?_, fun b o h => ?_, fun b o h => ?_, fun b o h nb => ?_⟩
  · by_cases hb : b = a
    · subst hb
      rw [e] at h
      rw [upd_same]
      exact h
    · rw [upd_ne hb]
      exact g.eb b o (by rw [upd_ne hb]; exact h)
  · by_cases hb : b = a
    · subst hb
      rw [x _ _ e] at h
      rw [upd_same]
      exact h
    · rw [upd_ne hb]
      exact g.eh b o (by rw [upd_ne hb]; exact h)
  · by_cases hb : b = a
    · subst hb
      rw [upd_same] at h ⊢
      exact h
    · rw [upd_ne hb] at h ⊢
      exact g.sub b o h
  · have hb : b ≠ a := by
      intro z
      subst z
      rw [e] at nb
      cases nb
    rw [upd_ne hb]
    exact g.fr b o (by rw [upd_ne hb]; exact h) (by rw [upd_ne hb]; exact nb)
end
section
variable {K : PySem.W.Frag} {G : List (Option PyData)} {te td : TE} {kvs : List (Str × PyData)}
def keyD (kvs : List (Str × PyData)) (i : Nat) : Option PyData := kvs[i]?.map fun q => .str q.1
def valD (kvs : List (Str × PyData)) (i : Nat) : Option PyData := kvs[i]?.map fun q => q.2
theorem kr_get {B : Hp} {ks : List (Key × V)} {kvs : List (Str × PyData)} (h : KR K B ks kvs) : ∀ {i : Nat} {k : Key} {v : V}, ks[i]? = some (k, v) → ∃ s d, kvs[i]? = some (s, d) ∧ k = Sum.inr s ∧ Dp K B v d := by
  induction h with
  | nil => intro i k v e; simp at e
  | @cons p q l1 l2 r t ih =>
    intro i k v e
    cases i with
    | zero =>
      simp at e
      subst e
      exact ⟨q.1, q.2, rfl, r.1, r.2⟩
    | succ i =>
      obtain ⟨s, d, h1, h2, h3⟩ := ih (i := i) (by simpa using e)
      exact ⟨s, d, by simpa using h1, h2, h3⟩
theorem di_keys {a : Addr} {j : Nat} (h : DE K td G (dictL a kvs)) : DI K (iKeys td) (gName j) [j] G kvs.length (fun i G2 => G2.set j (keyD kvs i)) := fun σ B H x en R q =>
  h σ B H x en _ fun v B1 H1 g1 r1 => by
    obtain ⟨o, ks, rfl, e, kr, nd⟩ := rt_dictL r1
    refine ⟨a, o, rfl, .inl ⟨ks, g1.sub _ _ e, ?_⟩⟩
    have hl : ks.length = kvs.length := Paired.length kr
    refine q _ B1 H1 (fun i H x H' => H' = H ∧ ∃ k v, ks[i]? = some (k, v) ∧ x = kV k) g1 ?_ fun i hi B2 H2 σ2 G2 y H3 e1 e2 en2 hy Q k => ?_
    · rw [← hl]
      exact walk_keys.mono (fun H2 ee => ee _ _ e) fun _ _ _ _ _ _ y => y
    · obtain ⟨rfl, ky, v, hk, rfl⟩ := hy
      obtain ⟨s, d, h1, rfl, h3⟩ := kr_get kr hk
      refine k _ B2 H3 (.refl e2) ?_ fun vs hv => wipe_set (hv j (List.mem_singleton.mpr rfl))
      show En K B2 _ (G2.set j (keyD kvs i))
      unfold keyD
      rw [h1]
      exact en2.set j (.d (.str s))
theorem di_vals {a : Addr} {j : Nat} (h : DE K td G (dictL a kvs)) : DI K (iVals td) (gName j) [j] G kvs.length (fun i G2 => G2.set j (valD kvs i)) := fun σ B H x en R q =>
  h σ B H x en _ fun v B1 H1 g1 r1 => by
    obtain ⟨o, ks, rfl, e, kr, nd⟩ := rt_dictL r1
    refine ⟨a, o, ks, rfl, g1.sub _ _ e, ?_⟩
    have hl : ks.length = kvs.length := Paired.length kr
    refine q _ B1 H1 (fun i H x H' => H' = H ∧ ∃ k, ks[i]? = some (k, x)) g1 ?_ fun i hi B2 H2 σ2 G2 y H3 e1 e2 en2 hy Q k => ?_
    · rw [← hl]
      exact walk_values.mono (fun H2 ee => ee _ _ e) fun _ _ _ _ _ _ y => y
    · obtain ⟨rfl, ky, hk⟩ := hy
      obtain ⟨s, d, h1, rfl, h3⟩ := kr_get kr hk
      refine k _ B2 H3 (.refl e2) ?_ fun vs hv => wipe_set (hv j (List.mem_singleton.mpr rfl))
      show En K B2 _ (G2.set j (valD kvs i))
      unfold valD
      rw [h1]
      exact en2.set j (.d (dp_ex e1 _ _ h3))
def lockG (G : List (Option PyData)) (i : Nat) (a : Addr) (kvs : List (Str × PyData)) : List (Option PyData) := (G.map keepP).set i (some (dictL a kvs))
def unlockG (G : List (Option PyData)) (i : Nat) (kvs : List (Str × PyData)) : List (Option PyData) := (G.map keepP).set i (some (dictU kvs))
theorem en_setV {B : Hp} {σ : L2.St} {G : List (Option PyData)} {v : V} {d : PyData} {i : Nat} (h : En K B σ G) (hv : σ[i]? = some (some v)) (r : Rt K B v d) : En K B σ (G.set i (some d)) := by
  refine ⟨by rw [List.length_set, h.len], fun j e q => ?_⟩
  by_cases hij : i = j
  · subst hij
    have hl : i < G.length := by
      have := (List.getElem?_eq_some_iff.mp q).1
      simpa using this
    rw [List.getElem?_set_self hl] at q
    cases q
    exact ⟨v, hv, r⟩
  · rw [List.getElem?_set_ne hij] at q
    exact h.get j e q
theorem go_lock {B H : Hp} {σ : L2.St} {i : Nat} (x : Ex B H) (en : En K B σ G) (hG : G[i]? = some (some (dictU kvs))) :
    ∃ a ks, σ[i]? = some (some (.ref a)) ∧ B a = some (.dK ks) ∧ KR K B ks kvs ∧ (kvs.map (·.1)).Nodup ∧ ∀ od, Ex (upd B a (.frz od (.dK ks))) (upd H a (.frz od (.dK ks))) ∧ En K (upd B a (.frz od (.dK ks))) σ (lockG G i a kvs) := by
  obtain ⟨v, h1, h2⟩ := en.get i _ hG
  obtain ⟨a, ks, rfl, e, kr, nd⟩ := rt_dictU h2
  refine ⟨a, ks, h1, e, kr, nd, fun od => ⟨ex_lock x e, ?_⟩⟩
  have r : ∀ b u, (∀ o w, u ≠ .frz o w) → Rd B b u → Rd (upd B a (.frz od (.dK ks))) b u := fun b u _ h => rd_lock e h
  exact en_setV (en_rd r en) h1 (.dictL upd_same (kr_rd r kr) nd)
theorem de_lock {i : Nat} {t : TE} {d : PyData} (hG : G[i]? = some (some (dictU kvs))) (hp : plain d = true) (h : ∀ a, DE K t (lockG G i a kvs) d) : DE K (tLockE t) G d := fun σ B H x en Q q => by
  obtain ⟨a, ks, hv, e, kr, nd, lk⟩ := go_lock x en hG
  refine ⟨a, .dK ks, x _ _ e, trivial, fun od => ?_⟩
  obtain ⟨x1, en1⟩ := lk od
  refine h a σ _ _ x1 en1 _ fun v B' H' g r => ⟨g.eh _ _ upd_same, ?_⟩
  refine q v _ _ (go_unlock x e g) (.d (dp_rd (fun b u hu hr => rd_unlock (g.eb _ _ upd_same) hu hr) _ _ (r.dp hp)))
theorem ds_lock {i : Nat} {t : TS} {Gn : Addr → List (Option PyData)} {Go' : List (Option PyData)} (hG : G[i]? = some (some (dictU kvs))) (hn : ∀ a, (Gn a)[i]? = some (some (dictL a kvs))) (hu : ∀ a, unlockG (Gn a) i kvs = Go') (h : ∀ a, DS K t (lockG G i a kvs) (.nx (Gn a))) : DS K (tLock t) G (.nx Go') := fun D σ B H x en q => by
  obtain ⟨a, ks, hv, e, kr, nd, lk⟩ := go_lock x en hG
  refine ⟨a, .dK ks, x _ _ e, trivial, fun od => ?_⟩
  obtain ⟨x1, en1⟩ := lk od
  refine h a _ σ _ _ x1 en1 fun σ' B' H' g en' => ⟨g.eh _ _ upd_same, ?_⟩
  have r : ∀ b u, (∀ o w, u ≠ .frz o w) → Rd B' b u → Rd (upd B' a (.dK ks)) b u := fun b u hu hr => rd_unlock (g.eb _ _ upd_same) hu hr
  obtain ⟨v, h1, h2⟩ := en'.get i _ (hn a)
  obtain ⟨o2, ks2, rfl, e2, kr2, _⟩ := rt_dictL h2
  have e3 : B' a = some (.frz od (.dK ks)) := g.eb _ _ upd_same
  rw [e3] at e2
  cases e2
  refine q σ' _ _ (go_unlock x e g) ?_
  rw [← hu a]
  exact en_setV (en_rd r en') h1 (.dictU upd_same (kr_rd r kr2) nd)
/-- truth of a dict -/
theorem dt_dict {ta : TE} (h : DE K ta G (dictU kvs)) : DT K (fun σ H Q => ta σ H fun x H' => ∃ k, TruV K x H' k ∧ Q k H') G (!kvs.isEmpty) := fun σ B H x en Q q => h σ B H x en _ fun v B' H' g r => by
  obtain ⟨a, ks, rfl, e, kr, nd⟩ := rt_dictU r
  refine ⟨!kvs.isEmpty, .inr (.inr ⟨ks, g.sub _ _ e, ?_⟩), q B' H' g⟩
  have hl : ks.length = kvs.length := Paired.length kr
  cases ks <;> cases kvs <;> simp at hl ⊢
end
end FC
namespace FC
open PySem PySem.Spec PyProof.Rows L2
open Evl (Ex)
/-- the promise of a def: R tells which data it hands back for which arguments; nothing that stood is changed -/
def spR (K : PySem.W.Frag) (R : List PyData → PyData → Prop) : Sp := fun vs H Q _ =>
  ∃ B ds out, Ex B H ∧ RtA K B vs ds ∧ R ds out ∧ ∀ v B' H', Go B H B' H' → Rt K B' v out → Q v H'
section
variable {K : PySem.W.Frag} {G : List (Option PyData)} {R : List PyData → PyData → Prop} {ta : TA} {d : PyData} {ds : List PyData} {E : XK}
theorem spR_len {n : Nat} (hn : ∀ ds d, R ds d → ds.length = n) (vs : List V) (H : Hp) (Q : VK) (E : XK) (h : spR K R vs H Q E) : vs.length = n := by
  obtain ⟨B, ds, d, _, r, hR, _⟩ := h
  rw [Paired.length r, hn ds d hR]
theorem de_call' (h : DA K ta G ds) (hR : R ds d) : DE K (tCall (spR K R) [] E ta) G d := fun σ B H x en Q q =>
  h σ B H x en _ fun vs B1 H1 g1 r1 => by
    rw [List.append_nil]
    exact ⟨B1, ds, d, g1.sub, r1, hR, fun v B' H' g2 r2 => q v B' H' (g1.trans g2) r2⟩
theorem fin_rt {N : List Str} {ts : TS} {vs : List V} {B H : Hp} {Q : VK} (h : DS K ts (startG N ds) (.rt d)) (x : Ex B H) (r : RtA K B vs ds) (q : ∀ v B' H', Go B H B' H' → Rt K B' v d → Q v H') :
    ts { nx := fun _ H' => Q .non H', rt := Q } (start N vs) H := h _ _ B H x (En.start r) q
theorem fin_nx {N : List Str} {G' : List (Option PyData)} {ts : TS} {vs : List V} {B H : Hp} {Q : VK} (h : DS K ts (startG N ds) (.nx G')) (x : Ex B H) (r : RtA K B vs ds) (q : ∀ v B' H', Go B H B' H' → Rt K B' v .none → Q v H') :
    ts { nx := fun _ H' => Q .non H', rt := Q } (start N vs) H := h _ _ B H x (En.start r) fun σ' B' H' g _ => q _ B' H' g (.d .non)
theorem ds_is {t : TS} {r r' : Out} (h : DS K t G r) (e : r = r') : DS K t G r' := e ▸ h
end
end FC
/-! Keywords alone, told from behind, any number of them. -/
namespace FK
open PySem PySem.Spec PyProof.Rows L2 FC
open Evl (Ex)
/-! ### a call with keywords alone -/
section
variable {X : Cx} {k j : Nat} {f : Addr} {fd : FuncData} {ps ks : List Str} {sp : Sp} {x : Str} {p pos : Pos} {kws : List Keyword} {tk : TA}
def tCallW (sp : Sp) (m : Nat) (g : List V → List V) (tk : TA) : TE := fun σ H Q => tk σ H fun zs H2 => zs.length = m ∧ sp (g zs) H2 Q E0
theorem pe_clW (F : FnOk X.prog X.w X.K X.mg X.base CX0 k f fd ps sp) (hr : Room j X.A) (hkj : k ≤ j) (hg : Gl X x) (hm : X.mg x = some (.ref f)) (hk : PySem.W.keepIn X.K (.ref f) = true)
    (g : {α : Type} → List α → List α) (hb : ∀ (s : Shared) (ws : List Value), ws.length = ks.length → BindsTo s fd ⟨[], ks.zip ws⟩ (ps.zip (g ws))) (rel : ∀ {zs : List V} {ws : List Value}, zs.length = ks.length → Vals zs ws → Vals (g zs) (g ws))
    (hkw : PK X kws tk) (hall : (backToKw pos (keywordEach kws X.env)).all (·.1.isSome) = true := by rfl) (hks : (backToKw pos (keywordEach kws X.env)).filterMap (·.1) = ks := by rfl) (hdb : (x == ("__debug__" : Str)) = false := by decide)
    (hpl : ((backTo pos (starEach [] X.env)).any (·.1) || (backToKw pos (keywordEach kws X.env)).any (·.1.isNone)) = false := by rfl) : PE X (.Call (.Name x p) [] kws pos) (tCallW sp ks.length (g (α := V)) tk) := by
  refine ⟨fun pins s σ H Q I h => ?_⟩
  refine wpAny_Call_Name_kw (ld_glob I hg hm ?_ hdb)
  refine PySem.W.callWith_KW0 (h₀ := X.base) I.ok.mod.kin hk hall ?_ hpl
  refine thn (hkw.run pos pins s σ H _ I h) fun ws s2 q0 => ?_
  obtain ⟨zs, H2, I2, rz, hl, hsp⟩ := q0
  refine ⟨I2.kIn, ?_⟩
  rw [hks]
  have hwl : ws.length = ks.length := rz.length.symm.trans hl
  refine wpAny_call (codeAny_mono ((F.mono hkj).run X.A X.stack s2 H2 ⟨[], ks.zip ws⟩ (g ws) (g zs) Q E0 hr I2.env0 (hb s2 ws hwl) (rel hl rz) hsp) fun r s' hq => ?_)
  cases r with
  | error e => exact pass0 pins σ H2 s2 e s' I2 hq
  | ok fl =>
    cases fl with
    | ret u => exact I2.after hq
    | next => exact hq.elim
    | brk => exact hq.elim
    | cont => exact hq.elim
end
theorem paired_append {α β : Type} {R : α → β → Prop} : ∀ {as : List α} {bs : List β} {cs : List α} {ds : List β}, Paired R as bs → Paired R cs ds → Paired R (as ++ cs) (bs ++ ds)
  | _, _, _, _, .nil, h => h
  | _, _, _, _, .cons r t, h => .cons r (paired_append t h)
theorem paired_reverse {α β : Type} {R : α → β → Prop} : ∀ {as : List α} {bs : List β}, Paired R as bs → Paired R as.reverse bs.reverse
  | _, _, .nil => .nil
  | _, _, .cons r t => by
    rw [List.reverse_cons, List.reverse_cons]
    exact paired_append (paired_reverse t) (.cons r .nil)
theorem vals_reverse {n : Nat} {zs : List V} {ws : List Value} (_ : zs.length = n) (r : Vals zs ws) : Vals zs.reverse ws.reverse := paired_reverse r
/-- a def that may be called by position and by its names told from behind -/
structure ClW (P : Program) (w : World) (K : PySem.W.Frag) (mg : Str → Option Value) (base : Heap) (k : Nat) (x : Str) (ps : List Str) (sp : Sp) : Prop where
  ex : ∃ (f : Addr) (fd : FuncData), FnOk P w K mg base CX0 k f fd ps sp ∧ mg x = some (.ref f) ∧ PySem.W.keepIn K (.ref f) = true ∧ Binds K fd ps [] ∧ ∀ (s : Shared) (ws : List Value), ws.length = ps.reverse.length → BindsTo s fd ⟨[], ps.reverse.zip ws⟩ (ps.zip ws.reverse)
section
variable {P : Program} {w : World} {K : PySem.W.Frag} {mg : Str → Option Value} {base : Heap} {f : Addr} {fd : FuncData} {G G' : List (Option PyData)}
theorem ClW.cl {k : Nat} {x : Str} {ps : List Str} {sp : Sp} (c : ClW P w K mg base k x ps sp) : Cl P w K mg base k x sp := by
  obtain ⟨f, fd, F, m, kp, b, _⟩ := c.ex
  exact ⟨f, fd, ps, F, m, kp, b⟩
theorem de_callW {tk : TA} {n : Nat} {ds : List PyData} {o : PyData} {R : List PyData → PyData → Prop} (h : DA K tk G ds) (hn : ds.length = n) (hR : R ds.reverse o) : DE K (tCallW (spR K R) n (List.reverse (α := V)) tk) G o := fun σ B H x en Q q =>
  h σ B H x en _ fun vs B1 H1 g1 r1 => ⟨by rw [Paired.length r1, hn], B1, ds.reverse, o, g1.sub, paired_reverse r1, hR, fun v B' H' g2 r2 => q v B' H' (g1.trans g2) r2⟩
end
section
variable {X : Cx} {k j : Nat} {ps ks : List Str} {sp : Sp} {x : Str} {p pos : Pos} {kws : List Keyword} {tk : TA}
/-- the call -/
theorem pe_kw (c : ClW X.prog X.w X.K X.mg X.base k x ps sp) (hr : Room j X.A) (hkj : k ≤ j) (hg : Gl X x) (hks0 : ks = ps.reverse)
    (hkw : PK X kws tk) (hall : (backToKw pos (keywordEach kws X.env)).all (·.1.isSome) = true := by rfl) (hks : (backToKw pos (keywordEach kws X.env)).filterMap (·.1) = ks := by rfl) (hdb : (x == ("__debug__" : Str)) = false := by decide)
    (hpl : ((backTo pos (starEach [] X.env)).any (·.1) || (backToKw pos (keywordEach kws X.env)).any (·.1.isNone)) = false := by rfl) : PE X (.Call (.Name x p) [] kws pos) (tCallW sp ks.length (List.reverse (α := V)) tk) := by
  obtain ⟨f, fd, F, hm, kp, _, hb⟩ := c.ex
  subst hks0
  exact pe_clW F hr hkj hg hm kp List.reverse hb vals_reverse hkw hall hks hdb hpl
end
end FK
/-! len(set(texts)), the texts all different. -/
namespace FG
open PySem PySem.Spec PyProof.Rows L2 FC
open Evl (Ex)
/-- the first i texts -/
def upTo (xs : List Str) (i : Nat) : Str → Bool := fun k => (xs.take i).any (· == k)
theorem upTo_no {xs : List Str} {i : Nat} {x : Str} (nd : xs.Nodup) (hx : xs[i]? = some x) : upTo xs i x = false := by
  obtain ⟨hi, rfl⟩ := List.getElem?_eq_some_iff.mp hx
  unfold upTo
  rw [List.any_eq_false]
  intro y hy
  obtain ⟨j, hj, rfl⟩ := List.getElem_of_mem hy
  rw [List.length_take] at hj
  rw [List.getElem_take]
  intro e
  have e := (List.getElem_inj nd).mp (eq_of_beq e)
  omega
theorem upTo_succ {xs : List Str} {i : Nat} {x k : Str} (hx : xs[i]? = some x) : upTo xs (i + 1) k = (upTo xs i k || decide (k = x)) := by
  unfold upTo
  rw [List.take_add_one, hx, List.any_append]
  by_cases e : k = x
  · subst e
    simp
  · have : (x == k) = false := beq_eq_false_iff_ne.mpr (Ne.symm e)
    simp [e, this]
section
variable {prog : Program} {w : World} {A : Around} {R : Result → Shared → Prop} {I : Addr} {fp wr : List Addr} {G : Array GenState → Array GenState → Prop} {n : Nat} {P : Nat → Value → Prop} {St : Nat → Shared → Prop}
theorem setOf_stay {h h' : Heap} {a : Addr} {S : Str → Bool} {m : Nat} (x : h.SetOf (PySem.strKind prog w) a S m) (k : ∀ o, h.get? a = some o → h'.get? a = some o) : h'.SetOf (PySem.strKind prog w) a S m := by
  obtain ⟨o, es, ep, t, ho, r⟩ := x
  exact ⟨o, es, ep, t, k o ho, r⟩
theorem fill_texts (W : WalksS prog w A.in1 I fp wr G n P St) (S : Addr) (hSf : S ∉ fp) (xs : List Str) (nd : xs.Nodup) (hl : xs.length = n) (hval : ∀ i v, P i v → ∃ x t, xs[i]? = some x ∧ v = .str x t) (hb : n + 1 < scanBound) :
    ∀ (k i : Nat) (s : Shared), n - i = k → i ≤ n → St i s → s.heap.SetOf (PySem.strKind prog w) S (upTo xs i) i →
      (∀ s', Moved (S :: wr) G s s' → s'.heap.SetOf (PySem.strKind prog w) S (upTo xs n) n → R (.ok (.ret .none)) s') → codeAny (model prog w) A (.builtin "set.update.loop" ⟨[.ref S, .ref I], []⟩) R s := by
  have nSw : S ∉ wr := fun h => hSf (W.sub _ h)
  have up : ∀ b ∈ wr, b ∈ S :: wr := fun b hb => List.mem_cons_of_mem _ hb
  intro k
  induction k with
  | zero =>
    intro i s hk hi hst hS hR
    obtain rfl : i = n := by omega
    refine codeAny_builtin F.entry_set_update_loop ?_
    rw [Around.under_plainId F.plain_set_update_loop _]
    refine wpAny_bind (m := pyNext (.ref I)) (W.done s _ _ hst fun s' hm => wpAny_pure (hR s' (hm.mono up) (setOf_stay hS fun o e => hm.heap S o nSw e)))
  | succ k ih =>
    intro i s hk hi hst hS hR
    have hlt : i < n := by omega
    refine codeAny_builtin F.entry_set_update_loop ?_
    rw [Around.under_plainId F.plain_set_update_loop _]
    refine wpAny_bind (m := pyNext (.ref I)) (W.item i s _ _ hlt hst fun v s' hP hst' hm => ?_)
    obtain ⟨x, t, hx, rfl⟩ := hval i v hP
    have hS1 := setOf_stay (h' := s'.heap) hS fun o e => hm.heap S o nSw e
    refine wpAny_bind (m := holding [Value.str x t] (setAdd S (.str x t))) (wpAny_holding ?_)
    unfold setAdd
    refine wpAny_holding (wpAny_bind ((PySem.strKind prog w).pyHash (k := x) (PySem.strKind_is _ _ _ _) ?_))
    refine wpAny_setAddHashed_of (knd := PySem.strKind prog w) (s := { s' with toks := s'.toks + 1 }) (PySem.strKind_is _ _ _ _) rfl hS1 (by omega) fun h' hsb hS2 => ?_
    have hSi : h'.SetOf (PySem.strKind prog w) S (upTo xs (i + 1)) (i + 1) := SetOf_congr hS2 (fun k' => (upTo_succ hx).symm) (by rw [upTo_no nd hx]; rfl)
    refine wpAny_pure ⟨plainId_quiet F.plain_set_update_loop _, ih (i + 1) _ (by omega) hlt (W.frame _ s' _ _ hst' (Nat.le_succ _) fun b hb o e => ?_) hSi fun s'' hm2 hS3 => ?_⟩
    · exact (hsb.2 b fun h => hSf (h ▸ hb)).trans e
    · refine hR s'' (Moved.trans W.gtrans ((hm.mono up).then_heap (Nat.le_succ _) fun b o hb e => ?_) hm2) hS3
      exact (hsb.2 b fun h => hb (h ▸ List.mem_cons_self)).trans e
end
/-- a new set, as the library lays it -/
abbrev newSet0 (led : Bool) : Obj := { cls := .type "set", dict := none, data := .set #[] 0 (.fresh 0 0 led) }
/-- what is asked of set.__init__'s end -/
def Filled (prog : Program) (w : World) (s : Shared) (xs : List Str) (s2 : Shared) : Prop := ∃ h' tk, s2 = { s with heap := h', toks := tk } ∧ h'.SetOf (PySem.strKind prog w) s.heap.objs.size (upTo xs xs.length) xs.length ∧ ∀ b o, s.heap.get? b = some o → h'.get? b = some o
section
variable {prog : Program} {w : World} {A : Around} {E : Value → Shared → Prop} {s : Shared}
theorem texts_at : ∀ {vs : List Value} {xs : List Str} {i : Nat} {v : Value}, StrsAre vs xs → vs[i]? = some v → ∃ x t, xs[i]? = some x ∧ v = .str x t
  | _, _, _, _, .nil, h => by simp at h
  | _, _, 0, v, .cons y t r, h => ⟨y, t, rfl, (Option.some.inj h).symm⟩
  | _, _, i + 1, v, .cons y t r, h => by
    obtain ⟨x, u, h1, h2⟩ := texts_at (i := i) r (by simpa using h)
    exact ⟨x, u, by simpa using h1, h2⟩
theorem texts_len : ∀ {vs : List Value} {xs : List Str}, StrsAre vs xs → vs.length = xs.length
  | _, _, .nil => rfl
  | _, _, .cons _ _ r => by simp [texts_len r]
theorem init_texts {l : Addr} {items : Array Value} {xs : List Str} {led : Bool} {Q : Unit → Shared → Prop} (hh : A.handled = none) (hl : s.heap.IsList l items) (hi : StrsAre items.toList xs) (nd : xs.Nodup) (hb : xs.length + 1 < scanBound)
    (hR : ∀ s2, Filled prog w s xs s2 → Q () s2) (hpl : (s.heap.push (newSet0 led)).IsList l items) :
    wpAny (model prog w) A (Builtin.Frozenset.updateFrom "set.__init__" s.heap.objs.size (.ref l)) Q E { s with heap := s.heap.push (newSet0 led) } := by
  have zl : items.size = xs.length := by
    have := texts_len hi
    simpa using this
  obtain ⟨ol, hol, hcl, nl, hdl⟩ := hpl
  have hlS : l < s.heap.objs.size := by
    obtain ⟨o, ho, _⟩ := hl
    exact Heap.lt_size ho
  have hpl' : (s.heap.push (newSet0 led)).IsList l items := ⟨ol, hol, hcl, nl, hdl⟩
  obtain ⟨oc, od, odt, osl⟩ := ol
  simp only at hcl hdl
  subst hcl hdl
  have k1 := F.sub_list_set
  have k2 := F.sub_list_frozenset
  have k3 : (Value.type "list" == Value.type "dict") = false := by decide
  unfold Builtin.Frozenset.updateFrom
  generalize hp : pyIter = it
  wp_walk
  subst hp
  refine wpAny_pyIter_list hpl' (wpAny_bind (wpAny_runValue ?_))
  have z1 : (s.heap.push (newSet0 led)).objs.size = s.heap.objs.size + 1 := Heap.size_push ..
  have nI : l ≠ (s.heap.push (newSet0 led)).objs.size := by
    have : (l : Nat) < s.heap.objs.size := hlS
    rw [z1]
    exact Nat.ne_of_lt (Nat.lt_succ_of_lt this)
  have nS : s.heap.objs.size ∉ [(s.heap.push (newSet0 led)).objs.size, l] := by
    rw [z1]
    intro hm
    rcases List.mem_cons.mp hm with e | hm
    · exact absurd e (Nat.ne_of_lt (Nat.lt_succ_self _))
    · exact absurd (List.mem_singleton.mp hm) (Nat.ne_of_gt hlS)
  have g0 : ((s.heap.push (newSet0 led)).push { cls := .type "list_iterator", data := .fields #[.ref l, .int 0 0] }).get? s.heap.objs.size = some (newSet0 led) := Heap.get?_push_of_some _ (Heap.get?_push_size _ rfl)
  refine fill_texts ((Walks.list (by simp [hh]) _ l nI items).toS) s.heap.objs.size nS xs nd zl.symm (fun i v hv => texts_at hi (by rw [Array.getElem?_toList]; exact hv)) (by rw [zl]; exact hb) _ 0 _ rfl (Nat.zero_le _) ⟨⟨_, Heap.get?_push_size _ rfl, rfl, rfl⟩, hpl'.push _⟩ ?_ ?_
  · exact SetOf_congr ((PyProof.Rows.setObjOf_fresh (knd := PySem.strKind prog w) led).setOf g0 (by unfold scanBound; omega)) (fun _ => rfl) rfl
  · intro s' hm hS
    rw [Moved.eq_with hm]
    refine wpAny_pure (hR _ ⟨s'.heap, s'.toks, rfl, by rw [zl] at hS; exact hS, fun b o e => ?_⟩)
    refine hm.heap b o (fun hmem => ?_) (Heap.get?_push_of_some _ (Heap.get?_push_of_some _ e))
    have hb' : (b : Nat) < s.heap.objs.size := Heap.lt_size e
    rcases List.mem_cons.mp hmem with z | hmem
    · exact absurd z (Nat.ne_of_lt hb')
    · have z := List.mem_singleton.mp hmem
      rw [z1] at z
      exact absurd z (Nat.ne_of_lt (Nat.lt_succ_of_lt hb'))
theorem call_set_texts {l : Addr} {items : Array Value} {xs : List Str} {Q : Value → Shared → Prop} (hh : A.handled = none) (hl : s.heap.IsList l items) (hi : StrsAre items.toList xs) (nd : xs.Nodup) (hb : xs.length + 1 < scanBound)
    (h : ∀ s2, Filled prog w s xs s2 → Q (.ref s.heap.objs.size) s2) : wpAny (model prog w) A (call (.type "set") [.ref l]) Q E s := by
  obtain ⟨c0, tl0, mro0⟩ := F.called_set.mro
  have q1 := F.called_set.made
  have q2 := F.called_set.sub
  have q3 := F.called_set.notType
  have q4 := F.called_set.canCreate
  have q5 := F.typeCall_set_1 (.ref l)
  refine wpAny_call (codeAny_of_tree (show wpAny _ _ (callAny (.type "set") _) _ _ _ from ?_))
  refine wpAny_pure ⟨Code.quiet_builtin _ (by decide +kernel), codeAny_builtin F.entry_type_call ?_⟩
  rw [Around.under_plain (weight_type_call_type "set" [.ref l] []) rfl]
  repeat (any_goals (first | assumption | wp_step))
  refine codeAny_mono (code_set_new_1 (.ref l) (E := E) (Q₁ := fun o s1 => ∃ led : Bool, o = .ref s.heap.objs.size ∧ s1 = { s with heap := s.heap.push (newSet0 led) }) fun led => ⟨led, rfl, rfl⟩) fun r s1 hr => ?_
  cases r with
  | error e => exact hr
  | ok fl =>
    cases fl with
    | next => exact hr.elim
    | brk => exact hr.elim
    | cont => exact hr.elim
    | ret o =>
      obtain ⟨led, rfl, rfl⟩ := hr
      have hT : Shared.TypeIs { s with heap := s.heap.push (newSet0 led) } (.ref s.heap.objs.size) "set" := ⟨_, Heap.get?_push_size _ rfl, rfl⟩
      have i1 := F.called_set.init.lookup
      have i2 := F.called_set.init.bind (.ref s.heap.objs.size)
      repeat (any_goals (first | assumption | wp_step))
      refine codeAny_mono (codeAny_call_builtin (R := wants (fun r s2 => r = .none ∧ Filled prog w s xs s2) E) F.called_set.init.plain F.entry_set_init (check_set_init_1 hT ?_)) fun r2 s2 hr2 => ?_
      · unfold Builtin.«set.__init__» noKeywords
        generalize hu : Builtin.Frozenset.updateFrom = uf
        wp_walk
        subst hu
        have hpl : (s.heap.push (newSet0 led)).IsList l items := hl.push _
        exact init_texts (by simp [hh]) hl hi nd hb (fun s2 f2 => wpAny_pure ⟨rfl, f2⟩) hpl
      · cases r2 with
        | error e => exact hr2
        | ok fl2 =>
          cases fl2 with
          | next => exact hr2.elim
          | brk => exact hr2.elim
          | cont => exact hr2.elim
          | ret r =>
            obtain ⟨rfl, f2⟩ := hr2
            repeat (any_goals (first | assumption | wp_step))
            exact h _ f2
end
end FG
/-! len(set(texts)) as an expression; zip of lists and tuples in any mix. -/
namespace FG
open PySem PySem.Spec PyProof.Rows L2 FC
open Evl (Ex)
def tLenSetS (K : PySem.W.Frag) (ta : TE) : TE := fun σ H Q => ta σ H fun x H1 => ∃ (l : Addr) (xs : List Str), x = .ref l ∧ SqL K H1 l (xs.map V.str) ∧ xs.Nodup ∧ xs.length ≤ 1000 ∧ Q (.int (xs.length : Nat)) H1
theorem strs_of : ∀ {ys : List Str} {us : List Value}, Vals (ys.map V.str) us → StrsAre us ys
  | [], _, .nil => .nil
  | y :: ys, _, .cons r t => by
    obtain ⟨k, rfl⟩ := r
    exact .cons y k (strs_of t)
theorem pe_lenSetS {X : Cx} {a : Expr} {ta : TE} {p p2 q pos : Pos} (g1 : Gl X "len") (m1 : X.mg "len" = none) (g2 : Gl X "set") (m2 : X.mg "set" = none) (ha : PE X a ta) (hc : X.calm = true := by rfl)
    (na : starEach [a] X.env = (false, eval a X.env) :: starEach [] X.env := by rfl) : PE X (.Call (.Name "len" p) [.Call (.Name "set" p2) [a] [] q] [] pos) (tLenSetS X.K ta) := by
  refine ⟨fun pins s σ H Q I h => Call_ (ld_blt I g1 m1 boot_len ?_)⟩
  refine PyProof.Rows.callWith_builtin1 (PyProof.Rows.args_cons (Call_ (ld_blt I g2 m2 boot_set ?_)) rfl) rfl rfl
  refine PyProof.Rows.callWith_type1 (PyProof.Rows.args_cons (thn (ha.run pins s σ H _ I h) fun v s1 ⟨x, H1, I1, r1, q1⟩ => PyProof.Rows.args_nil ?_) na) na rfl
  obtain ⟨l, xs, rfl, hq, nd, hl, q1⟩ := q1
  cases r1
  obtain ⟨its, r, pl, hz⟩ := I1.list hq
  refine call_set_texts (I1.ok.hd hc) pl.isList (by simpa using strs_of r) nd (by unfold scanBound; omega) fun s2 ⟨h', tk, e2, hS, hk⟩ => PyProof.Rows.args_nil ?_
  subst e2
  obtain ⟨o, es, ep, t, ho, hex, hd, _, _, _, hf, hn⟩ := hS
  have I2 : Inv X pins σ H1 { s1 with heap := h', toks := tk } := I1.kept hk
  exact call_len_set ho hex hd hf (by rw [hn]; omega) ⟨.int xs.length, H1, I2.tok _, ⟨_, by rw [hn]⟩, q1⟩
/-! ### lists and tuples alike -/
def Sq (K : PySem.W.Frag) (t : Bool) (H : Hp) (a : Addr) (xs : List V) : Prop := match t with
  | true => SqT K H a xs
  | false => SqL K H a xs
def SeqH (t : Bool) (h : Heap) (a : Addr) (items : Array Value) : Prop := match t with
  | true => h.IsTuple a items
  | false => h.IsList a items
def IterH (t : Bool) (h : Heap) (it a : Addr) (i : Nat) : Prop := match t with
  | true => h.IsTupleIter it a i
  | false => h.IsListIter it a i
def iterO (t : Bool) (a : Addr) : Obj := match t with
  | true => { cls := .type "tuple_iterator", data := .fields #[.ref a, .int 0 0] }
  | false => { cls := .type "list_iterator", data := .fields #[.ref a, .int 0 0] }
section
variable {prog : Program} {w : World} {A : Around} {t u : Bool} {h h' : Heap} {it a : Addr} {i : Nat} {items : Array Value}
theorem drawsG (hh : A.handled = none) (ne : a ≠ it) : Draws prog w A it [it, a] items.size (fun i v => items[i]? = some v) (fun i h => IterH t h it a i ∧ SeqH t h a items) := by
  cases t
  · exact Draws.list hh it a ne items
  · exact Draws.tuple hh it a ne items
theorem beginsG : Begins (.ref a) (iterO t a) fun h => SeqH t h a items := by
  cases t
  · exact begins_list a items
  · exact begins_tuple a items
theorem iterH_new (e : h.get? it = some (iterO t a)) : IterH t h it a 0 := by
  cases t
  · exact ⟨_, e, rfl, rfl⟩
  · exact ⟨_, e, rfl, rfl⟩
theorem iterH_at (x : IterH t h it a i) (k : ∀ o, h.get? it = some o → h'.get? it = some o) : IterH t h' it a i := by
  cases t
  · exact Heap.IsListIter.at x k
  · exact Heap.IsTupleIter.at x k
theorem seqH_at (x : SeqH t h a items) (k : ∀ o, h.get? a = some o → h'.get? a = some o) : SeqH t h' a items := by
  cases t
  · exact Heap.IsList.at x k
  · exact Heap.IsTuple.at x k
theorem iterH_ob (x : IterH t h it a i) : ∃ o, h.get? it = some o ∧ ∀ v, o.data ≠ .cell v := by
  cases t
  · obtain ⟨o, e, _, d⟩ := (show h.IsListIter it a i from x)
    exact ⟨o, e, fun v z => by rw [d] at z; cases z⟩
  · obtain ⟨o, e, _, d⟩ := (show h.IsTupleIter it a i from x)
    exact ⟨o, e, fun v z => by rw [d] at z; cases z⟩
theorem seq_ne_iter {b it : Addr} (p : SeqH t h a items) (q : IterH t h it b i) : a ≠ it := fun e => by
  subst e
  cases t
  · obtain ⟨o2, e2, _, n, d2⟩ := (show h.IsList a items from p)
    obtain ⟨o3, e3, _, d3⟩ := (show h.IsListIter a b i from q)
    rw [e2] at e3
    cases e3
    rw [d2] at d3
    cases d3
  · obtain ⟨o2, e2, _, n, d2⟩ := (show h.IsTuple a items from p)
    obtain ⟨o3, e3, _, d3⟩ := (show h.IsTupleIter a b i from q)
    rw [e2] at e3
    cases e3
    rw [d2] at d3
    cases d3
theorem seqH_lt (x : SeqH t h a items) : a < h.objs.size := by
  cases t
  · obtain ⟨o, e, _⟩ := (show h.IsList a items from x)
    exact Heap.lt_size e
  · obtain ⟨o, e, _⟩ := (show h.IsTuple a items from x)
    exact Heap.lt_size e
end
section
variable {X : Cx} {pins : List (Addr × Obj)} {σ : L2.St} {H : Hp} {s : Shared} {t : Bool} {a : Addr} {xs ys : List V}
theorem sq_seq (I : Inv X pins σ H s) (h : Sq X.K t H a xs) : ∃ its : List Value, Vals xs its ∧ SeqH t s.heap a its.toArray ∧ xs.length ≤ sizeLine := by
  cases t
  · obtain ⟨its, r, p, hz⟩ := I.list (show SqL X.K H a xs from h)
    exact ⟨its, r, p.isList, hz⟩
  · obtain ⟨its, r, p, hz⟩ := I.tuple (show SqT X.K H a xs from h)
    exact ⟨its, r, p, hz⟩
theorem sq_inj (I : Inv X pins σ H s) (h : Sq X.K t H a xs) (h2 : Sq X.K t H a ys) : xs = ys := by
  cases t
  · exact I.list_inj (show SqL X.K H a xs from h) h2
  · exact I.tuple_inj (show SqT X.K H a xs from h) h2
end
/-- two sequences as they stand at each turn, the items in new pairs -/
def Itm (K : PySem.W.Frag) (t u : Bool) (a b : Addr) : It :=
  ⟨fun i H => ∃ xs ys x y, Sq K t H a xs ∧ Sq K u H b ys ∧ xs[i]? = some x ∧ ys[i]? = some y,
   fun i H v H' => ∃ T x y, v = .ref T ∧ H T = none ∧ H' = upd H T (.tup [x, y]) ∧ (∀ xs, Sq K t H a xs → xs[i]? = some x) ∧ ∀ ys, Sq K u H b ys → ys[i]? = some y,
   fun i H => ∃ xs ys, Sq K t H a xs ∧ Sq K u H b ys ∧ i ≤ xs.length ∧ i ≤ ys.length ∧ (i = xs.length ∨ i = ys.length)⟩
def MixSt (t u : Bool) (z TI TO i1 i2 a b : Addr) (i : Nat) (h : Heap) : Prop := IsZip h z TI TO .none ∧ IsTupOf2 h TI (.ref i1) (.ref i2) ∧ (∃ x y, IsTupOf2 h TO x y) ∧ IterH t h i1 a i ∧ IterH u h i2 b i
theorem mem5 {c z TI TO i1 i2 : Addr} (h : c ∈ [z, TI, TO, i1, i2]) : c = z ∨ c = TI ∨ c = TO ∨ c = i1 ∨ c = i2 := by simpa using h
theorem turn_m {P : Program} {w : World} {K : PySem.W.Frag} {elts : List Expr} {kk : Nat} {tpos : Pos} {t u : Bool} {a b z TI TO i1 i2 : Addr} (S : ZipSep2 z TI TO i1 i2 [i1, a] [i2, b]) :
    Turn P w K (.Tuple elts kk tpos) (Itm K t u a b) [z, TI, TO, i1, i2] z (MixSt t u z TI TO i1 i2 a b) where
  mem := List.mem_cons_self ..
  obj := fun i h ⟨hz, hTI, ⟨x, y, hTO⟩, h1, h2⟩ c hc => by
    rcases mem5 hc with rfl | rfl | rfl | rfl | rfl
    · exact ⟨_, hz, fun v q => nomatch q⟩
    · exact ⟨_, hTI, fun v q => nomatch q⟩
    · exact ⟨_, hTO, fun v q => nomatch q⟩
    · exact iterH_ob h1
    · exact iterH_ob h2
  keep := fun i h h' ⟨hz, hTI, ⟨x, y, hTO⟩, h1, h2⟩ k => ⟨k z (by simp) _ hz, k TI (by simp) _ hTI, ⟨x, y, k TO (by simp) _ hTO⟩, iterH_at h1 (k i1 (by simp)), iterH_at h2 (k i2 (by simp))⟩
  item := by
    intro X hP hw hK hc i pins s σ H E I hf st hg
    subst hP hw hK
    obtain ⟨hz, hTI, ⟨x0, y0, hTO⟩, h1, h2⟩ := st
    obtain ⟨xs, ys, x, y, qx, qy, hx, hy⟩ := hg
    obtain ⟨its, rv, p1, _⟩ := sq_seq I qx
    obtain ⟨jts, rv2, p2, _⟩ := sq_seq I qy
    obtain ⟨v1, hv1, rv1⟩ := rv.get hx
    obtain ⟨v2, hv2, rv3⟩ := rv2.get hy
    have hd := I.ok.hd hc
    have ne1 : a ≠ i1 := seq_ne_iter p1 h1
    have ne2 : b ≠ i2 := seq_ne_iter p2 h2
    have zl : z < s.heap.objs.size := Heap.lt_size hz
    have hi1 : i < its.toArray.size := by
      have := (List.getElem?_eq_some_iff.mp hv1).1
      simpa using this
    have hi2 : i < jts.toArray.size := by
      have := (List.getElem?_eq_some_iff.mp hv2).1
      simpa using this
    refine wpAny_pyNext_zipD2_item S (drawsG (t := t) (items := its.toArray) (by simp [hd]) ne1) (drawsG (t := u) (items := jts.toArray) (by simp [hd]) ne2) hz hTI hTO ⟨h1, p1⟩ ⟨h2, p2⟩ hi1 hi2 fun w1 w2 h' tk e1 e2 z' TO' n1 n2 hT hsz hk => ?_
    have e1 : its.toArray[i]? = some w1 := e1
    have e2 : jts.toArray[i]? = some w2 := e2
    obtain rfl : w1 = v1 := by
      rw [List.getElem?_toArray, hv1] at e1
      exact (Option.some.inj e1).symm
    obtain rfl : w2 = v2 := by
      rw [List.getElem?_toArray, hv2] at e2
      exact (Option.some.inj e2).symm
    refine ⟨_, rfl, wpAny_letOwnedTupleGo_zip (s := { s with heap := h', toks := tk }) z' fun g zg sb => ?_⟩
    have neT : s.heap.objs.size ≠ z := Nat.ne_of_gt zl
    have hTg : g.get? s.heap.objs.size = some { cls := .type "tuple", data := .seq #[w1, w2] } := (sb.2 _ neT).trans hT
    have ok' : ObjOk X.prog X.w (upd H s.heap.objs.size (.tup [x, y])) g s.heap.objs.size (.tup [x, y]) := ⟨(by show 2 ≤ sizeLine; decide), [w1, w2], .cons rv1 (.cons rv3 .nil), ⟨_, hTg, rfl, _, rfl⟩⟩
    have J : Inv X pins σ (upd H s.heap.objs.size (.tup [x, y])) { s with heap := g, toks := tk } := I.turnedNew (t' := tk) (ch := [z, TI, TO, i1, i2]) (fun c o hb q => by
      have nz : c ≠ z := fun e => hb (by simp [e])
      exact (sb.2 c nz).trans (hk c o nz (fun e => hb (by simp [e])) (fun e => hb (by simp [e])) (fun e => hb (by simp [e])) q)) hf (Nat.le_refl _) ok'
    have kz : ∀ c o, c ≠ z → h'.get? c = some o → g.get? c = some o := fun c o hc e => (sb.2 c hc).trans e
    refine ⟨.ref s.heap.objs.size, _, J, rfl, ⟨_, x, y, rfl, I.hok.fresh (Nat.le_refl _), rfl, fun l hl => by rw [sq_inj I hl qx]; exact hx, fun l hl => by rw [sq_inj I hl qy]; exact hy⟩, ⟨zg, ?_, ⟨_, _, kz _ _ S.TOz TO'⟩, ?_, ?_⟩, fun c hm => ?_⟩
    · exact kz _ _ S.TIz (hk _ _ S.TIz S.TITO S.TIi1 S.TIi2 hTI)
    · exact iterH_at n1.1 fun o e => kz _ _ (Ne.symm S.zi1) e
    · exact iterH_at n2.1 fun o e => kz _ _ (Ne.symm S.zi2) e
    · have lt : c < s.heap.objs.size := by
        rcases mem5 hm with e | e | e | e | e
        · rw [e]; exact zl
        · rw [e]; exact Heap.lt_size hTI
        · rw [e]; exact Heap.lt_size hTO
        · obtain ⟨o, q, _⟩ := iterH_ob h1
          rw [e]
          exact Heap.lt_size q
        · obtain ⟨o, q, _⟩ := iterH_ob h2
          rw [e]
          exact Heap.lt_size q
      rw [upd_ne (Nat.ne_of_lt lt)]
      exact (hf c hm).1
  done := by
    intro X hP hw hK hc i pins s σ H E I hf st hg
    subst hP hw hK
    obtain ⟨hz, hTI, ⟨x0, y0, hTO⟩, h1, h2⟩ := st
    obtain ⟨xs, ys, qx, qy, l1, l2, hend⟩ := hg
    obtain ⟨its, rv, p1, _⟩ := sq_seq I qx
    obtain ⟨jts, rv2, p2, _⟩ := sq_seq I qy
    have z1 := rv.length
    have z2 := rv2.length
    have hd := I.ok.hd hc
    have y1 : its.toArray.size = xs.length := by rw [List.size_toArray, ← z1]
    have y2 : jts.toArray.size = ys.length := by rw [List.size_toArray, ← z2]
    refine wpAny_pyNext_zipD2_end S (drawsG (t := t) (items := its.toArray) (by simp [hd]) (seq_ne_iter p1 h1)) (drawsG (t := u) (items := jts.toArray) (by simp [hd]) (seq_ne_iter p2 h2)) hz hTI hTO ⟨h1, p1⟩ ⟨h2, p2⟩ (by rw [y1]; exact l1) (by rw [y2]; exact l2) (by rw [y1, y2]; exact hend) fun h' tk hk => ?_
    exact ⟨rfl, I.turnedL (t' := tk) (ch := [z, TI, TO, i1, i2]) (fun c o hb q => hk c o (fun e => hb (by simp [e])) (fun e => hb (by simp [e])) (fun e => hb (by simp [e])) (fun e => hb (by simp [e])) q) hf⟩
  self := fun A i s Q E st h => wpAny_pyIter_zip st.1 h
def iZipM (K : PySem.W.Frag) (t u : Bool) (ta : TA) : TI := fun σ H R => ta σ H fun vs H1 => ∃ a b xs ys, vs = [.ref a, .ref b] ∧ Sq K t H1 a xs ∧ Sq K u H1 b ys ∧ R (Itm K t u a b) H1
theorem pi_zipM (t u : Bool) {X : Cx} {e e2 : Expr} {ta : TA} {p pos tpos : Pos} {elts : List Expr} {kk : Nat} (hg : Gl X "zip") (hm : X.mg "zip" = none) (ha : PA X [e, e2] ta)
    (hs : starEach [e, e2] X.env = (false, eval e X.env) :: starEach [e2] X.env := by rfl) (hpl : (backTo pos (starEach [e2] X.env)).any (·.1) = false := by rfl) :
    PI X (.Tuple elts kk tpos) (.Call (.Name "zip" p) [e, e2] [] pos) (iZipM X.K t u ta) := by
  refine ⟨fun pins s σ H R I h => Call_ (ld_blt I hg hm PyProof.Rows.boot_zip (PyProof.Rows.callWith_type1 (thn (ha.run pos pins s σ H _ I h) fun us s1 ⟨vs, H1, I1, r1, q1⟩ => ?_) hs hpl))⟩
  obtain ⟨a, b, xs, ys, rfl, qx, qy, q⟩ := q1
  cases r1 with
  | cons r rr =>
  cases rr with
  | cons r' rr =>
  cases rr
  cases r
  cases r'
  obtain ⟨its, rv, p1, _⟩ := sq_seq I1 qx
  obtain ⟨jts, rv2, p2, _⟩ := sq_seq I1 qy
  refine zip_begins2 (beginsG (t := t) (items := its.toArray)) (beginsG (t := u) (items := jts.toArray)) p1 p2 fun h' hz hTI hTO o1 o2 hsz hk => wpAny_pyIter_zip hz ?_
  have J : Inv X pins σ H1 { s1 with heap := h' } := I1.kept (t' := s1.toks) hk
  have la := seqH_lt p1
  have lb := seqH_lt p2
  refine ⟨s1.heap.objs.size + 4, [s1.heap.objs.size + 4, s1.heap.objs.size + 2, s1.heap.objs.size + 3, s1.heap.objs.size, s1.heap.objs.size + 1], _, _, H1, rfl, J, turn_m (t := t) (u := u) (zip_sep2 (fp1 := [a]) (fp2 := [b]) (fun c hc => by rw [List.mem_singleton.mp hc]; exact la) (fun c hc => by rw [List.mem_singleton.mp hc]; exact lb)), ⟨hz, hTI, ⟨_, _, hTO⟩, iterH_new o1, iterH_new o2⟩, fun c hm => ?_, q⟩
  have le : s1.heap.objs.size ≤ c := by
    rcases mem5 hm with e | e | e | e | e
    · rw [e]; exact Nat.le_add_right _ _
    · rw [e]; exact Nat.le_add_right _ _
    · rw [e]; exact Nat.le_add_right _ _
    · rw [e]; exact Nat.le_refl _
    · rw [e]; exact Nat.le_add_right _ _
  exact I1.fpOk le (I1.hok.fresh le)
/-- its turns -/
theorem walk_m {K : PySem.W.Frag} {t u : Bool} {a b : Addr} {xs ys : List V} {n : Nat} (h1 : xs.length = n) (h2 : ys.length = n) : Walk (Itm K t u a b) n (fun H => Sq K t H a xs ∧ Sq K u H b ys) (YPair (fun i => xs[i]?) (fun i => ys[i]?)) := by
  refine ⟨fun i H hi q => ⟨xs, ys, xs[i]'(by omega), ys[i]'(by omega), q.1, q.2, List.getElem?_eq_getElem (by omega), List.getElem?_eq_getElem (by omega)⟩, fun H q => ⟨xs, ys, q.1, q.2, by omega, by omega, .inl h1.symm⟩, fun i H v H' hi q y => ?_⟩
  obtain ⟨T, x, y', e, n, e', k1, k2⟩ := y
  exact ⟨T, x, y', e, n, e', k1 xs q.1, k2 ys q.2⟩
/-- data: zip of a list and a list, or of a list and a tuple, told by the items -/
def seqD (t : Bool) (ds : List PyData) : PyData := if t then .tuple ds else .list ds
theorem rt_seqD {K : PySem.W.Frag} {B : Hp} {v : V} {t : Bool} {ds : List PyData} (h : Rt K B v (seqD t ds)) : ∃ a xs, v = .ref a ∧ Sq K t B a xs ∧ DpAll K B xs ds := by
  cases t
  · have h := (show Rt K B v (.list ds) from h).dp rfl
    cases h with
    | lst hs ha => exact ⟨_, _, rfl, hs, ha⟩
  · have h := (show Rt K B v (.tuple ds) from h).dp rfl
    cases h with
    | tup hs ha => exact ⟨_, _, rfl, hs, ha⟩
theorem sq_ex {K : PySem.W.Frag} {H H' : Hp} {t : Bool} {a : Addr} {xs : List V} (e : Ex H H') (h : Sq K t H a xs) : Sq K t H' a xs := by
  cases t
  · exact ex_l e h
  · exact ex_t e h
theorem di_zip {K : PySem.W.Frag} {G : List (Option PyData)} {t u : Bool} {ta : TA} {j k n : Nat} {ds es : List PyData} (h : DA K ta G [seqD t ds, seqD u es]) (h1 : ds.length = n) (h2 : es.length = n) :
    DI K (iZipM K t u ta) (gTup K 2 (gCons (gName j) (gCons (gName k) gNil))) [j, k] G n (fun i G2 => (G2.set j ds[i]?).set k es[i]?) := fun σ B H x en R q =>
  h σ B H x en _ fun vs B1 H1 g1 r1 => by
    cases r1 with
    | cons r1 rr =>
    cases rr with
    | cons r2 rr =>
    cases rr
    obtain ⟨a, xs, rfl, s1, d1⟩ := rt_seqD r1
    obtain ⟨b, ys, rfl, s2, d2⟩ := rt_seqD r2
    have l1 := dps_len d1
    have l2 := dps_len d2
    refine ⟨a, b, xs, ys, rfl, sq_ex g1.sub s1, sq_ex g1.sub s2, ?_⟩
    refine q (Itm K t u a b) B1 H1 (YPair (fun i => xs[i]?) (fun i => ys[i]?)) g1 ?_ fun i hi B2 H2 σ2 G2 y H3 e1 e2 en2 hy Q kk => ?_
    · exact (walk_m (l1.trans h1) (l2.trans h2)).mono (fun H2 e => ⟨sq_ex e s1, sq_ex e s2⟩) fun _ _ _ _ _ _ y => y
    · obtain ⟨T, y1, y2, rfl, hT, rfl, k1, k2⟩ := hy
      have hd1 : ds[i]? = some (ds[i]'(by omega)) := List.getElem?_eq_getElem (by omega)
      have hd2 : es[i]? = some (es[i]'(by omega)) := List.getElem?_eq_getElem (by omega)
      obtain ⟨w1, m1, n1⟩ := dps_get d1 hd1
      obtain ⟨w2, m2, n2⟩ := dps_get d2 hd2
      obtain rfl : y1 = w1 := Option.some.inj (k1.symm.trans m1)
      obtain rfl : y2 = w2 := Option.some.inj (k2.symm.trans m2)
      have gn : Go B2 H2 B2 (upd H2 T (.tup [y1, y2])) := Go.own e2 hT
      refine ⟨T, _, rfl, .inl (.inl upd_same), rfl, _, _, rfl, _, _, rfl, rfl, ?_⟩
      refine kk _ B2 _ gn ?_ fun vs hv => ?_
      · show En K _ _ ((G2.set j ds[i]?).set k es[i]?)
        rw [hd1, hd2]
        exact (en2.set j (.d (dp_ex e1 _ _ n1))).set k (.d (dp_ex e1 _ _ n2))
      · rw [wipe_set (hv k (by simp)), wipe_set (hv j (by simp))]
end FG
/-! list(zip(..)): the zip object drawn from while what it gave is kept. -/
namespace FG
open PySem PySem.Spec PyProof.Rows L2 FC
open Evl (Ex)
section
variable {prog : Program} {w : World} {A : Around} {E : Value → Shared → Prop} {s : Shared} {z TI TO T i1 i2 : Addr} {f : Bool} {oT : Obj} {fp1 fp2 : List Addr} {n1 n2 i : Nat} {P1 P2 : Nat → Value → Prop} {St1 St2 : Nat → Heap → Prop}
theorem held_item {Q : Value → Shared → Prop} (S : ZipSep2 z TI TO i1 i2 fp1 fp2) (D1 : Draws prog w A i1 fp1 n1 P1 St1) (D2 : Draws prog w A i2 fp2 n2 P2 St2)
    (hz : IsZipHeld s.heap z TI TO T f) (hT : s.heap.get? T = some oT) (hTI : IsTupOf2 s.heap TI (.ref i1) (.ref i2)) (st1 : St1 i s.heap) (st2 : St2 i s.heap) (l1 : i < n1) (l2 : i < n2)
    (hQ : ∀ x1 x2 h' tk, P1 i x1 → P2 i x2 → IsZipHeld h' z TI TO T true → St1 (i + 1) h' → St2 (i + 1) h' → IsTupOf2 h' s.heap.objs.size x1 x2 → (∀ c o, c ≠ z → c ≠ i1 → c ≠ i2 → s.heap.get? c = some o → h'.get? c = some o) → Q (.ref s.heap.objs.size) { s with heap := h', toks := tk }) :
    wpAny (model prog w) A (Builtin.«zip.__next__» ⟨[.ref z], []⟩) (fun fin s' => ∃ v, fin = .done (.ret v) ∧ Q v s') E s := by
  obtain ⟨hp, g, d, tk0, os⟩ := s
  refine wpAny_bind (m := field (.ref z) 2) (wpAny_field hz rfl (x := .bool false) rfl (wpAny_bind (m := field (.ref z) 3) (wpAny_field hz rfl (x := .ref TI) rfl (wpAny_bind (wpAny_seqItems hTI rfl ?_)))))
  refine wpAny_bind (m := Builtin.SmallTypes.ownedTupleIsFree (.ref z)) (wpAny_tupleHeld_zip hz hT fun h1 hz1 hs1 => ?_)
  replace hs1 : Heap.SameBut z hp h1 := hs1
  simp only [Bool.false_eq_true, if_false]
  refine wpAny_bind ?_
  rw [← Array.forIn_toList]
  simp only [List.forIn_cons, List.forIn_nil]
  refine wpAny_bind (wpAny_bind (wpAny_holding (wpAny_bind (m := Builtin.SmallTypes.nextOf (.ref i1)) (D1.item i ⟨h1, g, d, tk0, os⟩ _ _ l1 (D1.over st1 hs1 S.zf1) fun x1 h2 tk1 p1 sn1 hs2 => wpAny_pure (wpAny_pure ?_)))))
  replace hs2 : Heap.SameBut i1 h1 h2 := hs2
  refine wpAny_bind (wpAny_bind (wpAny_holding (wpAny_bind (m := Builtin.SmallTypes.nextOf (.ref i2)) (D2.item i ⟨h2, g, d, tk1, os⟩ _ _ l2 (D2.over (D2.over st2 hs1 S.zf2) hs2 S.sep1_2) fun x2 h3 tk2 p2 sn2 hs3 => wpAny_pure (wpAny_pure (wpAny_pure ?_))))))
  replace hs3 : Heap.SameBut i2 h2 h3 := hs3
  refine wpAny_bind (m := newTuple [x1, x2]) (wpAny_newTuple (wpAny_pure ⟨_, rfl, ?_⟩))
  have sz : h3.objs.size = hp.objs.size := by rw [hs3.1, hs2.1, hs1.1]
  have z3 : IsZipHeld h3 z TI TO T true := hs3.extBut _ _ S.zi2 (hs2.extBut _ _ S.zi1 hz1)
  have new : IsTupOf2 (h3.push { cls := .type "tuple", data := .seq #[x1, x2] }) h3.objs.size x1 x2 := Heap.get?_push_size _ rfl
  have kp : ∀ c o, h3.get? c = some o → (h3.push { cls := .type "tuple", data := .seq #[x1, x2] }).get? c = some o := fun c o e => Heap.get?_push_of_some _ e
  show Q (.ref h3.objs.size) _
  rw [sz] at new ⊢
  exact hQ x1 x2 _ tk2 p1 p2 (kp _ _ z3) (D1.frame _ _ _ (D1.over sn1 hs3 S.sep2_1) fun b _ o e => kp b o e) (D2.frame _ _ _ sn2 fun b _ o e => kp b o e) new fun c o c1 c2 c3 e => kp c o (hs3.extBut _ _ c3 (hs2.extBut _ _ c2 (hs1.extBut _ _ c1 e)))
theorem held_end {Q : Fin → Shared → Prop} (S : ZipSep2 z TI TO i1 i2 fp1 fp2) (D1 : Draws prog w A i1 fp1 n1 P1 St1)
    (hz : IsZipHeld s.heap z TI TO T f) (hT : s.heap.get? T = some oT) (hTI : IsTupOf2 s.heap TI (.ref i1) (.ref i2)) (st1 : St1 n1 s.heap)
    (hE : ∀ h' tk e, (∀ c o, c ≠ z → c ≠ i1 → s.heap.get? c = some o → h'.get? c = some o) → (∃ o, h'.get? e = some o ∧ o.cls = .type "StopIteration") → E (.ref e) { s with heap := h', toks := tk }) :
    wpAny (model prog w) A (Builtin.«zip.__next__» ⟨[.ref z], []⟩) Q E s := by
  obtain ⟨hp, g, d, tk0, os⟩ := s
  refine wpAny_bind (m := field (.ref z) 2) (wpAny_field hz rfl (x := .bool false) rfl (wpAny_bind (m := field (.ref z) 3) (wpAny_field hz rfl (x := .ref TI) rfl (wpAny_bind (wpAny_seqItems hTI rfl ?_)))))
  refine wpAny_bind (m := Builtin.SmallTypes.ownedTupleIsFree (.ref z)) (wpAny_tupleHeld_zip hz hT fun h1 hz1 hs1 => ?_)
  replace hs1 : Heap.SameBut z hp h1 := hs1
  simp only [Bool.false_eq_true, if_false]
  refine wpAny_bind ?_
  rw [← Array.forIn_toList]
  simp only [List.forIn_cons, List.forIn_nil]
  refine wpAny_bind (wpAny_bind (wpAny_holding (wpAny_bind (m := Builtin.SmallTypes.nextOf (.ref i1)) (D1.done ⟨h1, g, d, tk0, os⟩ _ _ (D1.over st1 hs1 S.zf1) fun h2 e hs2 he => hE h2 tk0 e (fun c o c1 c2 x => hs2 _ _ c2 (hs1.extBut _ _ c1 x)) he))))
theorem next_held_item {Q : Option Value → Shared → Prop} (S : ZipSep2 z TI TO i1 i2 fp1 fp2) (D1 : Draws prog w A.in1 i1 fp1 n1 P1 St1) (D2 : Draws prog w A.in1 i2 fp2 n2 P2 St2)
    (hz : IsZipHeld s.heap z TI TO T f) (hT : s.heap.get? T = some oT) (hTI : IsTupOf2 s.heap TI (.ref i1) (.ref i2)) (st1 : St1 i s.heap) (st2 : St2 i s.heap) (l1 : i < n1) (l2 : i < n2)
    (hQ : ∀ x1 x2 h' tk, P1 i x1 → P2 i x2 → IsZipHeld h' z TI TO T true → St1 (i + 1) h' → St2 (i + 1) h' → IsTupOf2 h' s.heap.objs.size x1 x2 → (∀ c o, c ≠ z → c ≠ i1 → c ≠ i2 → s.heap.get? c = some o → h'.get? c = some o) → Q (some (.ref s.heap.objs.size)) { s with heap := h', toks := tk }) :
    wpAny (model prog w) A (pyNext (.ref z)) Q E s := by
  have ty : s.TypeIs (.ref z) "zip" := ⟨_, hz, rfl⟩
  unfold pyNext
  exact wpAny_bind (wpAny_attempt (wpAny_callSpecial?_slot (name := Str.ofString "__next__") ty F.slot_zip_next (wpAny_call_entry F.slot_zip_next ty F.entry_zip_next (held_item S D1 D2 hz hT hTI st1 st2 l1 l2 fun x1 x2 h' tk a b c d e f g => wpAny_pure (hQ x1 x2 h' tk a b c d e f g)) (F.args_zip_next_1 _))))
theorem next_held_end {Q : Option Value → Shared → Prop} (S : ZipSep2 z TI TO i1 i2 fp1 fp2) (D1 : Draws prog w A.in1 i1 fp1 n1 P1 St1)
    (hz : IsZipHeld s.heap z TI TO T f) (hT : s.heap.get? T = some oT) (hTI : IsTupOf2 s.heap TI (.ref i1) (.ref i2)) (st1 : St1 n1 s.heap)
    (hQ : ∀ h' tk, (∀ c o, c ≠ z → c ≠ i1 → s.heap.get? c = some o → h'.get? c = some o) → Q none { s with heap := h', toks := tk }) : wpAny (model prog w) A (pyNext (.ref z)) Q E s := by
  have ty : s.TypeIs (.ref z) "zip" := ⟨_, hz, rfl⟩
  unfold pyNext
  refine wpAny_bind (wpAny_attempt (wpAny_callSpecial?_slot (name := Str.ofString "__next__") ty F.slot_zip_next (wpAny_call_entry F.slot_zip_next ty F.entry_zip_next (held_end S D1 hz hT hTI st1 fun h' tk e hk he => ?_) (F.args_zip_next_1 _))))
  obtain ⟨o, ho, hc⟩ := he
  exact wpAny_bind (wpAny_isInstance (T := "StopIteration") (b := true) ⟨o, ho, hc⟩ isSubtype_stop (wpAny_pure (hQ _ _ hk)))
end
end FG
/-! list(zip(..)), continued: the loop, the call. -/
namespace FG
open PySem PySem.Spec PyProof.Rows L2 FC
open Evl (Ex)
/-- how far a zip is drawn from, and what it gave -/
structure ZInv (t u : Bool) (z TI TO i1 i2 a b S : Addr) (its jts : Array Value) (h0 : Heap) (i : Nat) (Ts : List Addr) (h : Heap) : Prop where
  st : (i = 0 ∧ IsZip h z TI TO .none ∧ ∃ x y, IsTupOf2 h TO x y) ∨ ∃ T r f, Ts = T :: r ∧ IsZipHeld h z TI TO T f
  ti : IsTupOf2 h TI (.ref i1) (.ref i2)
  s1 : IterH t h i1 a i ∧ SeqH t h a its
  s2 : IterH u h i2 b i ∧ SeqH u h b jts
  len : Ts.length = i
  made : ∀ (j : Nat) (T : Addr), Ts[j]? = some T → ∃ x y, its[j]? = some x ∧ jts[j]? = some y ∧ IsTupOf2 h T x y
  far : ∀ T ∈ Ts, T ≠ S ∧ T ≠ z ∧ T ≠ TO ∧ T ≠ i1 ∧ T ≠ i2 ∧ h0.objs.size ≤ T
  nd : Ts.Nodup
  old : ∀ c o, c ≠ S → c ≠ z → c ≠ TO → c ≠ i1 → c ≠ i2 → h0.get? c = some o → h.get? c = some o
structure ZApart (z TI TO i1 i2 a b S : Addr) : Prop where
  sep : ZipSep2 z TI TO i1 i2 [i1, a] [i2, b]
  Sz : S ≠ z
  STI : S ≠ TI
  STO : S ≠ TO
  Si1 : S ≠ i1
  Si2 : S ≠ i2
  Sa : S ≠ a
  Sb : S ≠ b
abbrev ListO (acc : Array Value) (c : Nat) : Obj := { cls := .type "list", dict := none, data := .seq acc c, slots := #[] }
section
variable {prog : Program} {w : World} {A : Around} {E : Value → Shared → Prop} {s : Shared} {t u : Bool} {z TI TO i1 i2 a b S : Addr} {its jts : Array Value} {h0 : Heap}
theorem ZInv.lt {i : Nat} {Ts : List Addr} {h : Heap} (Z : ZInv t u z TI TO i1 i2 a b S its jts h0 i Ts h) : z < h.objs.size ∧ i1 < h.objs.size ∧ i2 < h.objs.size := by
  refine ⟨?_, ?_, ?_⟩
  · rcases Z.st with ⟨_, q, _⟩ | ⟨_, _, _, _, q⟩ <;> exact Heap.lt_size q
  · obtain ⟨o, q, _⟩ := iterH_ob Z.s1.1
    exact Heap.lt_size q
  · obtain ⟨o, q, _⟩ := iterH_ob Z.s2.1
    exact Heap.lt_size q
theorem ZInv.keep {i : Nat} {Ts : List Addr} {h h' : Heap} (D : ZApart z TI TO i1 i2 a b S) (Z : ZInv t u z TI TO i1 i2 a b S its jts h0 i Ts h) (k : ∀ c o, c ≠ S → h.get? c = some o → h'.get? c = some o) : ZInv t u z TI TO i1 i2 a b S its jts h0 i Ts h' where
  st := by
    rcases Z.st with ⟨e, q, x, y, r⟩ | ⟨T, r, f, e, q⟩
    · exact .inl ⟨e, k _ _ D.Sz.symm q, x, y, k _ _ D.STO.symm r⟩
    · exact .inr ⟨T, r, f, e, k _ _ D.Sz.symm q⟩
  ti := k _ _ D.STI.symm Z.ti
  s1 := ⟨iterH_at Z.s1.1 fun o e => k _ _ D.Si1.symm e, seqH_at Z.s1.2 fun o e => k _ _ D.Sa.symm e⟩
  s2 := ⟨iterH_at Z.s2.1 fun o e => k _ _ D.Si2.symm e, seqH_at Z.s2.2 fun o e => k _ _ D.Sb.symm e⟩
  len := Z.len
  made := fun j T e => by
    obtain ⟨x, y, p, q, r⟩ := Z.made j T e
    exact ⟨x, y, p, q, k _ _ (Z.far T (List.mem_of_getElem? e)).1 r⟩
  far := Z.far
  nd := Z.nd
  old := fun c o c1 c2 c3 c4 c5 e => k c o c1 (Z.old c o c1 c2 c3 c4 c5 e)
theorem ZInv.step {i : Nat} {Ts : List Addr} {h h' : Heap} {T : Addr} {x y : Value} (D : ZApart z TI TO i1 i2 a b S) (Z : ZInv t u z TI TO i1 i2 a b S its jts h0 i Ts h)
    (st : ∃ T0 r f, Ts ++ [T] = T0 :: r ∧ IsZipHeld h' z TI TO T0 f) (s1 : IterH t h' i1 a (i + 1) ∧ SeqH t h' a its) (s2 : IterH u h' i2 b (i + 1) ∧ SeqH u h' b jts) (hx : its[i]? = some x) (hy : jts[i]? = some y) (new : IsTupOf2 h' T x y)
    (fr : h.get? T = none) (f0 : h0.objs.size ≤ T) (nS : T ≠ S) (nTO : T ≠ TO) (k : ∀ c o, c ≠ z → c ≠ TO → c ≠ i1 → c ≠ i2 → h.get? c = some o → h'.get? c = some o) : ZInv t u z TI TO i1 i2 a b S its jts h0 (i + 1) (Ts ++ [T]) h' where
  st := .inr st
  ti := k _ _ D.sep.TIz D.sep.TITO D.sep.TIi1 D.sep.TIi2 Z.ti
  s1 := s1
  s2 := s2
  len := by rw [List.length_append, Z.len]; rfl
  made := fun j T' e => by
    by_cases hj : j < Ts.length
    · rw [List.getElem?_append_left hj] at e
      obtain ⟨x', y', p, q, r⟩ := Z.made j T' e
      obtain ⟨_, g1, g2, g3, g4, _⟩ := Z.far T' (List.mem_of_getElem? e)
      exact ⟨x', y', p, q, k _ _ g1 g2 g3 g4 r⟩
    · have l := (List.getElem?_eq_some_iff.mp e).1
      rw [List.length_append] at l
      have l : j < Ts.length + 1 := l
      obtain rfl : j = Ts.length := by omega
      rw [List.getElem?_append_right (Nat.le_refl _), Nat.sub_self] at e
      obtain rfl : T = T' := Option.some.inj e
      rw [Z.len]
      exact ⟨x, y, hx, hy, new⟩
  far := fun T' hm => by
    rcases List.mem_append.mp hm with hm | hm
    · exact Z.far T' hm
    · rw [List.mem_singleton.mp hm]
      refine ⟨nS, fun e => ?_, nTO, fun e => ?_, fun e => ?_, f0⟩
      · have lz : z < h.objs.size := Z.lt.1
        rcases Z.st with ⟨_, q, _⟩ | ⟨_, _, _, _, q⟩
        · have q : h.get? z = some _ := q
          rw [← e, fr] at q
          cases q
        · have q : h.get? z = some _ := q
          rw [← e, fr] at q
          cases q
      · obtain ⟨o, q, _⟩ := iterH_ob Z.s1.1
        rw [← e, fr] at q
        cases q
      · obtain ⟨o, q, _⟩ := iterH_ob Z.s2.1
        rw [← e, fr] at q
        cases q
  nd := by
    refine List.nodup_append.mpr ⟨Z.nd, by simp, fun T' h1 T2 h2 e => ?_⟩
    rw [List.mem_singleton.mp h2] at e
    subst e
    obtain ⟨j, e⟩ := List.getElem?_of_mem h1
    obtain ⟨_, _, _, _, q⟩ := Z.made j _ e
    have q : h.get? T' = some _ := q
    rw [fr] at q
    cases q
  old := fun c o c1 c2 c3 c4 c5 e => k c o c2 c3 c4 c5 (Z.old c o c1 c2 c3 c4 c5 e)
theorem size_none (h : Heap) : h.get? h.objs.size = none := by
  cases e : h.get? h.objs.size with
  | none => rfl
  | some o => exact absurd (Heap.lt_size e) (Nat.lt_irrefl _)
/-- what is left of it at the end -/
structure ZEnd (S : Addr) (its jts : Array Value) (h0 : Heap) (n : Nat) (Ts : List Addr) (z TO i1 i2 : Addr) (h : Heap) : Prop where
  len : Ts.length = n
  made : ∀ (j : Nat) (T : Addr), Ts[j]? = some T → ∃ x y, its[j]? = some x ∧ jts[j]? = some y ∧ IsTupOf2 h T x y
  far : ∀ T ∈ Ts, T ≠ S ∧ h0.objs.size ≤ T
  nd : Ts.Nodup
  old : ∀ c o, c ≠ S → c ≠ z → c ≠ TO → c ≠ i1 → c ≠ i2 → h0.get? c = some o → h.get? c = some o
theorem ZInv.fin {i : Nat} {Ts : List Addr} {h h' : Heap} (Z : ZInv t u z TI TO i1 i2 a b S its jts h0 i Ts h) (k : ∀ c o, c ≠ z → c ≠ TO → c ≠ i1 → c ≠ i2 → h.get? c = some o → h'.get? c = some o) : ZEnd S its jts h0 i Ts z TO i1 i2 h' :=
  ⟨Z.len, fun j T e => by
    obtain ⟨x, y, p, q, r⟩ := Z.made j T e
    obtain ⟨_, g1, g2, g3, g4, _⟩ := Z.far T (List.mem_of_getElem? e)
    exact ⟨x, y, p, q, k _ _ g1 g2 g3 g4 r⟩, fun T h => ⟨(Z.far T h).1, (Z.far T h).2.2.2.2.2⟩, Z.nd, fun c o c1 c2 c3 c4 c5 e => k c o c2 c3 c4 c5 (Z.old c o c1 c2 c3 c4 c5 e)⟩
theorem zip_loop {R : Result → Shared → Prop} (hh : A.handled = none) (D : ZApart z TI TO i1 i2 a b S) (n : Nat) (e1 : its.size = n) (e2 : jts.size = n) (hn : n ≤ 1000) (res : Value) :
    ∀ (k i : Nat) (Ts : List Addr) (s : Shared) (c : Nat), n - i = k → i ≤ n → (∀ c, s.heap.objs.size ≤ c → h0.objs.size ≤ c ∧ c ≠ TO) → ZInv t u z TI TO i1 i2 a b S its jts h0 i Ts s.heap → s.heap.get? S = some (ListO (Ts.map Value.ref).toArray c) →
      (∀ h' tk Ts' c', ZEnd S its jts h0 n Ts' z TO i1 i2 h' → h'.get? S = some (ListO (Ts'.map Value.ref).toArray c') → R (.ok (.ret res)) { s with heap := h', toks := tk }) →
      codeAny (model prog w) A (.builtin "list.extend.loop" ⟨[.ref S, .ref z, res], []⟩) R s := by
  have hd2 : A.in1.in1.handled = none := by simp [hh]
  intro k
  induction k with
  | zero =>
    intro i Ts s c hk hi lt0 Z hS hR
    obtain rfl : i = n := by omega
    have D1 := drawsG (prog := prog) (w := w) (A := A.in1.in1) (t := t) (items := its) hd2 (seq_ne_iter Z.s1.2 Z.s1.1)
    have D2 := drawsG (prog := prog) (w := w) (A := A.in1.in1) (t := u) (items := jts) hd2 (seq_ne_iter Z.s2.2 Z.s2.1)
    refine codeAny_builtin F.entry_extend_loop ?_
    rw [Around.under_plainId F.plain_extend_loop _]
    have fin : ∀ h' tk, (∀ c o, c ≠ z → c ≠ TO → c ≠ i1 → c ≠ i2 → s.heap.get? c = some o → h'.get? c = some o) → R (.ok (.ret res)) { s with heap := h', toks := tk } := fun h' tk k =>
      hR h' tk Ts c (Z.fin k) (k _ _ D.Sz D.STO D.Si1 D.Si2 hS)
    rcases Z.st with ⟨e, q, x, y, r⟩ | ⟨T, r, f, e, q⟩
    · exact wpAny_bind (m := pyNext (.ref z)) (wpAny_pyNext_zipD2_end D.sep D1 D2 q Z.ti r Z.s1 Z.s2 (by omega) (by omega) (.inl e1.symm) fun h' tk hk => wpAny_pure (fin h' tk hk))
    · obtain ⟨x, y, _, _, hT⟩ := Z.made 0 T (by rw [e]; rfl)
      exact wpAny_bind (m := pyNext (.ref z)) (next_held_end D.sep D1 q hT Z.ti (by rw [e1]; exact Z.s1) fun h' tk hk => wpAny_pure (fin h' tk fun c o c1 _ c3 _ => hk c o c1 c3))
  | succ k ih =>
    intro i Ts s c hk hi lt0 Z hS hR
    have hlt : i < n := by omega
    have D1 := drawsG (prog := prog) (w := w) (A := A.in1.in1) (t := t) (items := its) hd2 (seq_ne_iter Z.s1.2 Z.s1.1)
    have D2 := drawsG (prog := prog) (w := w) (A := A.in1.in1) (t := u) (items := jts) hd2 (seq_ne_iter Z.s2.2 Z.s2.1)
    refine codeAny_builtin F.entry_extend_loop ?_
    rw [Around.under_plainId F.plain_extend_loop _]
    have lenT := Z.len
    have lS : S < s.heap.objs.size := Heap.lt_size hS
    obtain ⟨f0, nTO⟩ := lt0 s.heap.objs.size (Nat.le_refl _)
    have nS : s.heap.objs.size ≠ S := Nat.ne_of_gt lS
    have go : ∀ h' tk, ZInv t u z TI TO i1 i2 a b S its jts h0 (i + 1) (Ts ++ [s.heap.objs.size]) h' → h'.get? S = some (ListO (Ts.map Value.ref).toArray c) → s.heap.objs.size ≤ h'.objs.size →
        wpAny (model prog w) A.in1 (updateSeq S (·.push (.ref s.heap.objs.size)) >>= fun _ => again (.builtin "list.extend.loop" ⟨[.ref S, .ref z, res], []⟩)) (fun fin s' => match fin with | .done f => R (.ok f) s' | .again c' => c'.quiet = true ∧ codeAny (model prog w) A c' R s') (fun e s' => R (.error e) s') { s with heap := h', toks := tk } := fun h' tk Z' hS' le => by
      have hA : (Ts.map Value.ref).toArray.push (.ref s.heap.objs.size) = ((Ts ++ [s.heap.objs.size]).map Value.ref).toArray := by simp
      obtain ⟨c2, hS2⟩ : ∃ c2, (h'.update S (Obj.mapSeq (·.push (.ref s.heap.objs.size)))).get? S = some (ListO ((Ts.map Value.ref).toArray.push (.ref s.heap.objs.size)) c2) := ⟨_, Heap.get?_update_self _ hS' rfl⟩
      rw [hA] at hS2
      refine wpAny_bind (wpAny_updateSeq hS' rfl (wpAny_pure ⟨plainId_quiet F.plain_extend_loop _, ih (i + 1) (Ts ++ [s.heap.objs.size]) _ c2 (by omega) hlt (fun c hc => ?_) (Z'.keep D fun c o hc e => (Heap.get?_update_other _ _ (Ne.symm hc)).trans e) hS2 fun h2 tk2 Ts2 c2 zE zS => hR h2 tk2 Ts2 c2 zE zS⟩) ?_ ?_)
      · refine lt0 c (Nat.le_trans le ?_)
        have hc : (h'.update S (Obj.mapSeq (·.push (.ref s.heap.objs.size)))).objs.size ≤ c := hc
        rwa [Heap.size_update] at hc
      · rw [List.size_toArray, List.length_map, lenT]
        exact Nat.le_trans (show i ≤ 1000 by omega) (by decide)
      · rw [hA, List.size_toArray, List.length_map, List.length_append, lenT]
        exact Nat.le_trans (show i + 1 ≤ 1001 by omega) (by decide)
    have i1' : i < its.size := by omega
    have i2' : i < jts.size := by omega
    have alive : s.heap.get? s.heap.objs.size = none := size_none _
    rcases Z.st with ⟨e, q, r⟩ | ⟨T, r, f, e, q⟩
    · subst e
      obtain rfl : Ts = [] := List.eq_nil_of_length_eq_zero lenT
      obtain ⟨x, y, r⟩ := r
      refine wpAny_bind (m := pyNext (.ref z)) (wpAny_pyNext_zipD2_item D.sep D1 D2 q Z.ti r Z.s1 Z.s2 i1' i2' fun x1 x2 h' tk p1 p2 z' TO' n1 n2 hT hsz hk => ?_)
      refine go h' tk (Z.step D ⟨_, [], false, rfl, z'⟩ n1 n2 p1 p2 hT alive f0 nS nTO hk) (hk _ _ D.Sz D.STO D.Si1 D.Si2 hS) (by rw [hsz]; exact Nat.le_succ _)
    · obtain ⟨x, y, _, _, hT⟩ := Z.made 0 T (by rw [e]; rfl)
      refine wpAny_bind (m := pyNext (.ref z)) (next_held_item D.sep D1 D2 q hT Z.ti Z.s1 Z.s2 i1' i2' fun x1 x2 h' tk p1 p2 z' n1 n2 hT' hk => ?_)
      refine go h' tk (Z.step D ⟨T, r ++ [s.heap.objs.size], true, by rw [e]; rfl, z'⟩ n1 n2 p1 p2 hT' alive f0 nS nTO fun c o c1 _ c3 c4 e => hk c o c1 c3 c4 e) (hk _ _ D.Sz D.Si1 D.Si2 hS) (Nat.le_of_lt (Heap.lt_size hT'))
theorem zip_no_len : typeLookup (.type "zip") "__len__" = pure none := am_miss_of_fast (by decide +kernel)
theorem zip_no_hint : typeLookup (.type "zip") "__length_hint__" = pure none := am_miss_of_fast (by decide +kernel)
end
end FG
/-! list(zip(..)), the end: what is told of it. -/
namespace FG
open PySem PySem.Spec PyProof.Rows L2 FC
open Evl (Ex)
def updAll (H : Hp) : List (Addr × HO) → Hp
  | [] => H
  | p :: r => upd (updAll H r) p.1 p.2
theorem updAll_old {H : Hp} : ∀ {news : List (Addr × HO)} {b : Addr}, (∀ p ∈ news, p.1 ≠ b) → updAll H news b = H b
  | [], _, _ => rfl
  | p :: r, b, h => by
    show upd (updAll H r) p.1 p.2 b = _
    rw [upd_ne (Ne.symm (h p (List.mem_cons_self ..))), updAll_old fun q hq => h q (List.mem_cons_of_mem _ hq)]
theorem updAll_at {H : Hp} : ∀ {news : List (Addr × HO)} {b : Addr} {o : HO}, updAll H news b = some o → H b = some o ∨ ∃ p ∈ news, p.1 = b ∧ p.2 = o
  | [], _, _, h => .inl h
  | p :: r, b, o, h => by
    by_cases e : b = p.1
    · have h : upd (updAll H r) p.1 p.2 b = some o := h
      rw [e, upd_same] at h
      exact .inr ⟨p, List.mem_cons_self .., e.symm, Option.some.inj h⟩
    · have h : upd (updAll H r) p.1 p.2 b = some o := h
      rw [upd_ne e] at h
      rcases updAll_at h with h | ⟨q, hq, h1, h2⟩
      · exact .inl h
      · exact .inr ⟨q, List.mem_cons_of_mem _ hq, h1, h2⟩
section
variable {X : Cx} {pins : List (Addr × Obj)} {σ : L2.St} {H : Hp} {s : Shared} {h' : Heap} {t' : Nat}
theorem inv_news (I : Inv X pins σ H s) (k : ∀ b u, s.heap.get? b = some u → h'.get? b = some u) (news : List (Addr × HO)) (hp : ∀ p ∈ news, s.heap.objs.size ≤ p.1) (ok : ∀ p ∈ news, ∀ H, ObjOk X.prog X.w H h' p.1 p.2) : Inv X pins σ (updAll H news) { s with heap := h', toks := t' } := by
  have free : ∀ p ∈ news, H p.1 = none := fun p h => I.hok.fresh (hp p h)
  have old : ∀ b o, H b = some o → updAll H news b = some o := fun b o e => (updAll_old fun p h z => by rw [← z, free p h] at e; cases e).trans e
  have lt : ∀ b u, s.heap.get? b = some u → ∀ p ∈ news, p.1 ≠ b := fun b u e p h z => by
    have := hp p h
    rw [z] at this
    exact absurd (Nat.lt_of_lt_of_le (Heap.lt_size e) this) (Nat.lt_irrefl _)
  refine I.un ⟨fun b u e _ _ _ => k b u e, fun b u e _ _ _ => ⟨u.slots, k b u e⟩, fun b u e n _ => (updAll_old (lt b u e)).trans n, fun b u e _ => ⟨u, k b u e⟩, fun b xs e => old b _ e, fun b u xs e => old b _ e, fun b ps e => ⟨#[], by rw [old b _ e]; simp⟩⟩ fun b o e => ?_
  rcases updAll_at e with e | ⟨p, h, rfl, rfl⟩
  · exact (I.hok b o e).stay (fun c u _ q => k c u q) (fun c q => old c _ q) fun c xs q => old c _ q
  · exact ok p h _
end
section
variable {prog : Program} {w : World} {A : Around} {E : Value → Shared → Prop} {s : Shared} {t u : Bool} {z TI TO i1 i2 a b S : Addr} {its jts : Array Value} {h0 : Heap}
theorem zip_extend {R : Result → Shared → Prop} (hh : A.handled = none) (D : ZApart z TI TO i1 i2 a b S) (n : Nat) (e1 : its.size = n) (e2 : jts.size = n) (hn : n ≤ 1000) (res : Value) (c : Nat)
    (lt0 : ∀ c, s.heap.objs.size ≤ c → h0.objs.size ≤ c ∧ c ≠ TO) (Z : ZInv t u z TI TO i1 i2 a b S its jts h0 0 [] s.heap) (hS : s.heap.get? S = some (ListO #[] c))
    (hR : ∀ h' tk Ts c', ZEnd S its jts h0 n Ts z TO i1 i2 h' → h'.get? S = some (ListO (Ts.map Value.ref).toArray c') → R (.ok (.ret res)) { s with heap := h', toks := tk }) :
    wpAny (model prog w) A.in1 (Builtin.List.listExtendWith (.ref S) (.ref z) res) (fun fin s' => match fin with | .done f => R (.ok f) s' | .again c' => c'.quiet = true ∧ codeAny (model prog w) A c' R s') (fun e s' => R (.error e) s') s := by
  obtain ⟨q, x, y, r⟩ : IsZip s.heap z TI TO .none ∧ ∃ x y, IsTupOf2 s.heap TO x y := by
    rcases Z.st with ⟨_, q⟩ | ⟨_, _, _, e, _⟩
    · exact q
    · cases e
  have ty : s.TypeIs (.ref z) "zip" := ⟨_, q, rfl⟩
  unfold Builtin.List.listExtendWith
  refine wpAny_bind (wpAny_typeOf ty ?_)
  have n1 : Builtin.List.listSameRef (.ref S) (.ref z) = false := by simp [Builtin.List.listSameRef, D.Sz]
  have n2 : (Value.type "zip" == Value.type "list") = false := by decide
  have n3 : (Value.type "zip" == Value.type "tuple") = false := by decide
  simp only [n1, n2, n3, Bool.or_false, Bool.false_eq_true, if_false]
  refine wpAny_bind (wpAny_pyIter_zip q (wpAny_bind (wpAny_holding ?_)))
  unfold Builtin.List.listLengthHint
  refine wpAny_bind (wpAny_specialOf ty zip_no_len (wpAny_bind (m := specialOf (Value.ref z) (Str.ofString "__length_hint__")) (wpAny_specialOf ty zip_no_hint (wpAny_pure ?_))))
  refine wpAny_bind (m := rule "list.extend.makes-room") (wpAny_rule (wpAny_bind (m := Builtin.List.listTouch (.ref S)) ?_))
  refine wpAny_bind (m := updateSeq S (·.push .none)) (wpAny_updateSeq hS rfl ?_)
  have hS2 := Heap.get?_update_self (Obj.mapSeq (·.push Value.none)) hS rfl
  refine wpAny_updateSeq (hz := by seq_fits) hS2 rfl (wpAny_pure ⟨plainId_quiet F.plain_extend_loop _, ?_⟩)
  have hS3 := Heap.get?_update_self (Obj.mapSeq (·.pop)) hS2 rfl
  refine zip_loop hh D n e1 e2 hn res _ 0 [] _ _ rfl (Nat.zero_le _) (fun c hc => lt0 c ?_) (Z.keep D fun c o hc e => (Heap.get?_update_other _ _ (Ne.symm hc)).trans ((Heap.get?_update_other _ _ (Ne.symm hc)).trans e)) hS3 fun h' tk Ts c' zE zS => hR h' tk Ts c' zE zS
  have hc : ((s.heap.update S (Obj.mapSeq (·.push Value.none))).update S (Obj.mapSeq (·.pop))).objs.size ≤ c := hc
  rwa [Heap.size_update, Heap.size_update] at hc
theorem zip_init {R : Result → Shared → Prop} (hh : A.handled = none) (D : ZApart z TI TO i1 i2 a b S) (n : Nat) (e1 : its.size = n) (e2 : jts.size = n) (hn : n ≤ 1000) (c : Nat)
    (lt0 : ∀ c, s.heap.objs.size ≤ c → h0.objs.size ≤ c ∧ c ≠ TO) (Z : ZInv t u z TI TO i1 i2 a b S its jts h0 0 [] s.heap) (hS : s.heap.get? S = some (ListO #[] c))
    (hR : ∀ h' tk Ts c', ZEnd S its jts h0 n Ts z TO i1 i2 h' → h'.get? S = some (ListO (Ts.map Value.ref).toArray c') → R (.ok (.ret .none)) { s with heap := h', toks := tk }) :
    wpAny (model prog w) A.in1 (Builtin.«list.__init__» ⟨[.ref S, .ref z], []⟩) (fun fin s' => match fin with | .done f => R (.ok f) s' | .again c' => c'.quiet = true ∧ codeAny (model prog w) A c' R s') (fun e s' => R (.error e) s') s := by
  refine wpAny_bind (m := Builtin.List.listItems (.ref S)) ?_
  unfold Builtin.List.listItems
  refine wpAny_bind (wpAny_seqItems hS rfl (wpAny_pure ?_))
  refine wpAny_bind (m := updateSeq S (fun _ => #[])) (wpAny_updateSeq hS rfl ?_)
  have hS2 := Heap.get?_update_self (Obj.mapSeq (fun _ => (#[] : Array Value))) hS rfl
  refine wpAny_bind (m := letGo (#[] : Array Value).toList.reverse) (wpAny_letGo ?_)
  refine zip_extend hh D n e1 e2 hn .none _ (fun c hc => lt0 c ?_) (Z.keep D fun c o hc e => (Heap.get?_update_other _ _ (Ne.symm hc)).trans e) hS2 fun h' tk Ts c' zE zS => hR h' tk Ts c' zE zS
  have hc : (s.heap.update S (Obj.mapSeq (fun _ => (#[] : Array Value)))).objs.size ≤ c := hc
  rwa [Heap.size_update] at hc
end
end FG
/-! list(zip(..)) as an expression, and on data. -/
namespace FG
open PySem PySem.Spec PyProof.Rows L2 FC
open Evl (Ex)
theorem updAll_mem {H : Hp} : ∀ {news : List (Addr × HO)} {p : Addr × HO}, (news.map (·.1)).Nodup → p ∈ news → updAll H news p.1 = some p.2
  | q :: r, p, nd, h => by
    rw [List.map_cons, List.nodup_cons] at nd
    rcases List.mem_cons.mp h with rfl | h
    · exact upd_same
    · have ne : p.1 ≠ q.1 := fun e => nd.1 (e ▸ List.mem_map.mpr ⟨p, h, rfl⟩)
      show upd (updAll H r) q.1 q.2 p.1 = _
      rw [upd_ne ne]
      exact updAll_mem nd.2 h
/-- the pairs that are made -/
def pairsO (Ts : List Addr) (xs ys : List V) : List (Addr × HO) := (Ts.zip (xs.zip ys)).map fun p => (p.1, .tup [p.2.1, p.2.2])
theorem pairs_at {Ts : List Addr} {xs ys : List V} {p : Addr × HO} (h : p ∈ pairsO Ts xs ys) : ∃ (j : Nat) (x y : V), Ts[j]? = some p.1 ∧ xs[j]? = some x ∧ ys[j]? = some y ∧ p.2 = .tup [x, y] := by
  obtain ⟨q, hq, rfl⟩ := List.mem_map.mp h
  obtain ⟨j, e⟩ := List.getElem?_of_mem hq
  rw [List.getElem?_zip_eq_some] at e
  obtain ⟨e1, e2⟩ := e
  rw [List.getElem?_zip_eq_some] at e2
  exact ⟨j, _, _, e1, e2.1, e2.2, rfl⟩
theorem pairs_mem {Ts : List Addr} {xs ys : List V} {j : Nat} {T : Addr} {x y : V} (h1 : Ts[j]? = some T) (h2 : xs[j]? = some x) (h3 : ys[j]? = some y) : (T, HO.tup [x, y]) ∈ pairsO Ts xs ys :=
  List.mem_map.mpr ⟨(T, x, y), List.mem_of_getElem? (i := j) (List.getElem?_zip_eq_some.mpr ⟨h1, List.getElem?_zip_eq_some.mpr ⟨h2, h3⟩⟩), rfl⟩
theorem fst_zip_sub {α β : Type} : ∀ (l : List α) (m : List β), ((l.zip m).map Prod.fst).Sublist l
  | [], _ => by simp
  | _ :: _, [] => by simp
  | x :: l, y :: m => by
    rw [List.zip_cons_cons, List.map_cons]
    exact (fst_zip_sub l m).cons₂ x
theorem pairs_keys {Ts : List Addr} {xs ys : List V} (h : Ts.Nodup) : ((pairsO Ts xs ys).map (·.1)).Nodup := by
  unfold pairsO
  rw [List.map_map]
  have e : (Ts.zip (xs.zip ys)).map ((fun p : Addr × HO => p.1) ∘ fun p => (p.1, HO.tup [p.2.1, p.2.2])) = (Ts.zip (xs.zip ys)).map Prod.fst := rfl
  rw [e]
  exact h.sublist (fst_zip_sub ..)
def tListZip (K : PySem.W.Frag) (t u : Bool) (ta : TA) : TE := fun σ H Q => ta σ H fun vs H1 => ∃ a b xs ys, vs = [.ref a, .ref b] ∧ Sq K t H1 a xs ∧ Sq K u H1 b ys ∧ xs.length = ys.length ∧ xs.length ≤ 1000 ∧
  ∀ (L : Addr) (Ts : List Addr) (H' : Hp), Ex H1 H' → H1 L = none → H' L = some (.lst (Ts.map V.ref)) → Ts.length = xs.length → (∀ T ∈ Ts, H1 T = none ∧ T ≠ L) → (∀ (j : Nat) (T : Addr) (x y : V), Ts[j]? = some T → xs[j]? = some x → ys[j]? = some y → H' T = some (.tup [x, y])) → Q (.ref L) H'
theorem vals_refs : ∀ Ts : List Addr, Vals (Ts.map V.ref) (Ts.map Value.ref)
  | [] => .nil
  | _ :: Ts => .cons rfl (vals_refs Ts)
theorem pe_listZip (t u : Bool) {X : Cx} {e e2 : Expr} {ta : TA} {p p2 q pos : Pos} (g1 : Gl X "list") (m1 : X.mg "list" = none) (g2 : Gl X "zip") (m2 : X.mg "zip" = none) (ha : PA X [e, e2] ta) (hc : X.calm = true := by rfl)
    (hs : starEach [e, e2] X.env = (false, eval e X.env) :: starEach [e2] X.env := by rfl) (hpl : (backTo q (starEach [e2] X.env)).any (·.1) = false := by rfl) :
    PE X (.Call (.Name "list" p) [.Call (.Name "zip" p2) [e, e2] [] q] [] pos) (tListZip X.K t u ta) := by
  refine ⟨fun pins s σ H Q I h => Call_ (ld_blt I g1 m1 PyProof.Rows.boot_list ?_)⟩
  refine PyProof.Rows.callWith_type1 (PyProof.Rows.args_cons (Call_ (ld_blt I g2 m2 PyProof.Rows.boot_zip (PyProof.Rows.callWith_type1 (thn (ha.run q pins s σ H _ I h) fun us s1 ⟨vs, H1, I1, r1, q1⟩ => ?_) hs hpl))) rfl) rfl rfl
  obtain ⟨a, b, xs, ys, rfl, qx, qy, hl, hn, q1⟩ := q1
  cases r1 with
  | cons r rr =>
  cases rr with
  | cons r' rr =>
  cases rr
  cases r
  cases r'
  obtain ⟨its, rv, p1, _⟩ := sq_seq I1 qx
  obtain ⟨jts, rv2, p2', _⟩ := sq_seq I1 qy
  have l1 := rv.length
  have l2 := rv2.length
  have la := seqH_lt p1
  have lb := seqH_lt p2'
  refine zip_begins2 (beginsG (t := t) (items := its.toArray)) (beginsG (t := u) (items := jts.toArray)) p1 p2' fun h' hz hTI hTO o1 o2 hsz hk => ?_
  refine PyProof.Rows.args_nil ?_
  have hd := I1.ok.hd hc
  have gS : (h'.push { cls := .type "list", data := .seq #[] }).get? h'.objs.size = some (ListO #[] 0) := Heap.get?_push_size _ rfl
  have kS : ∀ c o, h'.get? c = some o → (h'.push { cls := .type "list", data := .seq #[] }).get? c = some o := fun c o e => Heap.get?_push_of_some _ e
  have lN : ∀ {c : Addr}, c < s1.heap.objs.size → (c : Nat) < s1.heap.objs.size := fun h => h
  have D : ZApart (s1.heap.objs.size + 4) (s1.heap.objs.size + 2) (s1.heap.objs.size + 3) s1.heap.objs.size (s1.heap.objs.size + 1) _ _ h'.objs.size :=
    ⟨zip_sep2 (fp1 := [_]) (fp2 := [_]) (fun c hc => by rw [List.mem_singleton.mp hc]; exact la) (fun c hc => by rw [List.mem_singleton.mp hc]; exact lb), by rw [hsz]; exact Nat.ne_of_gt (Nat.lt_succ_self _), by rw [hsz]; exact Nat.ne_of_gt (show s1.heap.objs.size + 2 < s1.heap.objs.size + 5 by omega), by rw [hsz]; exact Nat.ne_of_gt (show s1.heap.objs.size + 3 < s1.heap.objs.size + 5 by omega),
      by rw [hsz]; exact Nat.ne_of_gt (show s1.heap.objs.size < s1.heap.objs.size + 5 by omega), by rw [hsz]; exact Nat.ne_of_gt (show s1.heap.objs.size + 1 < s1.heap.objs.size + 5 by omega), by rw [hsz]; exact Nat.ne_of_gt (Nat.lt_of_lt_of_le la (Nat.le_add_right _ _)), by rw [hsz]; exact Nat.ne_of_gt (Nat.lt_of_lt_of_le lb (Nat.le_add_right _ _))⟩
  have Z : ZInv t u (s1.heap.objs.size + 4) (s1.heap.objs.size + 2) (s1.heap.objs.size + 3) s1.heap.objs.size (s1.heap.objs.size + 1) _ _ h'.objs.size its.toArray jts.toArray s1.heap 0 [] (h'.push { cls := .type "list", data := .seq #[] }) :=
    ⟨.inl ⟨rfl, kS _ _ hz, _, _, kS _ _ hTO⟩, kS _ _ hTI, ⟨iterH_new (kS _ _ o1), seqH_at p1 fun o e => kS _ _ (hk _ _ e)⟩, ⟨iterH_new (kS _ _ o2), seqH_at p2' fun o e => kS _ _ (hk _ _ e)⟩, rfl, fun j T e => by simp at e, fun T h => by simp at h, List.nodup_nil, fun c o _ _ _ _ _ e => kS _ _ (hk _ _ e)⟩
  refine callType_codes (Q₁ := fun o s2 => o = .ref h'.objs.size ∧ s2 = { s1 with heap := h'.push { cls := .type "list", data := .seq #[] } }) F.called_list (F.typeCall_list_1 _) F.entry_list_init (code_list_new (s := { s1 with heap := h' }) _ ⟨rfl, rfl⟩) fun o s2 hos => ?_
  obtain ⟨rfl, rfl⟩ := hos
  refine ⟨⟨_, gS, rfl⟩, F.args_list_init_2 _ _, zip_init (by simp [hd]) D xs.length (by rw [List.size_toArray, ← l1]) (by rw [List.size_toArray, ← l2, hl]) hn 0 (fun c hc => ?_) Z gS fun hE tk Ts c' zE zS => ⟨rfl, ?_⟩⟩
  · have hc : (h'.push { cls := .type "list", data := .seq #[] }).objs.size ≤ c := hc
    rw [Heap.size_push, hsz] at hc
    exact ⟨Nat.le_trans (show s1.heap.objs.size ≤ s1.heap.objs.size + 5 + 1 by omega) hc, fun e => by
      rw [e] at hc
      exact absurd hc (show ¬ s1.heap.objs.size + 5 + 1 ≤ s1.heap.objs.size + 3 by omega)⟩
  · have big : ∀ {c : Addr} {o : Obj}, s1.heap.get? c = some o → ∀ m : Nat, c ≠ s1.heap.objs.size + m := fun e m z => by
      have := Heap.lt_size e
      rw [z] at this
      exact absurd this (show ¬ s1.heap.objs.size + m < s1.heap.objs.size by omega)
    have kE : ∀ c o, s1.heap.get? c = some o → hE.get? c = some o := fun c o e => zE.old c o (by rw [hsz]; exact big e 5) (big e 4) (big e 3) (big e 0) (big e 1) e
    have lenT := zE.len
    have J : Inv X pins σ (updAll H1 ((h'.objs.size, .lst (Ts.map V.ref)) :: pairsO Ts xs ys)) { s1 with heap := hE, toks := tk } := inv_news I1 kE _ (fun p hp => ?_) fun p hp H => ?_
    · have fS : H1 h'.objs.size = none := I1.hok.fresh (by rw [hsz]; exact Nat.le_add_right _ _)
      refine ⟨.ref h'.objs.size, _, J, rfl, q1 h'.objs.size Ts _ (fun c o e => ?_) fS upd_same lenT (fun T hT => ⟨I1.hok.fresh (zE.far T hT).2, (zE.far T hT).1⟩) fun j T x y e1 e2 e3 => ?_⟩
      · refine (updAll_old fun p hp z => ?_).trans e
        rcases List.mem_cons.mp hp with rfl | hp
        · rw [← z, fS] at e
          cases e
        · obtain ⟨j, x, y, g1, _⟩ := pairs_at hp
          rw [← z, I1.hok.fresh (zE.far _ (List.mem_of_getElem? g1)).2] at e
          cases e
      · have ne : T ≠ h'.objs.size := (zE.far T (List.mem_of_getElem? e1)).1
        show upd (updAll H1 (pairsO Ts xs ys)) h'.objs.size _ T = _
        rw [upd_ne ne]
        exact updAll_mem (pairs_keys zE.nd) (pairs_mem e1 e2 e3)
    · rcases List.mem_cons.mp hp with rfl | hp
      · show s1.heap.objs.size ≤ h'.objs.size
        rw [hsz]
        exact Nat.le_add_right _ _
      · obtain ⟨j, x, y, g1, _⟩ := pairs_at hp
        exact (zE.far _ (List.mem_of_getElem? g1)).2
    · rcases List.mem_cons.mp hp with rfl | hp
      · refine ⟨?_, Ts.map Value.ref, c', vals_refs Ts, zS⟩
        rw [List.length_map, lenT]
        exact Nat.le_trans hn (by decide)
      · obtain ⟨j, x, y, g1, g2, g3, g4⟩ := pairs_at hp
        obtain ⟨v1, v2, w1, w2, hT⟩ := zE.made j _ g1
        rw [g4]
        obtain ⟨v1', k1, r1⟩ := rv.get g2
        obtain ⟨v2', k2, r2⟩ := rv2.get g3
        rw [List.getElem?_toArray, k1] at w1
        rw [List.getElem?_toArray, k2] at w2
        cases w1
        cases w2
        exact ⟨by show 2 ≤ sizeLine; decide, [_, _], .cons r1 (.cons r2 .nil), ⟨_, hT, rfl, _, rfl⟩⟩
end FG
/-! Data: list(zip(..)), len(set(..)), slices, concatenation. -/
namespace FG
open PySem PySem.Spec PyProof.Rows L2 FC
open Evl (Ex)
def pairT (p : PyData × PyData) : PyData := .tuple [p.1, p.2]
theorem updAll_has {H : Hp} : ∀ {news : List (Addr × HO)} {b : Addr}, b ∈ news.map (·.1) → ∃ o, updAll H news b = some o
  | q :: r, b, h => by
    by_cases e : b = q.1
    · refine ⟨q.2, ?_⟩
      show upd (updAll H r) q.1 q.2 b = _
      rw [e, upd_same]
    · rw [List.map_cons] at h
      rcases List.mem_cons.mp h with h | h
      · exact absurd h e
      · obtain ⟨o, q'⟩ := updAll_has (H := H) h
        refine ⟨o, ?_⟩
        show upd (updAll H r) q.1 q.2 b = _
        rw [upd_ne e]
        exact q'
theorem pairs_key {Ts : List Addr} {xs ys : List V} (h1 : Ts.length = xs.length) (h2 : xs.length = ys.length) {T : Addr} (h : T ∈ Ts) : T ∈ (pairsO Ts xs ys).map (·.1) := by
  obtain ⟨j, e⟩ := List.getElem?_of_mem h
  have hj := (List.getElem?_eq_some_iff.mp e).1
  exact List.mem_map.mpr ⟨_, pairs_mem e (List.getElem?_eq_getElem (show j < xs.length by omega)) (List.getElem?_eq_getElem (show j < ys.length by omega)), rfl⟩
theorem dps_pairs {K : PySem.W.Frag} {B : Hp} : ∀ {Ts : List Addr} {xs ys : List V} {ds es : List PyData}, DpAll K B xs ds → DpAll K B ys es → Ts.length = ds.length → ds.length = es.length → (∀ (j : Nat) (T : Addr) (x y : V), Ts[j]? = some T → xs[j]? = some x → ys[j]? = some y → B T = some (.tup [x, y])) → DpAll K B (Ts.map V.ref) ((ds.zip es).map pairT)
  | [], _, _, [], _, _, _, _, _, _ => .nil
  | T :: Ts, _, _, d :: ds, e :: es, h1, h2, l1, l2, h => by
    cases h1 with
    | cons a1 b1 =>
    cases h2 with
    | cons a2 b2 =>
    rw [List.zip_cons_cons, List.map_cons, List.map_cons]
    refine .cons (.tup (.inl (.inl (h 0 T _ _ rfl rfl rfl))) (.cons a1 (.cons a2 .nil))) (dps_pairs b1 b2 (by simpa using l1) (by simpa using l2) fun j T' x y e1 e2 e3 => h (j + 1) T' x y (by simpa using e1) (by simpa using e2) (by simpa using e3))
section
variable {K : PySem.W.Frag} {G : List (Option PyData)} {t u : Bool} {ta : TA} {te : TE} {ds es : List PyData}
theorem de_listZip (h : DA K ta G [seqD t ds, seqD u es]) (hl : ds.length = es.length) (hn : ds.length ≤ 1000) : DE K (tListZip K t u ta) G (listX ((ds.zip es).map pairT)) := fun σ B H x en Q q =>
  h σ B H x en _ fun vs B1 H1 g1 r1 => by
    cases r1 with
    | cons r1 rr =>
    cases rr with
    | cons r2 rr =>
    cases rr
    obtain ⟨a, xs, rfl, s1, d1⟩ := rt_seqD r1
    obtain ⟨b, ys, rfl, s2, d2⟩ := rt_seqD r2
    have l1 := dps_len d1
    have l2 := dps_len d2
    refine ⟨a, b, xs, ys, rfl, sq_ex g1.sub s1, sq_ex g1.sub s2, by omega, by omega, fun L Ts H' e nL oL lT far made => ?_⟩
    have nB : ∀ {c}, H1 c = none → B1 c = none := fun h => sub_none g1.sub h
    have none1 : ∀ p ∈ (L, HO.lst (Ts.map V.ref)) :: pairsO Ts xs ys, H1 p.1 = none := fun p hp => by
      rcases List.mem_cons.mp hp with rfl | hp
      · exact nL
      · obtain ⟨j, _, _, k1, _⟩ := pairs_at hp
        exact (far _ (List.mem_of_getElem? k1)).1
    have eb : Ex B1 (updAll B1 ((L, HO.lst (Ts.map V.ref)) :: pairsO Ts xs ys)) := fun c o hc => (updAll_old fun p hp z => by
      rw [← z, nB (none1 p hp)] at hc
      cases hc).trans hc
    have sub : Ex (updAll B1 ((L, HO.lst (Ts.map V.ref)) :: pairsO Ts xs ys)) H' := fun c o hc => by
      rcases updAll_at hc with hc | ⟨p, hp, rfl, rfl⟩
      · exact e _ _ (g1.sub _ _ hc)
      · rcases List.mem_cons.mp hp with rfl | hp
        · exact oL
        · obtain ⟨j, x, y, k1, k2, k3, k4⟩ := pairs_at hp
          rw [k4]
          exact made j _ x y k1 k2 k3
    have gg : Go B H (updAll B1 ((L, HO.lst (Ts.map V.ref)) :: pairsO Ts xs ys)) H' := g1.trans ⟨eb, e, sub, fun c o hc hb => (updAll_old fun p hp z => by
      have := none1 p hp
      rw [z, hc] at this
      cases this).trans hb⟩
    refine q _ _ H' gg (.lstX upd_same (dps_pairs (dps_ex eb _ _ d1) (dps_ex eb _ _ d2) (by omega) hl fun j T x y k1 k2 k3 => ?_))
    have hT := List.mem_of_getElem? k1
    obtain ⟨o, ho⟩ := updAll_has (H := B1) (news := (L, HO.lst (Ts.map V.ref)) :: pairsO Ts xs ys) (b := T) (List.mem_cons_of_mem _ (pairs_key lT (by omega) hT))
    have z1 := sub _ _ ho
    rw [made j T x y k1 k2 k3] at z1
    rw [ho, ← z1]
theorem texts_data {B : Hp} : ∀ {xs : List Str} {vs : List V}, DpAll K B vs (xs.map PyData.str) → vs = xs.map V.str
  | [], _, h => by cases h; rfl
  | x :: xs, _, h => by
    cases h with
    | cons h1 h2 =>
      cases h1
      rw [texts_data h2]
      rfl
theorem de_lenSet {xs : List Str} (h : DE K te G (.list (xs.map .str))) (nd : xs.Nodup) (hl : xs.length ≤ 1000) : DE K (tLenSetS K te) G (.int (xs.length : Nat)) := fun σ B H x en Q q =>
  h σ B H x en _ fun v B1 H1 g1 r1 => by
    have r1 := r1.dp rfl
    cases r1 with
    | lst hs ha =>
      rw [texts_data ha] at hs
      exact ⟨_, xs, rfl, ex_l g1.sub hs, nd, hl, q _ B1 H1 g1 (.d (.int _))⟩
end
end FG
namespace FP
open PySem PySem.Spec PyProof.Rows L2 FC FG
open Evl (Ex)
def topS (i : Nat) : Stmt := PySem.Challenge.pw_firstclause_k21_whole_clauses_that_fit.main.body.getD i (.Pass ⟨0, 0, 0, 0⟩)
abbrev s_is_whole : Stmt := topS 8
abbrev s_is_name : Stmt := topS 9
abbrev s_is_filled_list : Stmt := topS 10
abbrev s_are_unlike_names : Stmt := topS 11
abbrev s_is_sound : Stmt := topS 12
abbrev s_is_kind : Stmt := topS 14
abbrev s_is_kinds : Stmt := topS 15
abbrev s_is_form : Stmt := topS 16
abbrev s_is_bounds : Stmt := topS 17
abbrev s_are_makers : Stmt := topS 18
abbrev s_is_maker : Stmt := topS 19
abbrev s_all_have_values : Stmt := topS 20
abbrev s_can_be_built : Stmt := topS 21
abbrev s_parts_of : Stmt := topS 22
abbrev s_is_pattern : Stmt := topS 24
abbrev s_patterns_within : Stmt := topS 25
abbrev s_is_range_pattern : Stmt := topS 26
abbrev s_is_bound : Stmt := topS 27
abbrev s_maker_patterns_within : Stmt := topS 28
abbrev s_row_patterns_within : Stmt := topS 29
abbrev s_pattern_fits : Stmt := topS 30
abbrev s_all_fit : Stmt := topS 31
abbrev s_gap_fits : Stmt := topS 32
abbrev s_is_clause : Stmt := topS 33
abbrev s_is_clauses : Stmt := topS 34
abbrev s_first_fitting : Stmt := topS 35
abbrev s_values_within : Stmt := topS 37
abbrev s_parts_within : Stmt := topS 38
abbrev s_check_kind : Stmt := topS 40
abbrev s_check_value : Stmt := topS 41
abbrev s_check_pattern : Stmt := topS 42
abbrev s_check_clauses : Stmt := topS 43
abbrev s_check_lists : Stmt := topS 44
abbrev s_fits : Stmt := topS 46
abbrev s_taker : Stmt := topS 47
abbrev s_label : Stmt := topS 48
/-- the built-ins that the module leaves as they are -/
structure Bl (mg : Str → Option Value) : Prop where
  isi : mg "isinstance" = none
  len : mg "len" = none
  all : mg "all" = none
  int : mg "int" = none
  bool : mg "bool" = none
  str : mg "str" = none
  tuple : mg "tuple" = none
  list : mg "list" = none
  dict : mg "dict" = none
  enum : mg "enumerate" = none
  range : mg "range" = none
  max : mg "max" = none
  sum : mg "sum" = none
  zip : mg "zip" = none
  set : mg "set" = none
  any : mg "any" = none
section
variable {X : Cx} {a e : Expr} {ta te : TE} {p pos pos2 : Pos}
theorem k_isi {T : Str} {n : String} (h : PE X a ta) (hg : Gl X "isinstance") (hm : X.mg "isinstance" = none) (hgT : Gl X T) (hmT : X.mg T = none) (hv : bootBuiltins T = some (.type n)) (hn : T ≠ "__name__") (hdb : (T == ("__debug__" : Str)) = false)
    (hs : starEach [a, .Name T pos2] X.env = (false, eval a X.env) :: starEach [.Name T pos2] X.env := by rfl) (hs2 : starEach [.Name T pos2] X.env = (false, eval (.Name T pos2) X.env) :: starEach [] X.env := by rfl) :
    PE X (.Call (.Name "isinstance" p) [a, .Name T pos2] [] pos) (tCB (rIsi X.K) (tCons ta (tCons (tC (.ty n)) tNil))) :=
  pe_callB call_isi hg hm PyProof.Rows.boot_isinstance (pa_cons h (pa_cons (pe_bltn hgT hmT hv rfl hn hdb) pa_nil hs2) hs) (he := hs)
end
theorem kii : kitB "int" "int" = some true := by decide +kernel
theorem kib : kitB "int" "bool" = some false := by decide +kernel
theorem kbi : kitB "bool" "int" = some true := by decide +kernel
theorem kbb : kitB "bool" "bool" = some true := by decide +kernel
theorem kni : kitB "NoneType" "int" = some false := by decide +kernel
theorem ksi : kitB "str" "int" = some false := by decide +kernel
theorem kli : kitB "list" "int" = some false := by decide +kernel
theorem kti : kitB "tuple" "int" = some false := by decide +kernel
theorem kdi : kitB "dict" "int" = some false := by decide +kernel
theorem kss : kitB "str" "str" = some true := by decide +kernel
theorem ktt : kitB "tuple" "tuple" = some true := by decide +kernel
theorem kll : kitB "list" "list" = some true := by decide +kernel
theorem kdd : kitB "dict" "dict" = some true := by decide +kernel
/-! ### the mirrors -/
def isWhole : PyData → Bool
  | .int _ => true
  | _ => false
def sgn (s : Str) (i : Nat) : Str := ⟨#[s.cps.getD i 0]⟩
def sgnOk (z : Str) : Bool := (!decide (z.cps.toList < ("a" : Str).cps.toList)) && !decide (("z" : Str).cps.toList < z.cps.toList)
def isNameS (s : Str) : Bool := decide ((1 : Int) ≤ s.length) && decide ((s.length : Int) ≤ 10) && ((List.range s.cps.size).map fun i => sgnOk (sgn s i)).all id
def strL (ws : List Str) : PyData := .list (ws.map .str)
def numsD (lo hi : Int) : PyData := .tuple [.str "numbers", .int lo, .int hi]
def rowsD (c : Str) : PyData := .tuple [.str "rows", .str c]
def wordsD (ws : List Str) : PyData := .tuple [.str "words", strL ws]
def makerD (m : Str × List Str) : PyData := .tuple [.str m.1, strL m.2]
def makersD (ms : List (Str × List Str)) : PyData := .tuple [.str "makers", .list (ms.map makerD)]
structure OkMaker (kvs : List (Str × PyData)) (m : Str × List Str) : Prop where
  nm : isNameS m.1 = true
  parts : ∀ p ∈ m.2, (look kvs p).isSome = true
  few : m.2.length ≤ 100
inductive OkForm (kvs : List (Str × PyData)) : PyData → Prop where
  | nums {lo hi : Int} (h : lo ≤ hi) : OkForm kvs (numsD lo hi)
  | rows {s : Str} (h : (look kvs s).isSome = true) : OkForm kvs (rowsD s)
  | words {ws : List Str} (ne : ws ≠ []) (nm : ∀ w ∈ ws, isNameS w = true) (nd : ws.Nodup) (few : ws.length ≤ 100) : OkForm kvs (wordsD ws)
  | makers {ms : List (Str × List Str)} (ne : ms ≠ []) (ok : ∀ m ∈ ms, OkMaker kvs m) (nd : (ms.map (·.1)).Nodup) (few : ms.length ≤ 100) : OkForm kvs (makersD ms)
def Rw_is_whole : List PyData → PyData → Prop := fun ds o => ∃ d, ds = [d] ∧ o = .bool (isWhole d)
def Rw_is_name : List PyData → PyData → Prop := fun ds o => ∃ s, ds = [.str s] ∧ isNameS s = true ∧ o = .bool true
def Rw_is_kind : List PyData → PyData → Prop := fun ds o => ∃ kvs s, ds = [dictOf kvs, .str s] ∧ o = .bool (look kvs s).isSome
def Rw_is_bounds : List PyData → PyData → Prop := fun ds o => ∃ i j, ds = [.int i, .int j] ∧ o = .bool (decide (i ≤ j))
section
variable {P : Program} {w : World} {K : PySem.W.Frag} {mg : Str → Option Value} {base : Heap} {f : Addr} {fd : FuncData}
theorem sc_is_whole : FnScope ["thing"] ["thing"] (defScope s_is_whole) := ⟨rfl, rfl, rfl, by decide +kernel, rfl, by decide +kernel, by decide +kernel⟩
theorem ok_is_whole (F : Fun K "is_whole" "is_whole" s_is_whole f fd) (M : Bl mg) : FnOk P w K mg base CX0 1 f fd ["thing"] (spR K Rw_is_whole) := by
  refine F.ok sc_is_whole (spR_len (by rintro _ _ ⟨d, rfl, _⟩; rfl)) (fun cdv A outer s H vs Q E hr h => ?_)
  obtain ⟨B, ds, o, x, r, ⟨d, rfl, rfl⟩, q⟩ := h
  refine ⟨_, pss_one (ps_ret (pe_and (k_isi (pv 0) (by rfl) M.isi (by rfl) M.int PyProof.Rows.boot_int (by decide) (by decide)) (pe_one (pe_not (k_isi (pv 0) (by rfl) M.isi (by rfl) M.bool PyProof.Rows.boot_bool (by decide) (by decide)))))), ?_⟩
  refine fin_rt (ds_ret ?_) x r q
  show DE K _ [some d] _
  cases d with
  | int i => exact de_is (de_and (de_ty (de_var rfl) rfl kii) fun _ => de_not (de_ty (de_var rfl) rfl kib)) rfl
  | bool b => exact de_is (de_and (de_ty (de_var rfl) rfl kbi) fun _ => de_not (de_ty (de_var rfl) rfl kbb)) rfl
  | none => exact de_is (de_and (c := true) (de_ty (de_var rfl) rfl kni) (fun z => nomatch z)) rfl
  | str s => exact de_is (de_and (c := true) (de_ty (de_var rfl) rfl ksi) (fun z => nomatch z)) rfl
  | list s => exact de_is (de_and (c := true) (de_ty (de_var rfl) rfl kli) (fun z => nomatch z)) rfl
  | tuple s => exact de_is (de_and (c := true) (de_ty (de_var rfl) rfl kti) (fun z => nomatch z)) rfl
  | dict s =>
    have hk : tyN (.dict s) = "dict" ∨ tyN (.dict s) = "list" := by
      unfold tyN
      split <;> simp_all
    rcases hk with e | e
    · exact de_is (de_and (c := true) (de_ty (de_var rfl) e kdi) (fun z => nomatch z)) rfl
    · exact de_is (de_and (c := true) (de_ty (de_var rfl) e kli) (fun z => nomatch z)) rfl
theorem madeG_bools (b : Nat → Bool) (n : Nat) : madeG (fun _ => true) (fun i => .bool (b i)) n = ((List.range n).map b).map PyData.bool := by
  unfold madeG
  rw [List.filter_eq_self.mpr (fun _ _ => rfl), List.map_map]
  rfl
theorem all_true {n : Nat} {b : Nat → Bool} (h : ∀ i, i < n → b i = true) : ((List.range n).map b).all id = true := by
  rw [List.all_eq_true]
  intro x hx
  obtain ⟨i, hi, rfl⟩ := List.mem_map.mp hx
  exact h i (List.mem_range.mp hi)
theorem signs_at {s : Str} {i : Nat} (h : i < s.cps.size) : (sgnsOf s)[i]? = some (PyData.str (sgn s i)) := by
  unfold sgnsOf sgn
  rw [List.getElem?_map, Array.getElem?_toList, Array.getElem?_eq_getElem h]
  simp [Array.getD, h]
theorem sc_is_name : FnScope ["thing", "sign"] ["thing"] (defScope s_is_name) := ⟨rfl, rfl, rfl, by decide +kernel, rfl, by decide +kernel, by decide +kernel⟩
theorem ok_is_name (F : Fun K "is_name" "is_name" s_is_name f fd) (M : Bl mg) : FnOk P w K mg base CX0 1 f fd ["thing"] (spR K Rw_is_name) := by
  refine F.ok sc_is_name (spR_len (by rintro _ _ ⟨d, rfl, _⟩; rfl)) (fun cdv A outer s H vs Q E hr h => ?_)
  obtain ⟨B, ds, o, x, r, ⟨d, rfl, hn, rfl⟩, q⟩ := h
  refine ⟨_, pss_cons (ps_if (pw_or (pt_not (pt_val (k_isi (pv 0) (by rfl) M.isi (by rfl) M.str PyProof.Rows.boot_str (by decide) (by decide)))) (pw_or1 (pt_not (pt_chain op_le op_le pe_int (pe_callB call_lenR (by rfl) M.len PySem.boot_len (pa_cons (pv 0) pa_nil)) pe_int)))).pt (pss_one (ps_ret pe_bl)) pss_nil)
    (pss_one (ps_ret (pe_callB (cr_all rfl) (by rfl) M.all PyProof.Rows.boot_all (pa_cons
      (pe_lc (own := [("sign", 1)]) (g := gName 1) (tt := tYes) rfl sc_is_name.nd (pi_str (pv 0)) (blkOk_by (N := ["thing", "sign"]) (sc := defScope s_is_name) (by decide +kernel)) (fun _ _ _ _ _ => pg_name (i := 1) sc_is_name.nd rfl (Or.inl rfl)) (fun _ _ _ _ _ => pts_nil)
        (fun _ _ _ _ _ => pe_chain op_leS op_leS pe_str (pv 1) pe_str)) pa_nil)))), ?_⟩
  refine fin_rt ?_ x r q
  show DS K _ [some (.str d), none] _
  unfold isNameS at hn
  rw [Bool.and_eq_true, Bool.and_eq_true] at hn
  obtain ⟨⟨h1, h2⟩, h3⟩ := hn
  have hz : (d.length : Int) ≤ 10 := of_decide_eq_true h2
  have hl : d.length ≤ sizeLine := Nat.le_trans (show d.length ≤ 10 by omega) (by decide)
  have hs : d.cps.size ≤ 10 := by
    have : d.length = d.cps.size := rfl
    omega
  refine ds_guard (b := false) (dt_is (dt_or (dt_not (dt_B (de_ty (de_var rfl) rfl kss))) fun _ => dt_not (dt_test (de_chain de_int (de_cb (da_cons (de_var rfl) da_nil) (cd_lenS hl)) (fun _ => de_int) rd_le fun _ => rd_le))) (by rw [h1, h2]; rfl)) (fun z => nomatch z) fun _ => ds_ret (de_is (de_cb (da_cons (de_is (de_lc (fun _ => true) (fun i => .bool (sgnOk (sgn d i))) (di_str (de_var rfl)) (by decide) (fun _ _ => dt_yes) (fun i hi _ => ?_) (fun _ _ _ => rfl) (by omega)) (congrArg PyData.list (madeG_bools _ _))) da_nil) cd_all) (by rw [h3]))
  refine de_chain de_str (de_var (d := .str (sgn d i)) ?_) (fun _ => de_str) rd_leS fun _ => rd_leS
  rw [signs_at hi]
  rfl
end
theorem look_at {kvs : List (Str × PyData)} (nd : (kvs.map (·.1)).Nodup) : ∀ {i : Nat} {s : Str} {d : PyData}, kvs[i]? = some (s, d) → look kvs s = some d := by
  induction kvs with
  | nil => intro i s d h; simp at h
  | cons q qs ih =>
    intro i s d h
    rw [List.map_cons, List.nodup_cons] at nd
    unfold look
    rw [List.find?_cons]
    cases i with
    | zero =>
      simp at h
      subst h
      simp
    | succ i =>
      have h : qs[i]? = some (s, d) := by simpa using h
      have hm : s ∈ qs.map (·.1) := List.mem_map.mpr ⟨(s, d), List.mem_of_getElem? h, rfl⟩
      have hne : ¬ q.1 = s := by
        intro z
        rw [z] at nd
        exact nd.1 hm
      rw [decide_eq_false hne]
      exact ih nd.2 h
section
variable {P : Program} {w : World} {K : PySem.W.Frag} {mg : Str → Option Value} {base : Heap} {f : Addr} {fd : FuncData}
abbrev CL (P : Program) (w : World) (K : PySem.W.Frag) (mg : Str → Option Value) (base : Heap) (k : Nat) (x : Str) (R : List PyData → PyData → Prop) : Prop := Cl P w K mg base k x (spR K R)
theorem sc_is_kind : FnScope ["kinds", "thing"] ["kinds", "thing"] (defScope s_is_kind) := ⟨rfl, rfl, rfl, by decide +kernel, rfl, by decide +kernel, by decide +kernel⟩
theorem ok_is_kind (F : Fun K "is_kind" "is_kind" s_is_kind f fd) (M : Bl mg) : FnOk P w K mg base CX0 1 f fd ["kinds", "thing"] (spR K Rw_is_kind) := by
  refine F.ok sc_is_kind (spR_len (by rintro _ _ ⟨_, _, rfl, _⟩; rfl)) (fun cdv A outer s H vs Q E hr h => ?_)
  obtain ⟨B, ds, o, x, r, ⟨kvs, t, rfl, rfl⟩, q⟩ := h
  have hu := hu_of hr
  refine ⟨_, pss_one (ps_ret (pe_and (k_isi (pv 1) (by rfl) M.isi (by rfl) M.str PyProof.Rows.boot_str (by decide) (by decide)) (pe_one (pe_cmp (pc_din hu (pv 1) (pv 0)))))), ?_⟩
  refine fin_rt ?_ x r q
  show DS K _ [some (dictOf kvs), some (.str t)] _
  exact ds_ret (de_is (de_and (de_ty (de_var (d := .str t) rfl) rfl kss) fun _ => de_din (de_var rfl) (de_var rfl)) rfl)
theorem sc_is_bounds : FnScope ["low", "high"] ["low", "high"] (defScope s_is_bounds) := ⟨rfl, rfl, rfl, by decide +kernel, rfl, by decide +kernel, by decide +kernel⟩
theorem ok_is_bounds (F : Fun K "is_bounds" "is_bounds" s_is_bounds f fd) (M : Bl mg) (cw : CL P w K mg base 1 "is_whole" Rw_is_whole) : FnOk P w K mg base CX0 2 f fd ["low", "high"] (spR K Rw_is_bounds) := by
  refine F.ok sc_is_bounds (spR_len (by rintro _ _ ⟨_, _, rfl, _⟩; rfl)) (fun cdv A outer s H vs Q E hr h => ?_)
  obtain ⟨B, ds, o, x, r, ⟨i, j, rfl, rfl⟩, q⟩ := h
  refine ⟨_, pss_one (ps_ret (pe_and (pe_cl cw hr (by decide) (by rfl) (pa_cons (pv 0) pa_nil)) (pe_and (pe_cl cw hr (by decide) (by rfl) (pa_cons (pv 1) pa_nil)) (pe_one (pe_cmpR op_le (pv 0) (pv 1) (nomark _)))))), ?_⟩
  refine fin_rt ?_ x r q
  show DS K _ [some (.int i), some (.int j)] _
  exact ds_ret (de_is (de_and (de_call' (da_cons (de_var rfl) da_nil) ⟨.int i, rfl, rfl⟩) fun _ => de_and (de_call' (da_cons (de_var rfl) da_nil) ⟨.int j, rfl, rfl⟩) fun _ => de_op (de_var rfl) (de_var rfl) rd_le) rfl)
theorem eq_str {a b : Str} (hb : SeqAt.shaped (.str b) = true) {K : PySem.W.Frag} (ha : SeqAt.shaped (.str a) = true) : RD K (rEqD K) (.str a) (.str b) (.bool (a == b)) := rd_eq ha hb rfl rfl
def rLenD : List V → Hp → VK → Prop := fun xs H Q => ∃ a kvs, xs = [V.ref a] ∧ H a = some (.dK kvs) ∧ Q (.int (kvs.length : Int)) H
theorem call_lenDR {X : Cx} : CallR X (.builtin "len") rLenD := call_lenD
theorem cd_lenD {kvs : List (Str × PyData)} : CD K rLenD [dictU kvs] (.int kvs.length) := fun B H vs x r Q q => by
  cases r with
  | cons r1 r2 =>
    cases r2
    obtain ⟨a, ks, rfl, e, kr, nd⟩ := rt_dictU r1
    refine ⟨a, ks, rfl, x _ _ e, ?_⟩
    have hl : ks.length = kvs.length := Paired.length kr
    rw [hl]
    exact q _ B H (.refl x) (.d (.int _))
def keyS (kvs : List (Str × PyData)) (m : Nat) : Str := (kvs.getD m (Str.empty, .none)).1
def keysL (kvs : List (Str × PyData)) : List PyData := madeG (fun _ => true) (fun m => .str (keyS kvs m)) kvs.length
theorem keysL_len (kvs : List (Str × PyData)) : (keysL kvs).length = kvs.length := by
  unfold keysL madeG
  rw [List.filter_eq_self.mpr (fun _ _ => rfl), List.length_map, List.length_range]
theorem keyD_at {kvs : List (Str × PyData)} {m : Nat} (h : m < kvs.length) : keyD kvs m = some (.str (keyS kvs m)) := by
  unfold keyD keyS
  rw [List.getElem?_eq_getElem h, List.getD_eq_getElem?_getD, List.getElem?_eq_getElem h]
  rfl
theorem keepP_key (kvs : List (Str × PyData)) (m : Nat) : keepP (keyD kvs m) = keyD kvs m := by
  unfold keyD
  cases kvs[m]? <;> rfl
end
end FP
namespace FP
open PySem PySem.Spec PyProof.Rows L2 FC FG
open Evl (Ex)
def Rw_is_filled_list : List PyData → PyData → Prop := fun ds o => ∃ xs, ds = [.list xs] ∧ xs ≠ [] ∧ o = .bool true
def Rw_are_unlike_names : List PyData → PyData → Prop := fun ds o => ∃ ws, ds = [strL ws] ∧ (∀ w ∈ ws, isNameS w = true) ∧ ws.Nodup ∧ ws.length ≤ 100 ∧ o = .bool true
def Rw_is_maker : List PyData → PyData → Prop := fun ds o => ∃ kvs m, ds = [dictOf kvs, makerD m] ∧ OkMaker kvs m ∧ o = .bool true
def Rw_are_makers : List PyData → PyData → Prop := fun ds o => ∃ (kvs : List (Str × PyData)) (ms : List (Str × List Str)), ds = [dictOf kvs, .list (ms.map makerD)] ∧ (∀ m ∈ ms, OkMaker kvs m) ∧ (ms.map (·.1)).Nodup ∧ ms.length ≤ 100 ∧ o = .bool true
def Rw_is_form : List PyData → PyData → Prop := fun ds o => ∃ kvs d, ds = [dictOf kvs, d] ∧ OkForm kvs d ∧ o = .bool true
theorem sh_int (i : Int) : SeqAt.shaped (.int i) = true := rfl
theorem get_map {α : Type} {xs : List α} {f : α → PyData} {i : Nat} (h : i < xs.length) : (xs.map f)[i]? = some (f (xs[i]'h)) := by
  rw [List.getElem?_map, List.getElem?_eq_getElem h]
  rfl
theorem madeG_of {n : Nat} {d : Nat → PyData} {xs : List PyData} (hl : xs.length = n) (h : ∀ i (hi : i < n), xs[i]? = some (d i)) : madeG (fun _ => true) d n = xs := by
  unfold madeG
  rw [List.filter_eq_self.mpr (fun _ _ => rfl)]
  refine List.ext_getElem? fun i => ?_
  by_cases hi : i < n
  · rw [List.getElem?_map, List.getElem?_range hi, h i hi]
    rfl
  · rw [List.getElem?_eq_none (by simp; omega), List.getElem?_eq_none (by omega)]
section
variable {P : Program} {w : World} {K : PySem.W.Frag} {mg : Str → Option Value} {base : Heap} {f : Addr} {fd : FuncData} {G : List (Option PyData)} {te : TE}
/-- te[0] == "b" -/
theorem dt_head {a b : Str} {r : List PyData} (h : DE K te G (.tuple (.str a :: r))) (ha : SeqAt.shaped (.str a) = true := by decide +kernel) (hb : SeqAt.shaped (.str b) = true := by decide +kernel) : DT K (tTest (tOp (rEqD K) (tOp (rIxT K) te (tC (.int 0))) (tC (.str b)))) G (a == b) :=
  dt_test (de_op (de_op h de_int (rd_ixT (j := 0) rfl rfl)) de_str (rd_eq ha hb rfl rfl))
theorem dt_headN {a b : Str} {r : List PyData} (h : DE K te G (.tuple (.str a :: r))) (ha : SeqAt.shaped (.str a) = true := by decide +kernel) (hb : SeqAt.shaped (.str b) = true := by decide +kernel) : DT K (tTest (tOp (rNeD K) (tOp (rIxT K) te (tC (.int 0))) (tC (.str b)))) G (!(a == b)) :=
  dt_test (de_op (de_op h de_int (rd_ixT (j := 0) rfl rfl)) de_str (rd_ne ha hb rfl rfl))
theorem de_head {a b : Str} {r : List PyData} (h : DE K te G (.tuple (.str a :: r))) (ha : SeqAt.shaped (.str a) = true := by decide +kernel) (hb : SeqAt.shaped (.str b) = true := by decide +kernel) : DE K (tOp (rEqD K) (tOp (rIxT K) te (tC (.int 0))) (tC (.str b))) G (.bool (a == b)) :=
  de_op (de_op h de_int (rd_ixT (j := 0) rfl rfl)) de_str (rd_eq ha hb rfl rfl)
/-- len(te) == n of a tuple -/
theorem dt_lenT {ds : List PyData} {n : Int} (h : DE K te G (.tuple ds)) : DT K (tTest (tOp (rEqD K) (tCB (FC.rLen K) (tCons te tNil)) (tC (.int n)))) G ((ds.length : Int) == n) :=
  dt_test (de_op (de_cb (da_cons h da_nil) cd_lenT) de_int (rd_eq (sh_int _) (sh_int _) rfl rfl))
theorem dt_lenTN {ds : List PyData} {n : Int} (h : DE K te G (.tuple ds)) : DT K (tTest (tOp (rNeD K) (tCB (FC.rLen K) (tCons te tNil)) (tC (.int n)))) G (!((ds.length : Int) == n)) :=
  dt_test (de_op (de_cb (da_cons h da_nil) cd_lenT) de_int (rd_ne (sh_int _) (sh_int _) rfl rfl))
theorem de_at {ds : List PyData} {d : PyData} {i : Int} {j : Nat} (h : DE K te G (.tuple ds)) (hi : i = (j : Int)) (hd : ds[j]? = some d) : DE K (tOp (rIxT K) te (tC (.int i))) G d := de_op h de_int (rd_ixT hi hd)
theorem sc_is_filled_list : FnScope ["thing"] ["thing"] (defScope s_is_filled_list) := ⟨rfl, rfl, rfl, by decide +kernel, rfl, by decide +kernel, by decide +kernel⟩
theorem ok_is_filled_list (F : Fun K "is_filled_list" "is_filled_list" s_is_filled_list f fd) (M : Bl mg) : FnOk P w K mg base CX0 1 f fd ["thing"] (spR K Rw_is_filled_list) := by
  refine F.ok sc_is_filled_list (spR_len (by rintro _ _ ⟨_, rfl, _⟩; rfl)) (fun cdv A outer s H vs Q E hr h => ?_)
  obtain ⟨B, ds, o, x, r, ⟨xs, rfl, hne, rfl⟩, q⟩ := h
  refine ⟨_, pss_one (ps_ret (pe_and (k_isi (pv 0) (by rfl) M.isi (by rfl) M.list PyProof.Rows.boot_list (by decide) (by decide)) (pe_one (pe_cmpR op_gt (pe_callB call_lenR (by rfl) M.len PySem.boot_len (pa_cons (pv 0) pa_nil)) pe_int (nomark _))))), ?_⟩
  refine fin_rt (ds_ret ?_) x r q
  show DE K _ [some (.list xs)] _
  refine de_is (de_and (de_ty (de_var rfl) rfl kll) fun _ => de_op (de_cb (da_cons (de_var rfl) da_nil) cd_lenL) de_int rd_gt) ?_
  have : (0 : Int) < xs.length := by
    cases xs with
    | nil => exact absurd rfl hne
    | cons => simp
  rw [decide_eq_true this]
  rfl
theorem sc_are_unlike_names : FnScope ["things", "thing"] ["things"] (defScope s_are_unlike_names) := ⟨rfl, rfl, rfl, by decide +kernel, rfl, by decide +kernel, by decide +kernel⟩
theorem ok_are_unlike_names (F : Fun K "are_unlike_names" "are_unlike_names" s_are_unlike_names f fd) (M : Bl mg) (cn : CL P w K mg base 1 "is_name" Rw_is_name) : FnOk P w K mg base CX0 2 f fd ["things"] (spR K Rw_are_unlike_names) := by
  refine F.ok sc_are_unlike_names (spR_len (by rintro _ _ ⟨_, rfl, _⟩; rfl)) (fun cdv A outer s H vs Q E hr h => ?_)
  obtain ⟨B, ds, o, x, r, ⟨ws, rfl, hn, hnd, hl, rfl⟩, q⟩ := h
  have hu64 : (A.deeper (envOfC "are_unlike_names" (defScope s_are_unlike_names) s.heap.objs.size f cdv)).units + 64 < cLine := by have := hr.un; omega
  have nd := sc_are_unlike_names.nd
  refine ⟨_, pss_one (ps_ret (pe_and (pe_callB (cr_all rfl) (by rfl) M.all PyProof.Rows.boot_all (pa_cons (pe_lc (own := [("thing", 1)]) (g := gName 1) (tt := tYes) rfl nd (pi_list (pv 0)) (blkOk_by (N := ["things", "thing"]) (sc := defScope s_are_unlike_names) (by decide +kernel)) (fun _ _ _ _ _ => pg_name (i := 1) nd rfl (Or.inl rfl)) (fun _ _ _ _ _ => pts_nil)
      (fun _ _ _ _ _ => pe_cl cn hr (by decide) (by rfl) (pa_cons (pv 1) pa_nil))) pa_nil))
    (pe_one (pe_cmpR (op_eqD hu64) (pe_lenSetS (by rfl) M.len (by rfl) M.set (pv 0)) (pe_callB call_lenR (by rfl) M.len PySem.boot_len (pa_cons (pv 0) pa_nil)) (nomark _))))), ?_⟩
  refine fin_rt (ds_ret ?_) x r q
  show DE K _ [some (strL ws), none] _
  refine de_is (de_and (de_cb (da_cons (de_is (de_lc (fun _ => true) (fun _ => .bool true) (di_list (ds := ws.map .str) (de_var rfl)) (by decide) (fun _ _ => dt_yes) (fun i hi _ => ?_) (fun _ _ _ => rfl) (by rw [List.length_map]; omega)) (congrArg PyData.list (madeG_bools (fun _ => true) _))) da_nil) cd_all) fun _ => de_op (de_lenSet (de_var rfl) hnd (by omega)) (de_cb (da_cons (de_var (d := .list (ws.map .str)) rfl) da_nil) cd_lenL) (rd_eq (sh_int _) (sh_int _) rfl rfl)) ?_
  · have hi : i < ws.length := by simpa using hi
    show DE K _ [some (strL ws), (ws.map PyData.str)[i]?] _
    rw [get_map hi]
    exact de_call' (da_cons (de_var rfl) da_nil) ⟨ws[i], rfl, hn _ (List.getElem_mem hi), rfl⟩
  · rw [all_true fun _ _ => rfl, List.length_map]
    show PyData.bool (true && ((ws.length : Int) == (ws.length : Int))) = _
    rw [beq_self_eq_true]
    rfl
theorem sc_is_maker : FnScope ["kinds", "thing", "part"] ["kinds", "thing"] (defScope s_is_maker) := ⟨rfl, rfl, rfl, by decide +kernel, rfl, by decide +kernel, by decide +kernel⟩
theorem ok_is_maker (F : Fun K "is_maker" "is_maker" s_is_maker f fd) (M : Bl mg) (ck : CL P w K mg base 1 "is_kind" Rw_is_kind) : FnOk P w K mg base CX0 2 f fd ["kinds", "thing"] (spR K Rw_is_maker) := by
  refine F.ok sc_is_maker (spR_len (by rintro _ _ ⟨_, _, rfl, _⟩; rfl)) (fun cdv A outer s H vs Q E hr h => ?_)
  obtain ⟨B, ds, o, x, r, ⟨kvs, m, rfl, ok, rfl⟩, q⟩ := h
  have hu64 : (A.deeper (envOfC "is_maker" (defScope s_is_maker) s.heap.objs.size f cdv)).units + 64 < cLine := by have := hr.un; omega
  have nd := sc_is_maker.nd
  refine ⟨_, pss_cons (ps_if (pw_or (pt_not (pt_val (k_isi (pv 1) (by rfl) M.isi (by rfl) M.tuple PyProof.Rows.boot_tuple (by decide) (by decide)))) (pw_or (pt_cmpR (op_neD hu64) (pe_callB call_lenR (by rfl) M.len PySem.boot_len (pa_cons (pv 1) pa_nil)) pe_int (nomark _)) (pw_or1 (pt_not (pt_val (k_isi (pe_ix ix_tup (pv 1) pe_int (fun _ _ => rfl)) (by rfl) M.isi (by rfl) M.list PyProof.Rows.boot_list (by decide) (by decide))))))).pt pss_never pss_nil)
    (pss_one (ps_ret (pe_callB (cr_all rfl) (by rfl) M.all PyProof.Rows.boot_all (pa_cons (pe_lc (own := [("part", 2)]) (g := gName 2) (tt := tYes) rfl nd (pi_list (pe_ix ix_tup (pv 1) pe_int (fun _ _ => rfl))) (blkOk_by (N := ["kinds", "thing", "part"]) (sc := defScope s_is_maker) (by decide +kernel)) (fun _ _ _ _ _ => pg_name (i := 2) nd rfl (Or.inl rfl)) (fun _ _ _ _ _ => pts_nil)
      (fun _ _ _ _ _ => pe_cl ck hr (by decide) (by rfl) (pa_cons (pv 0) (pa_cons (pv 2) pa_nil)))) pa_nil)))), ?_⟩
  refine fin_rt ?_ x r q
  show DS K _ [some (dictOf kvs), some (makerD m), none] _
  have hv : DE K (tVar 1) [some (dictOf kvs), some (makerD m), none] (.tuple [.str m.1, strL m.2]) := de_var rfl
  refine ds_guard (b := false) (dt_is (dt_or (dt_not (dt_B (de_ty hv rfl ktt))) fun _ => dt_or (dt_lenTN hv) fun _ => dt_not (dt_B (de_ty (de_at (j := 1) hv rfl rfl) rfl kll))) rfl) (fun z => nomatch z) fun _ => ds_ret ?_
  refine de_is (de_cb (da_cons (de_is (de_lc (fun _ => true) (fun _ => .bool true) (di_list (ds := m.2.map .str) (de_at (j := 1) hv rfl rfl)) (by decide) (fun _ _ => dt_yes) (fun i hi _ => ?_) (fun _ _ _ => rfl) (by rw [List.length_map]; have := ok.few; omega)) (congrArg PyData.list (madeG_bools (fun _ => true) _))) da_nil) cd_all) ?_
  · have hi : i < m.2.length := by simpa using hi
    show DE K _ [some (dictOf kvs), some (makerD m), (m.2.map PyData.str)[i]?] _
    rw [get_map hi]
    exact de_call' (da_cons (de_var rfl) (da_cons (de_var rfl) da_nil)) ⟨kvs, m.2[i], rfl, by rw [ok.parts _ (List.getElem_mem hi)]⟩
  · rw [all_true fun _ _ => rfl]
theorem sc_are_makers : FnScope ["kinds", "things", "thing"] ["kinds", "things"] (defScope s_are_makers) := ⟨rfl, rfl, rfl, by decide +kernel, rfl, by decide +kernel, by decide +kernel⟩
theorem ok_are_makers (F : Fun K "are_makers" "are_makers" s_are_makers f fd) (M : Bl mg) (cm : CL P w K mg base 2 "is_maker" Rw_is_maker) (cu : CL P w K mg base 2 "are_unlike_names" Rw_are_unlike_names) : FnOk P w K mg base CX0 3 f fd ["kinds", "things"] (spR K Rw_are_makers) := by
  refine F.ok sc_are_makers (spR_len (by rintro _ _ ⟨_, _, rfl, _⟩; rfl)) (fun cdv A outer s H vs Q E hr h => ?_)
  obtain ⟨B, ds, o, x, r, ⟨kvs, ms, rfl, ok, hnd, few, rfl⟩, q⟩ := h
  have nd := sc_are_makers.nd
  refine ⟨_, pss_cons (ps_if (pt_not (pt_val (pe_callB (cr_all rfl) (by rfl) M.all PyProof.Rows.boot_all (pa_cons (pe_lc (own := [("thing", 2)]) (g := gName 2) (tt := tYes) rfl nd (pi_list (pv 1)) (blkOk_by (N := ["kinds", "things", "thing"]) (sc := defScope s_are_makers) (by decide +kernel)) (fun _ _ _ _ _ => pg_name (i := 2) nd rfl (Or.inl rfl)) (fun _ _ _ _ _ => pts_nil)
      (fun _ _ _ _ _ => pe_cl cm hr (by decide) (by rfl) (pa_cons (pv 0) (pa_cons (pv 2) pa_nil)))) pa_nil)))) pss_never pss_nil)
    (pss_one (ps_ret (pe_cl cu hr (by decide) (by rfl) (pa_cons (pe_lc (own := [("thing", 2)]) (g := gName 2) (tt := tYes) (te := tOp (rIxT K) (tVar 2) (tC (.int 0))) rfl nd (pi_list (pv 1)) (blkOk_by (N := ["kinds", "things", "thing"]) (sc := defScope s_are_makers) (by decide +kernel)) (fun _ _ _ _ _ => pg_name (i := 2) nd rfl (Or.inl rfl)) (fun _ _ _ _ _ => pts_nil)
      (fun _ _ _ _ _ => pe_ix ix_tup (pv 2) pe_int (fun _ _ => rfl))) pa_nil)))), ?_⟩
  refine fin_rt ?_ x r q
  show DS K _ [some (dictOf kvs), some (.list (ms.map makerD)), none] _
  refine ds_guard (b := false) (dt_is (dt_not (dt_B (de_cb (da_cons (de_is (de_lc (fun _ => true) (fun _ => .bool true) (di_list (ds := ms.map makerD) (de_var rfl)) (by decide) (fun _ _ => dt_yes) (fun i hi _ => ?_) (fun _ _ _ => rfl) (by rw [List.length_map]; omega)) (congrArg PyData.list (madeG_bools (fun _ => true) _))) da_nil) cd_all))) (by rw [all_true fun _ _ => rfl]; rfl)) (fun z => nomatch z) fun _ => ds_ret ?_
  · have hi : i < ms.length := by simpa using hi
    show DE K _ [some (dictOf kvs), some (.list (ms.map makerD)), (ms.map makerD)[i]?] _
    rw [get_map hi]
    exact de_call' (da_cons (de_var rfl) (da_cons (de_var rfl) da_nil)) ⟨kvs, ms[i], rfl, ok _ (List.getElem_mem hi), rfl⟩
  · refine de_call' (da_cons (de_is (de_lc (fun _ => true) (fun i => ((ms.map (·.1)).map PyData.str).getD i .none) (di_list (ds := ms.map makerD) (de_var rfl)) (by decide) (fun _ _ => dt_yes) (fun i hi _ => ?_) (fun i hi _ => ?_) (by rw [List.length_map]; omega)) (e := strL (ms.map (·.1))) (congrArg PyData.list (madeG_of (by simp) fun i hi => ?_))) da_nil) ⟨ms.map (·.1), rfl, fun w hw => ?_, hnd, by rw [List.length_map]; exact few, rfl⟩
    · have hi : i < ms.length := by simpa using hi
      show DE K _ [some (dictOf kvs), some (.list (ms.map makerD)), (ms.map makerD)[i]?] _
      rw [get_map hi]
      have e : ((ms.map (·.1)).map PyData.str).getD i .none = .str (ms[i]).1 := by
        rw [List.getD_eq_getElem?_getD, List.map_map, get_map hi]
        rfl
      rw [e]
      exact de_at (j := 0) (de_var (d := .tuple [.str (ms[i]).1, strL (ms[i]).2]) rfl) rfl rfl
    · have hi : i < ms.length := by simpa using hi
      rw [List.getD_eq_getElem?_getD, List.map_map, get_map hi]
      rfl
    · have hi : i < ms.length := by simpa using hi
      rw [List.getD_eq_getElem?_getD, List.map_map, get_map hi]
      rfl
    · obtain ⟨m, hm, rfl⟩ := List.mem_map.mp hw
      exact (ok m hm).nm
end
end FP
namespace FP
open PySem PySem.Spec PyProof.Rows L2 FC FG
open Evl (Ex)
section
variable {K : PySem.W.Frag} {G : List (Option PyData)} {ta tb te : TE} {wi : TI}
/-- over a list of pairs, a pair of names as target -/
theorem di_listP {ps : List (PyData × PyData)} {j k : Nat} (h : DE K te G (.list (ps.map pairT))) : DI K (iList K te) (gTup K 2 (gCons (gName j) (gCons (gName k) gNil))) [j, k] G ps.length (fun i G2 => (G2.set j (ps[i]?.map (·.1))).set k (ps[i]?.map (·.2))) := fun σ B H x en R q =>
  h σ B H x en _ fun v B1 H1 g1 r1 => by
    have r1 := r1.dp rfl
    cases r1 with
    | @lst a xs _ hs ha =>
      refine ⟨a, rfl, ⟨xs, ex_l g1.sub hs⟩, ?_⟩
      have hl := dps_len ha
      rw [List.length_map] at hl
      refine q (Itl K a) B1 H1 (YAt xs) g1 ?_ fun i hi B2 H2 σ2 G2 y H3 e1 e2 en2 hy Q kk => ?_
      · rw [← hl]
        exact walk_list.mono (fun H2 e => ex_l e hs) fun _ _ _ _ _ _ y => y
      · obtain ⟨rfl, hy⟩ := hy
        have hd : (ps.map pairT)[i]? = some (.tuple [ps[i].1, ps[i].2]) := get_map hi
        obtain ⟨y', h1, h2⟩ := dps_get ha hd
        obtain rfl : y = y' := Option.some.inj (hy.symm.trans h1)
        have h2 := dp_ex e1 _ _ h2
        cases h2 with
        | @tup b zs _ hz hza =>
          cases hza with
          | cons q1 hza =>
          cases hza with
          | cons q2 hza =>
          cases hza
          refine ⟨b, _, rfl, ex_t e2 hz, rfl, _, _, rfl, _, _, rfl, rfl, ?_⟩
          refine kk _ B2 _ (.refl e2) ?_ fun vs hv => ?_
          · show En K _ _ ((G2.set j (ps[i]?.map (·.1))).set k (ps[i]?.map (·.2)))
            rw [List.getElem?_eq_getElem hi]
            exact (en2.set j (.d q1)).set k (.d q2)
          · rw [wipe_set (hv k (by simp)), wipe_set (hv j (by simp))]
theorem inV_strs {s : Str} : ∀ {ws : List Str} {xs : List V}, xs = ws.map V.str → inV (.str s) xs = ws.contains s := by
  intro ws xs e
  subst e
  unfold inV
  rw [List.any_map, List.contains_eq_any_beq]
  congr 1
  funext w
  show (w == s) = (s == w)
  by_cases h : w = s
  · subst h
    rfl
  · rw [beq_eq_false_iff_ne.mpr h, beq_eq_false_iff_ne.mpr (Ne.symm h)]
theorem flat_strs' : ∀ ws : List Str, (ws.map V.str).all flatV = true
  | [] => rfl
  | w :: ws => (Bool.true_and _).trans (flat_strs' ws)
theorem rd_inS {s : Str} {ws : List Str} : RD K (rIn K false) (.str s) (strL ws) (.bool (ws.contains s)) := fun B H v w x r1 r2 Q q => by
  cases rt_str r1
  have r2 := (show Rt K B w (.list (ws.map .str)) from r2).dp rfl
  cases r2 with
  | lst hs ha =>
    have e := texts_data ha
    refine ⟨_, _, rfl, .inl (ex_l x hs), rfl, by rw [e]; exact flat_strs' ws, ?_⟩
    show Q (.bl (inV _ _)) H
    rw [inV_strs e]
    exact q _ B H (.refl x) (.d (.bl _))
end
/-! ### which kinds can be built of others -/
def partsOf : PyData → List Str
  | .list ps => ps.filterMap fun
    | .str s => some s
    | _ => none
  | _ => []
def canM (built : List Str) : PyData → Bool
  | .tuple [_, ps] => (partsOf ps).all fun p => built.contains p
  | _ => false
def canB (built : List Str) : PyData → Bool
  | .tuple [.str n, .list ms] => if n == "makers" then ms.any (canM built) else true
  | _ => true
theorem parts_strL (ws : List Str) : partsOf (strL ws) = ws := by
  unfold strL partsOf
  induction ws with
  | nil => rfl
  | cons w ws ih => simpa using ih
theorem canM_maker (built : List Str) (m : Str × List Str) : canM built (makerD m) = m.2.all fun p => built.contains p := by
  show ((partsOf (strL m.2)).all fun p => built.contains p) = _
  rw [parts_strL]
theorem canB_makers (built : List Str) (ms : List (Str × List Str)) : canB built (makersD ms) = ms.any fun m => m.2.all fun p => built.contains p := by
  show (if (("makers" : Str) == "makers") = true then (ms.map makerD).any (canM built) else true) = _
  rw [if_pos (by decide +kernel), List.any_map]
  congr 1
  funext m
  exact canM_maker built m
theorem canB_nums (built : List Str) (lo hi : Int) : canB built (numsD lo hi) = true := rfl
theorem canB_rows (built : List Str) (c : Str) : canB built (rowsD c) = true := rfl
theorem canB_words (built : List Str) (ws : List Str) : canB built (wordsD ws) = true := by
  show (if (("words" : Str) == "makers") = true then (ws.map PyData.str).any (canM built) else true) = _
  rw [if_neg (by decide +kernel)]
def round (kvs : List (Str × PyData)) (built : List Str) : List Str := (kvs.filter fun q => canB built q.2).map (·.1)
def rounds (kvs : List (Str × PyData)) : Nat → List Str
  | 0 => []
  | n + 1 => round kvs (rounds kvs n)
structure KindsOk (kvs : List (Str × PyData)) : Prop where
  ne : kvs ≠ []
  few : kvs.length ≤ 100
  nm : ∀ q ∈ kvs, isNameS q.1 = true
  fm : ∀ q ∈ kvs, OkForm kvs q.2
  nd : (kvs.map (·.1)).Nodup
  hv : (rounds kvs kvs.length).length = kvs.length
def Rw_is_kinds : List PyData → PyData → Prop := fun ds o => ∃ kvs, ds = [dictU kvs] ∧ KindsOk kvs ∧ o = .bool true
def Rw_all_have_values : List PyData → PyData → Prop := Rw_is_kinds
def Rw_can_be_built : List PyData → PyData → Prop := fun ds o => ∃ kvs d built, ds = [d, strL built] ∧ OkForm kvs d ∧ o = .bool (canB built d)
section
variable {P : Program} {w : World} {K : PySem.W.Frag} {mg : Str → Option Value} {base : Heap} {f : Addr} {fd : FuncData}
theorem sc_is_form : FnScope ["kinds", "thing"] ["kinds", "thing"] (defScope s_is_form) := ⟨rfl, rfl, rfl, by decide +kernel, rfl, by decide +kernel, by decide +kernel⟩
theorem ok_is_form (F : Fun K "is_form" "is_form" s_is_form f fd) (M : Bl mg) (cb : CL P w K mg base 2 "is_bounds" Rw_is_bounds) (cf : CL P w K mg base 1 "is_filled_list" Rw_is_filled_list) (cu : CL P w K mg base 2 "are_unlike_names" Rw_are_unlike_names) (cm : CL P w K mg base 3 "are_makers" Rw_are_makers) (ck : CL P w K mg base 1 "is_kind" Rw_is_kind) : FnOk P w K mg base CX0 4 f fd ["kinds", "thing"] (spR K Rw_is_form) := by
  refine F.ok sc_is_form (spR_len (by rintro _ _ ⟨_, _, rfl, _⟩; rfl)) (fun cdv A outer s H vs Q E hr h => ?_)
  obtain ⟨B, ds, o, x, r, ⟨kvs, d, rfl, hf, rfl⟩, q⟩ := h
  have hu64 : (A.deeper (envOfC "is_form" (defScope s_is_form) s.heap.objs.size f cdv)).units + 64 < cLine := by have := hr.un; omega
  refine ⟨_, pss_cons (ps_if (pt_not (pt_val (k_isi (pv 1) (by rfl) M.isi (by rfl) M.tuple PyProof.Rows.boot_tuple (by decide) (by decide)))) pss_never pss_nil)
    (pss_cons (ps_if (pt_cmpR (op_eqD hu64) (pe_callB call_lenR (by rfl) M.len PySem.boot_len (pa_cons (pv 1) pa_nil)) pe_int (nomark _))
      (pss_one (ps_ret (pe_and (pe_cmpR (op_eqD hu64) (pe_ix ix_tup (pv 1) pe_int (fun _ _ => rfl)) pe_str (nomark _)) (pe_one (pe_cl cb hr (by decide) (by rfl) (pa_cons (pe_ix ix_tup (pv 1) pe_int (fun _ _ => rfl)) (pa_cons (pe_ix ix_tup (pv 1) pe_int (fun _ _ => rfl)) pa_nil))))))) pss_nil)
    (pss_cons (ps_if (pt_cmpR (op_neD hu64) (pe_callB call_lenR (by rfl) M.len PySem.boot_len (pa_cons (pv 1) pa_nil)) pe_int (nomark _)) pss_never pss_nil)
    (pss_cons (ps_if (pt_cmpR (op_eqD hu64) (pe_ix ix_tup (pv 1) pe_int (fun _ _ => rfl)) pe_str (nomark _)) (pss_one (ps_ret (pe_and (pe_cl cf hr (by decide) (by rfl) (pa_cons (pe_ix ix_tup (pv 1) pe_int (fun _ _ => rfl)) pa_nil)) (pe_one (pe_cl cu hr (by decide) (by rfl) (pa_cons (pe_ix ix_tup (pv 1) pe_int (fun _ _ => rfl)) pa_nil)))))) pss_nil)
    (pss_cons (ps_if (pt_cmpR (op_eqD hu64) (pe_ix ix_tup (pv 1) pe_int (fun _ _ => rfl)) pe_str (nomark _)) (pss_one (ps_ret (pe_and (pe_cl cf hr (by decide) (by rfl) (pa_cons (pe_ix ix_tup (pv 1) pe_int (fun _ _ => rfl)) pa_nil)) (pe_one (pe_cl cm hr (by decide) (by rfl) (pa_cons (pv 0) (pa_cons (pe_ix ix_tup (pv 1) pe_int (fun _ _ => rfl)) pa_nil))))))) pss_nil)
    (pss_one (ps_ret (pe_and (pe_cmpR (op_eqD hu64) (pe_ix ix_tup (pv 1) pe_int (fun _ _ => rfl)) pe_str (nomark _)) (pe_one (pe_cl ck hr (by decide) (by rfl) (pa_cons (pv 0) (pa_cons (pe_ix ix_tup (pv 1) pe_int (fun _ _ => rfl)) pa_nil))))))))))), ?_⟩
  refine fin_rt ?_ x r q
  show DS K _ [some (dictOf kvs), some d] _
  cases hf with
  | @nums lo hi h =>
    have hv : DE K (tVar 1) [some (dictOf kvs), some (numsD lo hi)] (.tuple [.str "numbers", .int lo, .int hi]) := de_var rfl
    refine ds_guard (b := false) (dt_is (dt_not (dt_B (de_ty hv rfl ktt))) rfl) (fun z => nomatch z) fun _ => ds_guard (b := true) (dt_lenT hv) (fun _ => ds_ret ?_) (fun z => nomatch z)
    refine de_is (de_and (de_head hv) fun _ => de_call' (da_cons (de_at (j := 1) hv rfl rfl) (da_cons (de_at (j := 2) hv rfl rfl) da_nil)) ⟨lo, hi, rfl, rfl⟩) ?_
    rw [decide_eq_true h]
    exact congrArg PyData.bool (by decide +kernel)
  | @rows t h =>
    have hv : DE K (tVar 1) [some (dictOf kvs), some (rowsD t)] (.tuple [.str "rows", .str t]) := de_var rfl
    refine ds_guard (b := false) (dt_is (dt_not (dt_B (de_ty hv rfl ktt))) rfl) (fun z => nomatch z) fun _ => ds_guard (b := false) (dt_lenT hv) (fun z => nomatch z) fun _ => ds_guard (b := false) (dt_lenTN hv) (fun z => nomatch z) fun _ =>
      ds_guard (b := false) (dt_is (dt_head hv) (by decide +kernel)) (fun z => nomatch z) fun _ => ds_guard (b := false) (dt_is (dt_head hv) (by decide +kernel)) (fun z => nomatch z) fun _ => ds_ret ?_
    refine de_is (de_and (de_head hv) fun _ => de_call' (da_cons (de_var rfl) (da_cons (de_at (j := 1) hv rfl rfl) da_nil)) ⟨kvs, t, rfl, rfl⟩) ?_
    rw [h]
    exact congrArg PyData.bool (by decide +kernel)
  | @words ws ne nm nd few =>
    have hv : DE K (tVar 1) [some (dictOf kvs), some (wordsD ws)] (.tuple [.str "words", strL ws]) := de_var rfl
    refine ds_guard (b := false) (dt_is (dt_not (dt_B (de_ty hv rfl ktt))) rfl) (fun z => nomatch z) fun _ => ds_guard (b := false) (dt_lenT hv) (fun z => nomatch z) fun _ => ds_guard (b := false) (dt_lenTN hv) (fun z => nomatch z) fun _ =>
      ds_guard (b := true) (dt_is (dt_head hv) (by decide +kernel)) (fun _ => ds_ret ?_) (fun z => nomatch z)
    exact de_is (de_and (de_call' (da_cons (de_at (j := 1) hv rfl rfl) da_nil) ⟨ws.map .str, rfl, fun z => ne (List.map_eq_nil_iff.mp z), rfl⟩) fun _ => de_call' (da_cons (de_at (j := 1) hv rfl rfl) da_nil) ⟨ws, rfl, nm, nd, few, rfl⟩) rfl
  | @makers ms ne ok nd few =>
    have hv : DE K (tVar 1) [some (dictOf kvs), some (makersD ms)] (.tuple [.str "makers", .list (ms.map makerD)]) := de_var rfl
    refine ds_guard (b := false) (dt_is (dt_not (dt_B (de_ty hv rfl ktt))) rfl) (fun z => nomatch z) fun _ => ds_guard (b := false) (dt_lenT hv) (fun z => nomatch z) fun _ => ds_guard (b := false) (dt_lenTN hv) (fun z => nomatch z) fun _ =>
      ds_guard (b := false) (dt_is (dt_head hv) (by decide +kernel)) (fun z => nomatch z) fun _ => ds_guard (b := true) (dt_is (dt_head hv) (by decide +kernel)) (fun _ => ds_ret ?_) (fun z => nomatch z)
    exact de_is (de_and (de_call' (da_cons (de_at (j := 1) hv rfl rfl) da_nil) ⟨ms.map makerD, rfl, fun z => ne (List.map_eq_nil_iff.mp z), rfl⟩) fun _ => de_call' (da_cons (de_var rfl) (da_cons (de_at (j := 1) hv rfl rfl) da_nil)) ⟨kvs, ms, rfl, ok, nd, few, rfl⟩) rfl
theorem makers_pairs (ms : List (Str × List Str)) : (ms.map fun m => (PyData.str m.1, strL m.2)).map pairT = ms.map makerD := by
  rw [List.map_map]
  rfl
/-- the scope of a comprehension -/
abbrev blkSc (ns : List (Str × NameKind)) : Scope := { kind := .function, names := (".0", .local) :: ns, isGenerator := false, isCoroutine := false }
theorem range_map {α β : Type} (d : α) (f : α → β) (xs : List α) : ((List.range xs.length).map fun i => f (xs.getD i d)) = xs.map f := by
  refine List.ext_getElem (by simp) fun i h1 h2 => ?_
  have hi : i < xs.length := by simpa using h2
  simp [List.getD_eq_getElem?_getD, List.getElem?_eq_getElem hi]
theorem getD_at {α : Type} {d : α} {xs : List α} {i : Nat} (h : i < xs.length) : xs.getD i d = xs[i]'h := by
  rw [List.getD_eq_getElem?_getD, List.getElem?_eq_getElem h]
  rfl
theorem sc_can_be_built : FnScope ["form", "built", "_", "parts", "part"] ["form", "built"] (defScope s_can_be_built) := ⟨rfl, rfl, rfl, by decide +kernel, rfl, by decide +kernel, by decide +kernel⟩
theorem ok_can_be_built (F : Fun K "can_be_built" "can_be_built" s_can_be_built f fd) (M : Bl mg) : FnOk P w K mg base CX0 1 f fd ["form", "built"] (spR K Rw_can_be_built) := by
  refine F.ok sc_can_be_built (spR_len (by rintro _ _ ⟨_, _, _, rfl, _⟩; rfl)) (fun cdv A outer s H vs Q E hr h => ?_)
  obtain ⟨B, ds, o, x, r, ⟨kvs, d, built, rfl, hf, rfl⟩, q⟩ := h
  have hu64 : (A.deeper (envOfC "can_be_built" (defScope s_can_be_built) s.heap.objs.size f cdv)).units + 64 < cLine := by have := hr.un; omega
  have nd := sc_can_be_built.nd
  by_cases hm : ∃ ms, d = makersD ms
  · obtain ⟨ms, rfl⟩ := hm
    refine ⟨_, pss_cons (ps_if (pt_cmpR (op_neD hu64) (pe_ix ix_tup (pv 0) pe_int (fun _ _ => rfl)) pe_str (nomark _)) pss_never pss_nil)
      (pss_one (ps_ret (pe_callB (cr_any rfl) (by rfl) M.any PyProof.Rows.boot_any (pa_cons (pe_lc (own := [("_", 2), ("parts", 3)]) (g := gTup K 2 (gCons (gName 2) (gCons (gName 3) gNil))) (tt := tYes) (te := tCB (rAll K) (tCons (tLc (iList K (tVar 3)) (gName 4) tYes (tOp (rIn K false) (tVar 4) (tVar 1)) [4]) tNil)) rfl nd (pi_list (pe_ix ix_tup (pv 0) pe_int (fun _ _ => rfl))) (blkOk_by (N := ["form", "built", "_", "parts", "part"]) (sc := defScope s_can_be_built) (by decide +kernel)) (fun _ _ _ _ _ => pg_tup rfl (pgs_cons (pg_name (i := 2) nd rfl (Or.inl rfl)) (pgs_cons (pg_name (i := 3) nd rfl (Or.inl rfl)) pgs_nil))) (fun _ _ _ _ _ => pts_nil)
        (fun _ _ _ _ _ => pe_callB (cr_all rfl) (by rfl) M.all PyProof.Rows.boot_all (pa_cons (pe_lc (own := [("part", 4)]) (g := gName 4) (tt := tYes) (te := tOp (rIn K false) (tVar 4) (tVar 1)) rfl nd (pi_list (pv 3)) (blkOk_by (N := ["form", "built", "_", "parts", "part"]) (sc := blkSc [("_", .local), ("parts", .local), ("all", .globalImplicit), ("built", .cell)]) (by decide +kernel)) (fun _ _ _ _ _ => pg_name (i := 4) nd rfl (Or.inl rfl)) (fun _ _ _ _ _ => pts_nil)
          (fun _ _ _ _ _ => pe_cmpR op_in_seq (pv 4) (pv 1) (by rfl))) pa_nil))) pa_nil)))), ?_⟩
    refine fin_rt ?_ x r q
    show DS K _ [some (makersD ms), some (strL built), none, none, none] _
    have hv : DE K (tVar 0) [some (makersD ms), some (strL built), none, none, none] (.tuple [.str "makers", .list (ms.map makerD)]) := de_var rfl
    have hok : ∀ m ∈ ms, m.2.length ≤ 100 ∧ ms.length ≤ 100 := by
      intro m hm
      generalize hd : makersD ms = dd at hf
      cases hf with
      | nums h => cases hd
      | rows h => cases hd
      | words ne nm nd few => unfold makersD wordsD at hd; cases (PyData.str.inj (List.cons.inj (PyData.tuple.inj hd)).1)
      | @makers ms2 ne ok nd few =>
        have e := PyData.list.inj (List.cons.inj (List.cons.inj (PyData.tuple.inj hd)).2).1
        have hm2 : makerD m ∈ ms2.map makerD := by rw [← e]; exact List.mem_map.mpr ⟨m, hm, rfl⟩
        obtain ⟨m2, h2, e2⟩ := List.mem_map.mp hm2
        have hl : ms.length = ms2.length := by simpa using congrArg List.length e
        have e3 := PyData.list.inj (List.cons.inj (List.cons.inj (PyData.tuple.inj e2)).2).1
        have hl2 : m2.2.length = m.2.length := by simpa using congrArg List.length e3
        have := (ok m2 h2).few
        omega
    have few : ms.length ≤ 100 := by
      cases ms with
      | nil => exact Nat.zero_le _
      | cons m ms => exact (hok m (by simp)).2
    rw [show canB built (makersD ms) = _ from canB_makers built ms]
    refine ds_guard (b := false) (dt_is (dt_headN hv) (by decide +kernel)) (fun z => nomatch z) fun _ => ds_ret ?_
    refine de_is (de_cb (da_cons (de_is (de_lc (fun _ => true) (fun i => .bool ((ms.getD i (Str.empty, [])).2.all fun p => built.contains p)) (di_listP (ps := ms.map fun m => (PyData.str m.1, strL m.2)) (de_is (de_at (j := 1) hv rfl rfl) (by rw [makers_pairs]))) (by decide) (fun _ _ => dt_yes) (fun i hi _ => ?_) (fun _ _ _ => rfl) (by rw [List.length_map]; omega)) (congrArg PyData.list (madeG_bools (fun i => (ms.getD i (Str.empty, [])).2.all fun p => built.contains p) _))) da_nil) cd_any) ?_
    · have hi : i < ms.length := by simpa using hi
      have hm : ms.getD i (Str.empty, []) ∈ ms := by rw [getD_at hi]; exact List.getElem_mem hi
      have hl := (hok _ hm).1
      generalize hmi : ms.getD i (Str.empty, []) = m at hm hl ⊢
      have hg : (ms.map fun m => (PyData.str m.1, strL m.2))[i]? = some (.str m.1, strL m.2) := by
        rw [List.getElem?_map, List.getElem?_eq_getElem hi, ← hmi, getD_at hi]
        rfl
      show DE K _ [some (makersD ms), some (strL built), ((ms.map fun m => (PyData.str m.1, strL m.2))[i]?.map (·.1)), ((ms.map fun m => (PyData.str m.1, strL m.2))[i]?.map (·.2)), none] _
      rw [hg]
      refine de_is (de_cb (da_cons (de_is (de_lc (fun _ => true) (fun j => .bool (built.contains (m.2.getD j Str.empty))) (di_list (ds := m.2.map .str) (de_var rfl)) (by decide) (fun _ _ => dt_yes) (fun j hj _ => ?_) (fun _ _ _ => rfl) (by rw [List.length_map]; omega)) (congrArg PyData.list (madeG_bools (fun j => built.contains (m.2.getD j Str.empty)) _))) da_nil) cd_all) ?_
      · have hj : j < m.2.length := by simpa using hj
        show DE K _ [some (makersD ms), some (strL built), some (.str m.1), some (strL m.2), (m.2.map PyData.str)[j]?] _
        rw [get_map hj, getD_at hj]
        exact de_op (de_var rfl) (de_var rfl) rd_inS
      · rw [List.length_map, range_map Str.empty (fun p => built.contains p), List.all_map]
        rfl
    · rw [List.length_map, range_map (Str.empty, []) (fun m : Str × List Str => m.2.all fun p => built.contains p), List.any_map]
      rfl
  · have hc : canB built d = true ∧ ∃ (n : Str) (r : List PyData), d = .tuple (.str n :: r) ∧ SeqAt.shaped (.str n) = true ∧ (!(n == "makers")) = true := by
      cases hf with
      | nums h => exact ⟨rfl, _, _, rfl, by decide +kernel, by decide +kernel⟩
      | rows h => exact ⟨rfl, _, _, rfl, by decide +kernel, by decide +kernel⟩
      | words ne nm nd few => exact ⟨canB_words built _, _, _, rfl, by decide +kernel, by decide +kernel⟩
      | @makers ms ne ok nd few => exact absurd ⟨ms, rfl⟩ hm
    obtain ⟨hc, n, rs, rfl, hs, hn⟩ := hc
    refine ⟨_, pss_cons (ps_if (pt_cmpR (op_neD hu64) (pe_ix ix_tup (pv 0) pe_int (fun _ _ => rfl)) pe_str (nomark _)) (pss_one (ps_ret pe_bl)) pss_nil) pss_never, ?_⟩
    refine fin_rt ?_ x r q
    rw [hc]
    exact ds_guard (b := true) (dt_is (dt_headN (de_var (d := .tuple (.str n :: rs)) rfl) hs) hn) (fun _ => ds_ret de_bl) (fun z => nomatch z)
end
end FP
namespace FP
open PySem PySem.Spec PyProof.Rows L2 FC FG
open Evl (Ex)
theorem range_getD {α : Type} (d : α) (xs : List α) : ((List.range xs.length).map fun i => xs.getD i d) = xs := by
  have h := range_map d (fun x => x) xs
  simpa using h
theorem madeG_filter {α : Type} (dflt : α) (p : α → Bool) (f : α → PyData) (xs : List α) : madeG (fun i => p (xs.getD i dflt)) (fun i => f (xs.getD i dflt)) xs.length = (xs.filter p).map f := by
  unfold madeG
  have h : xs.filter p = (((List.range xs.length).filter fun i => p (xs.getD i dflt)).map fun i => xs.getD i dflt) := by
    conv => lhs; rw [← range_getD dflt xs]
    rw [List.filter_map]
    rfl
  rw [h, List.map_map]
  rfl
section
variable {P : Program} {w : World} {K : PySem.W.Frag} {mg : Str → Option Value} {base : Heap} {f : Addr} {fd : FuncData}
theorem sc_all_have_values : FnScope ["kinds", "built", "_", "kind"] ["kinds"] (defScope s_all_have_values) := ⟨rfl, rfl, rfl, by decide +kernel, rfl, by decide +kernel, by decide +kernel⟩
theorem ok_all_have_values (F : Fun K "all_have_values" "all_have_values" s_all_have_values f fd) (M : Bl mg) (cb : CL P w K mg base 1 "can_be_built" Rw_can_be_built) : FnOk P w K mg base CX0 2 f fd ["kinds"] (spR K Rw_all_have_values) := by
  refine F.ok sc_all_have_values (spR_len (by rintro _ _ ⟨_, rfl, _⟩; rfl)) (fun cdv A outer s H vs Q E hr h => ?_)
  obtain ⟨B, ds, o, x, r, ⟨kvs, rfl, ok, rfl⟩, q⟩ := h
  have hu := hu_of hr
  have hu64 : (A.deeper (envOfC "all_have_values" (defScope s_all_have_values) s.heap.objs.size f cdv)).units + 64 < cLine := by have := hr.un; omega
  refine ⟨_, pss_cons (ps_set (i := 1) sc_all_have_values.nd rfl (Or.inr rfl) (pe_lst pa_nil))
    (pss_cons (ps_lock (ps_for PassesOwn.never rfl (pi_keys (pv 0)) (pg_name (i := 2) sc_all_have_values.nd rfl (Or.inl rfl))
      (pss_one (ps_set (i := 1) sc_all_have_values.nd rfl (Or.inr rfl)
        (pe_lc (own := [("kind", 3)]) (g := gName 3) rfl sc_all_have_values.nd (pi_keys (pv 0)) (blkOk_by (N := ["kinds", "built", "_", "kind"]) (sc := defScope s_all_have_values) (by decide +kernel)) (fun _ _ _ _ _ => pg_name (i := 3) sc_all_have_values.nd rfl (Or.inl rfl))
          (fun _ _ _ _ _ => pts_one (pt_val (pe_cl cb hr (by decide) (by rfl) (pa_cons (pe_dget hu (pv 0) (pv 3) (fun _ _ => rfl)) (pa_cons (pv 1) pa_nil)))))
          (fun _ _ _ _ _ => pv 3))))))
    (pss_one (ps_ret (pe_cmpR (op_eqD hu64) (pe_callB call_lenR (by rfl) M.len PySem.boot_len (pa_cons (pv 1) pa_nil)) (pe_callB call_lenDR (by rfl) M.len PySem.boot_len (pa_cons (pv 0) pa_nil)) (nomark _))))), ?_⟩
  refine fin_rt ?_ x r q
  show DS K _ [some (dictU kvs), none, none, none] _
  obtain ⟨m, hm⟩ : ∃ m, kvs.length = m + 1 := ⟨kvs.length - 1, by have := ok.ne; cases kvs with | nil => exact absurd rfl this | cons => simp⟩
  refine ds_seq (ds_set (de_lst da_nil rfl (by decide))) (ds_seq (G1 := [some (dictU kvs), some (strL (rounds kvs kvs.length)), keyD kvs m, none]) (ds_lock (i := 0) (kvs := kvs) (Gn := fun a => [some (dictL a kvs), some (strL (rounds kvs kvs.length)), keyD kvs m, none]) rfl (fun a => rfl) (fun a => ?_) (fun a => ?_)) (ds_ret ?_))
  · show [some (dictU kvs), some (strL (rounds kvs kvs.length)), keepP (keyD kvs m), none] = _
    rw [keepP_key]
  · let Gs : Nat → List (Option PyData) := fun i => match i with
      | 0 => [some (dictL a kvs), some (strL (rounds kvs 0)), none, none]
      | i + 1 => [some (dictL a kvs), some (strL (rounds kvs (i + 1))), keyD kvs i, none]
    refine ds_is (ds_for Gs (di_keys (a := a) (de_var rfl)) rfl fun i hi => ?_) ?_
    rotate_left
    · show Out.nx (Gs kvs.length) = _
      rw [hm]
    · have key : ∀ (built : List Str) (x2 : Option PyData), DS K (tAsg (tLc (iKeys (tVar 0)) (gName 3) (tB (tCall (spR K Rw_can_be_built) [] E0 (tCons (tDGet (tVar 0) (tVar 3)) (tCons (tVar 1) tNil)))) (tVar 3) [3]) (gName 1)) [some (dictL a kvs), some (strL built), x2, none] (.nx [some (dictL a kvs), some (strL (round kvs built)), x2, none]) := by
        intro e x2
        have hmk : strL (round kvs e) = .list (madeG (fun i => canB e (kvs.getD i (Str.empty, .none)).2) (fun i => .str (kvs.getD i (Str.empty, .none)).1) kvs.length) := by
          rw [madeG_filter (Str.empty, PyData.none) (fun q => canB e q.2) (fun q => .str q.1)]
          unfold strL round
          rw [List.map_map]
          rfl
        rw [hmk]
        refine ds_is (ds_set (de_lc _ _ (di_keys (a := a) (de_var rfl)) (by decide) (fun i hi => ?_) (fun i hi _ => ?_) (fun _ _ _ => rfl) (Nat.le_trans ok.few (by decide)))) rfl
        · have hk := keyD_at hi
          show DT K _ [some (dictL a kvs), some (strL e), x2, keyD kvs i] _
          rw [hk]
          have hq : kvs[i]? = some (keyS kvs i, kvs[i].2) := by
            unfold keyS
            rw [List.getD_eq_getElem?_getD, List.getElem?_eq_getElem hi]
            rfl
          rw [getD_at hi]
          exact dt_B (de_call' (da_cons (de_dget (de_ofL (de_var rfl)) (de_var rfl) (look_at ok.nd hq)) (da_cons (de_var rfl) da_nil)) ⟨kvs, _, e, rfl, ok.fm (keyS kvs i, kvs[i].2) (List.mem_of_getElem? hq), rfl⟩)
        · show DE K _ [some (dictL a kvs), some (strL e), x2, keyD kvs i] _
          rw [keyD_at hi]
          exact de_var rfl
      cases i with
      | zero => exact key _ _
      | succ i => exact key _ _
  · refine de_is (de_op (de_cb (da_cons (de_var (d := .list ((rounds kvs kvs.length).map .str)) rfl) da_nil) cd_lenL) (de_cb (da_cons (de_var rfl) da_nil) cd_lenD) (rd_eq rfl rfl rfl rfl)) ?_
    rw [List.length_map, ok.hv]
    show PyData.bool (((kvs.length : Int)) == (kvs.length : Int)) = _
    rw [beq_self_eq_true]
theorem sc_is_kinds : FnScope ["thing", "kind", "form"] ["thing"] (defScope s_is_kinds) := ⟨rfl, rfl, rfl, by decide +kernel, rfl, by decide +kernel, by decide +kernel⟩
theorem ok_is_kinds (F : Fun K "is_kinds" "is_kinds" s_is_kinds f fd) (M : Bl mg) (cn : CL P w K mg base 1 "is_name" Rw_is_name) (cf : CL P w K mg base 4 "is_form" Rw_is_form) (ca : CL P w K mg base 2 "all_have_values" Rw_all_have_values) : FnOk P w K mg base CX0 5 f fd ["thing"] (spR K Rw_is_kinds) := by
  refine F.ok sc_is_kinds (spR_len (by rintro _ _ ⟨_, rfl, _⟩; rfl)) (fun cdv A outer s H vs Q E hr h => ?_)
  obtain ⟨B, ds, o, x, r, ⟨kvs, rfl, ok, rfl⟩, q⟩ := h
  have hu := hu_of hr
  refine ⟨_, pss_cons (ps_if (pw_or (pt_not (pt_val (k_isi (pv 0) (by rfl) M.isi (by rfl) M.dict PyProof.Rows.boot_dict (by decide) (by decide)))) (pw_or1 (pt_not (pt_truth (pv 0) (by intro _; rfl))))).pt (pss_one (ps_ret pe_bl)) pss_nil)
    (pss_cons (ps_if (pt_not (pt_val (pe_callB (cr_all rfl) (by rfl) M.all PyProof.Rows.boot_all (pa_cons (pe_lock
      (pe_lc (own := [("kind", 1)]) (g := gName 1) (tt := tYes) rfl sc_is_kinds.nd (pi_keys (pv 0)) (blkOk_by (N := ["thing", "kind", "form"]) (sc := defScope s_is_kinds) (by decide +kernel)) (fun _ _ _ _ _ => pg_name (i := 1) sc_is_kinds.nd rfl (Or.inl rfl)) (fun _ _ _ _ _ => pts_nil)
        (fun _ _ _ _ _ => pe_cl cn hr (by decide) (by rfl) (pa_cons (pv 1) pa_nil)))) pa_nil)))) (pss_one (ps_ret pe_bl)) pss_nil)
    (pss_cons (ps_if (pt_not (pt_val (pe_callB (cr_all rfl) (by rfl) M.all PyProof.Rows.boot_all (pa_cons (pe_lock
      (pe_lc (own := [("form", 2)]) (g := gName 2) (tt := tYes) rfl sc_is_kinds.nd (pi_values (pv 0)) (blkOk_by (N := ["thing", "kind", "form"]) (sc := defScope s_is_kinds) (by decide +kernel)) (fun _ _ _ _ _ => pg_name (i := 2) sc_is_kinds.nd rfl (Or.inl rfl)) (fun _ _ _ _ _ => pts_nil)
        (fun _ _ _ _ _ => pe_cl cf hr (by decide) (by rfl) (pa_cons (pv 0) (pa_cons (pv 2) pa_nil))))) pa_nil)))) (pss_one (ps_ret pe_bl)) pss_nil)
    (pss_one (ps_ret (pe_cl ca hr (by decide) (by rfl) (pa_cons (pv 0) pa_nil)))))), ?_⟩
  refine fin_rt ?_ x r q
  show DS K _ [some (dictU kvs), none, none] _
  have hne : kvs.isEmpty = false := by
    have := ok.ne
    cases kvs with
    | nil => exact absurd rfl this
    | cons => rfl
  have all1 : ∀ n, ((List.range n).map fun _ => true).all id = true := fun n => all_true fun _ _ => rfl
  refine ds_guard (b := false) (dt_is (dt_or (dt_not (dt_B (de_ty (de_var rfl) rfl kdd))) fun _ => dt_not (dt_dict (de_var rfl))) (by rw [hne]; rfl)) (fun z => nomatch z) fun _ => ?_
  refine ds_guard (b := false) (dt_is (dt_not (dt_B (de_cb (da_cons (de_lock (i := 0) (kvs := kvs) (d := .list (((List.range kvs.length).map fun _ => true).map PyData.bool)) rfl rfl fun a => de_is (de_lc (fun _ => true) (fun _ => .bool true) (di_keys (a := a) (de_var rfl)) (by decide) (fun _ _ => dt_yes) (fun i hi _ => ?_) (fun _ _ _ => rfl) (Nat.le_trans ok.few (by decide))) (congrArg PyData.list (madeG_bools (fun _ => true) _))) da_nil) cd_all))) (by rw [all1]; rfl)) (fun z => nomatch z) fun _ => ?_
  · show DE K _ [some (dictL a kvs), keyD kvs i, none] _
    rw [keyD_at hi]
    refine de_call' (da_cons (de_var rfl) da_nil) ⟨_, rfl, ok.nm (keyS kvs i, kvs[i].2) ?_, rfl⟩
    have hq : kvs[i]? = some (keyS kvs i, kvs[i].2) := by
      unfold keyS
      rw [List.getD_eq_getElem?_getD, List.getElem?_eq_getElem hi]
      rfl
    exact List.mem_of_getElem? hq
  refine ds_guard (b := false) (dt_is (dt_not (dt_B (de_cb (da_cons (de_lock (i := 0) (kvs := kvs) (d := .list (((List.range kvs.length).map fun _ => true).map PyData.bool)) rfl rfl fun a => de_is (de_lc (fun _ => true) (fun _ => .bool true) (di_vals (a := a) (de_var rfl)) (by decide) (fun _ _ => dt_yes) (fun i hi _ => ?_) (fun _ _ _ => rfl) (Nat.le_trans ok.few (by decide))) (congrArg PyData.list (madeG_bools (fun _ => true) _))) da_nil) cd_all))) (by rw [all1]; rfl)) (fun z => nomatch z) fun _ => ?_
  · have hq : kvs[i]? = some (kvs[i].1, kvs[i].2) := List.getElem?_eq_getElem hi
    have hv : valD kvs i = some kvs[i].2 := by
      unfold valD
      rw [hq]
      rfl
    show DE K _ [some (dictL a kvs), none, valD kvs i] _
    rw [hv]
    exact de_call' (da_cons (de_ofL (de_var rfl)) (da_cons (de_var rfl) da_nil)) ⟨kvs, _, rfl, ok.fm _ (List.mem_of_getElem? hq), rfl⟩
  exact ds_ret (de_call' (da_cons (de_var rfl) da_nil) ⟨kvs, rfl, ok, rfl⟩)
end
end FP
namespace FP
open PySem PySem.Spec PyProof.Rows L2 FC FG
open Evl (Ex)
/-! ### a form and all that it holds -/
inductive Sweep (W : PyData → PyData → PyData → Prop) : Nat → List (PyData × PyData) → Bool → Prop where
  | done (n : Nat) : Sweep W n [] true
  | bad {n : Nat} {ws : List (PyData × PyData)} {k t : PyData} (h : W k t .none) : Sweep W (n + 1) (ws ++ [(k, t)]) false
  | more {n : Nat} {ws held : List (PyData × PyData)} {k t : PyData} {b : Bool} (h : W k t (listX (held.map pairT))) (hl : ws.length + held.length ≤ 100000) (s : Sweep W n (ws ++ held) b) : Sweep W (n + 1) (ws ++ [(k, t)]) b
theorem Sweep.leaf {W : PyData → PyData → PyData → Prop} {k t : PyData} (h : W k t (listX [])) : Sweep W 1 [(k, t)] true :=
  Sweep.more (ws := []) (held := []) (n := 0) h (by decide) (.done 0)
theorem go_mut {B H B' H' : Hp} {l : Addr} {o : HO} (g : Go B H B' H') (n : H l = none) (nb : B' l = none) : Go B H B' (upd H' l o) :=
  ⟨g.eb, Evl.Ex.mut g.eh n, Evl.Ex.mut g.sub nb, g.fr⟩
section
variable {P : Program} {w : World} {K : PySem.W.Frag} {mg : Str → Option Value} {base : Heap} {f : Addr} {fd : FuncData}
def spSound (P : Program) (w : World) (K : PySem.W.Frag) (mg : Str → Option Value) (base : Heap) (kk : Nat) : Sp := fun vs H Q _ =>
  ∃ (B : Hp) (v0 v1 v2 : V) (fw : Addr) (fdw : FuncData) (psw : List Str) (W : List PyData → PyData → Prop) (dk k t : PyData) (b : Bool) (n : Nat),
    Ex B H ∧ FnOk P w K mg base CX0 kk fw fdw psw (spR K W) ∧ PySem.W.keepIn K (.ref fw) = true ∧ Binds K fdw psw [] ∧ vs = [v0, v1, v2, .ref fw] ∧ Rt K B v0 dk ∧ Dp K B v1 k ∧ Dp K B v2 t ∧
    Sweep (fun k t o => W [dk, k, t] o) n [(k, t)] b ∧ ∀ v B' H', Go B H B' H' → Rt K B' v (.bool b) → Q v H'
theorem sc_is_sound : FnScope ["kinds", "kind", "thing", "within", "waiting", "inner_kind", "inner", "held"] ["kinds", "kind", "thing", "within"] (defScope s_is_sound) := ⟨rfl, rfl, rfl, by decide +kernel, rfl, by decide +kernel, by decide +kernel⟩
theorem ok_is_sound {kk : Nat} (F : Fun K "is_sound" "is_sound" s_is_sound f fd) : FnOk P w K mg base CX0 (kk + 1) f fd ["kinds", "kind", "thing", "within"] (spSound P w K mg base kk) := by
  refine F.ok sc_is_sound (by rintro vs H Q E ⟨B, v0, v1, v2, fw, fdw, psw, W, dk, k, t, b, n, _, _, _, _, rfl, _⟩; rfl) (fun cdv A outer s H vs Q E hr h => ?_)
  obtain ⟨B, v0, v1, v2, fw, fdw, psw, W, dk, k, t, b, n, x, Fw, kw, bw, rfl, r0, r1, r2, sw, q⟩ := h
  have nd := sc_is_sound.nd
  refine ⟨_, pss_cons (ps_set (i := 4) nd rfl (Or.inl rfl) (pe_lst (pa_cons (pe_tup (pa_cons (pv 1) (pa_cons (pv 2) pa_nil))) pa_nil)))
    (pss_cons (ps_while PassesOwn.never (pt_truth (pv 4) (by intro _; rfl))
      (pss_cons (ps_asg (pe_bm0 PySem.F.plainAttrs_list PySem.F.slot_list_pop PySem.F.type_list_pop mt_pop (pv 4)) (pg_tup rfl (pgs_cons (pg_name (i := 5) nd rfl (Or.inl rfl)) (pgs_cons (pg_name (i := 6) nd rfl (Or.inl rfl)) pgs_nil))))
      (pss_cons (ps_set (i := 7) nd rfl (Or.inl rfl) (pe_callL (i := 3) Fw hr rfl (Or.inl rfl) kw bw .nil pass0 (pa_cons (pv 0) (pa_cons (pv 5) (pa_cons (pv 6) pa_nil)))))
      (pss_cons (ps_if (pt_cmp (pc_isN (pv 7))) (pss_one (ps_ret pe_bl)) pss_nil)
      (pss_one (ps_expr (pe_bm PySem.F.plainAttrs_list PySem.F.slot_list_extend PySem.F.type_list_extend mt_extend (pv 4) (pa_cons (pv 7) pa_nil))))))))
    (pss_one (ps_ret pe_bl))), ?_⟩
  refine ⟨v1, rfl, v2, rfl, by show 2 ≤ sizeLine; decide, fun p hp => ⟨by show 1 ≤ sizeLine; decide, fun l hl => ?_⟩⟩
  have g1 : Go B H (upd B p (.tup [v1, v2])) (upd H p (.tup [v1, v2])) := Go.new x hp
  have hlH : H l = none := Evl.fresh_back g1.eh hl
  have hlB : (upd B p (.tup [v1, v2])) l = none := sub_none g1.sub hl
  refine ⟨fun m σ Hc => ∃ (B' : Hp) (ws : List (PyData × PyData)) (us : List V) (x5 x6 x7 : Option V), σ = [some v0, some v1, some v2, some (.ref fw), some (.ref l), x5, x6, x7] ∧ Go B H B' Hc ∧ B' l = none ∧ Hc l = some (.lst us) ∧ DpAll K B' us (ws.map pairT) ∧ Sweep (fun k t o => W [dk, k, t] o) m ws b, ⟨n, ?_⟩, ?_⟩
  · refine ⟨_, [(k, t)], [.ref p], none, none, none, rfl, g1.trans (Go.own g1.sub hl), hlB, upd_same, .cons (.tup (.inl (.inl upd_same)) (.cons (dp_ex g1.eb _ _ r1) (.cons (dp_ex g1.eb _ _ r2) .nil))) .nil, sw⟩
  · rintro m σ Hc ⟨B', ws, us, x5, x6, x7, rfl, g, nb, hl', da, sw'⟩
    refine ⟨.ref l, rfl, !us.isEmpty, .inl ⟨us, .inl (.inl hl'), rfl⟩, ?_⟩
    have hlen := dps_len da
    rw [List.length_map] at hlen
    cases sw' with
    | done m =>
      have : us = [] := List.eq_nil_of_length_eq_zero hlen
      subst this
      refine iteF ?_
      exact q _ B' Hc g (.d (.bl true))
    | @bad m ws k' t' hW =>
      rw [List.map_append] at da
      have hne : us.isEmpty = false := by
        cases us with
        | nil => simp at hlen
        | cons => rfl
      rw [hne]
      refine iteT ?_
      obtain ⟨y, hy, dy⟩ := dps_get (i := ws.length) da (d := pairT (k', t')) (by rw [List.getElem?_append_right (by simp)]; simp)
      have hul : us.length - 1 = ws.length := by rw [hlen, List.length_append]; simp
      refine ⟨fun _ _ => False, fun _ _ z => z.elim, .ref l, rfl, .inl ⟨rfl, _, .inl (.inl hl')⟩, l, us, y, rfl, rfl, hl', by rw [hul]; exact hy, ?_⟩
      have g2 := go_mut g hlH nb (o := .lst us.dropLast)
      cases dy with
      | @tup b2 zs _ hz hza =>
        cases hza with
        | cons q1 hza =>
          cases hza with
          | cons q2 hza =>
            cases hza
            refine ⟨b2, _, rfl, ex_t g2.sub hz, rfl, _, _, rfl, _, _, rfl, rfl, ?_⟩
            refine ⟨rfl, _, rfl, _, rfl, _, rfl, ?_⟩
            refine ⟨B', [dk, k', t'], .none, g2.sub, .cons (r0.ex g.eb) (.cons (.d q1) (.cons (.d q2) .nil)), hW, fun v B3 H3 g3 r3 => ?_⟩
            have r3 := r3.dp rfl
            cases r3
            refine ⟨.non, rfl, _, rfl, ?_⟩
            refine iteT ?_
            exact q _ B3 H3 (g2.trans g3) (.d (.bl false))
    | @more m ws held k' t' _ hW hlen2 sw2 =>
      rw [List.map_append] at da
      have hne : us.isEmpty = false := by
        cases us with
        | nil => simp at hlen
        | cons => rfl
      rw [hne]
      refine iteT ?_
      obtain ⟨y, hy, dy⟩ := dps_get (i := ws.length) da (d := pairT (k', t')) (by rw [List.getElem?_append_right (by simp)]; simp)
      have hul : us.length - 1 = ws.length := by rw [hlen, List.length_append]; simp
      refine ⟨fun σ' H' => ∃ (B' : Hp) (us : List V) (x5 x6 x7 : Option V), σ' = [some v0, some v1, some v2, some (.ref fw), some (.ref l), x5, x6, x7] ∧ Go B H B' H' ∧ B' l = none ∧ H' l = some (.lst us) ∧ DpAll K B' us ((ws ++ held).map pairT), ?_, .ref l, rfl, .inl ⟨rfl, _, .inl (.inl hl')⟩, l, us, y, rfl, rfl, hl', by rw [hul]; exact hy, ?_⟩
      · rintro σ' H' ⟨B2, us2, x5, x6, x7, e, g2, nb2, h2, d2⟩
        exact ⟨m, Nat.lt_succ_self m, B2, _, us2, x5, x6, x7, e, g2, nb2, h2, d2, sw2⟩
      have g2 := go_mut g hlH nb (o := .lst us.dropLast)
      have dl : DpAll K B' us.dropLast (ws.map pairT) := by
        have key : ∀ (as : List PyData) (z : PyData) (vs : List V), DpAll K B' vs (as ++ [z]) → DpAll K B' vs.dropLast as := by
          intro as
          induction as with
          | nil =>
            intro z vs h
            cases h with
            | cons h1 h2 =>
              cases h2
              exact .nil
          | cons a as ih =>
            intro z vs h
            cases h with
            | cons h1 h2 =>
              rename_i v vs'
              have hne : vs' ≠ [] := by
                intro e
                subst e
                have := dps_len h2
                simp at this
              rw [List.dropLast_cons_of_ne_nil hne]
              exact .cons h1 (ih z vs' h2)
        exact key _ _ _ da
      cases dy with
      | @tup b2 zs _ hz hza =>
        cases hza with
        | cons q1 hza =>
          cases hza with
          | cons q2 hza =>
            cases hza
            refine ⟨b2, _, rfl, ex_t g2.sub hz, rfl, _, _, rfl, _, _, rfl, rfl, ?_⟩
            refine ⟨rfl, _, rfl, _, rfl, _, rfl, ?_⟩
            refine ⟨B', [dk, k', t'], listX (held.map pairT), g2.sub, .cons (r0.ex g.eb) (.cons (.d q1) (.cons (.d q2) .nil)), hW, fun v B3 H3 g3 r3 => ?_⟩
            obtain ⟨c, zs, rfl, hc, hd⟩ := rt_listX r3
            have hl3 : H3 l = some (.lst us.dropLast) := g3.eh l _ upd_same
            have hlz := dps_len hd
            have hlu := dps_len dl
            rw [List.length_map] at hlz hlu
            refine ⟨.ref c, rfl, _, rfl, ?_⟩
            refine iteF ?_
            refine ⟨.ref l, rfl, .inl ⟨rfl, _, .inl (.inl hl3)⟩, .ref c, rfl, l, c, us.dropLast, zs, rfl, rfl, hl3, g3.sub _ _ hc, by rw [hlz, hlu]; exact Nat.le_trans hlen2 (by decide), ?_⟩
            have nb3 : B3 l = none := g3.fr l _ upd_same nb
            refine ⟨B3, us.dropLast ++ zs, _, _, _, rfl, go_mut (g2.trans g3) hlH nb3, nb3, upd_same, ?_⟩
            rw [List.map_append]
            exact dps_append hd (dps_ex g3.eb _ _ dl)
theorem de_sound {G : List (Option PyData)} {t0 t1 t2 : TE} {fw : Addr} {fdw : FuncData} {psw : List Str} {kk : Nat} {W : List PyData → PyData → Prop} {dk k t : PyData} {b : Bool} {n : Nat}
    (Fw : FnOk P w K mg base CX0 kk fw fdw psw (spR K W)) (kw : PySem.W.keepIn K (.ref fw) = true) (bw : Binds K fdw psw [])
    (h0 : DE K t0 G dk) (h1 : DE K t1 G k) (h2 : DE K t2 G t) (p1 : plain k = true) (p2 : plain t = true) (sw : Sweep (fun k t o => W [dk, k, t] o) n [(k, t)] b) :
    DE K (tCall (spSound P w K mg base kk) [] E0 (tCons t0 (tCons t1 (tCons t2 (tCons (tC (.ref fw)) tNil))))) G (.bool b) := fun σ B H x en Q q =>
  h0 σ B H x en _ fun v0 B1 H1 g1 r0 => h1 σ B1 H1 g1.sub (en.ex g1.eb) _ fun v1 B2 H2 g2 r1 => h2 σ B2 H2 g2.sub ((en.ex g1.eb).ex g2.eb) _ fun v2 B3 H3 g3 r2 => by
    refine ⟨B3, v0, v1, v2, fw, fdw, psw, W, dk, k, t, b, n, g3.sub, Fw, kw, bw, rfl, (r0.ex g2.eb).ex g3.eb, (r1.dp p1 |> dp_ex g3.eb _ _), r2.dp p2, sw, fun v B' H' g r => ?_⟩
    exact q v B' H' (g1.trans (g2.trans (g3.trans g))) r
end
/-- a node, all of whose inner ones cost at most c0 -/
inductive Cost (W : PyData → PyData → PyData → Prop) : Nat → PyData → PyData → Prop where
  | mk {held : List (PyData × PyData)} {k t : PyData} {c0 c : Nat} (h : W k t (listX (held.map pairT))) (hc : ∀ q ∈ held, Cost W c0 q.1 q.2) (hs : held.length * c0 + 1 ≤ c) : Cost W c k t
/-- the sum of what stands in the stack -/
inductive Stack (W : PyData → PyData → PyData → Prop) : Nat → List (PyData × PyData) → Prop where
  | nil (n : Nat) : Stack W n []
  | snoc {n c : Nat} {ws : List (PyData × PyData)} {k t : PyData} (h : Stack W n ws) (hc : Cost W c k t) : Stack W (n + c) (ws ++ [(k, t)])
theorem cost_pos {W : PyData → PyData → PyData → Prop} {c : Nat} {k t : PyData} (h : Cost W c k t) : 1 ≤ c := by
  cases h with
  | mk _ _ hs => omega
theorem stack_len {W : PyData → PyData → PyData → Prop} {n : Nat} {ws : List (PyData × PyData)} (h : Stack W n ws) : ws.length ≤ n := by
  induction h with
  | nil n => exact Nat.zero_le _
  | snoc h hc ih =>
    have := cost_pos hc
    rw [List.length_append]
    show _ + 1 ≤ _
    omega
theorem Stack.mono {W : PyData → PyData → PyData → Prop} {n m : Nat} {ws : List (PyData × PyData)} (h : Stack W n ws) (l : n ≤ m) : Stack W m ws := by
  induction h generalizing m with
  | nil n => exact .nil m
  | @snoc n c ws k t h hc ih =>
    have e : m = (m - c) + c := by omega
    rw [e]
    exact .snoc (ih (by omega)) hc
theorem stack_push {W : PyData → PyData → PyData → Prop} {c0 : Nat} : ∀ {held : List (PyData × PyData)} {n : Nat} {ws : List (PyData × PyData)}, Stack W n ws → (∀ q ∈ held, Cost W c0 q.1 q.2) → Stack W (n + held.length * c0) (ws ++ held)
  | [], n, ws, h, _ => by
    rw [List.append_nil, List.length_nil, Nat.zero_mul]
    exact h
  | q :: held, n, ws, h, hc => by
    have h1 := Stack.snoc h (hc q (List.mem_cons_self ..))
    have h2 := stack_push (held := held) h1 fun p hp => hc p (List.mem_cons_of_mem _ hp)
    rw [List.append_assoc] at h2
    refine Stack.mono h2 ?_
    rw [List.length_cons, Nat.succ_mul]
    omega
theorem sweep_stack {W : PyData → PyData → PyData → Prop} : ∀ (n : Nat) {ws : List (PyData × PyData)}, Stack W n ws → n ≤ 100000 → Sweep W n ws true := by
  intro n
  induction n using Nat.strongRecOn with
  | ind n ih =>
    intro ws h l
    cases h with
    | nil => exact .done n
    | @snoc m c ws k t h hc =>
      cases hc with
      | @mk held _ _ c0 _ hw hh hs =>
        have hp := stack_push h hh
        have hn : ∃ j, m + c = j + 1 := ⟨m + c - 1, by omega⟩
        obtain ⟨j, hj⟩ := hn
        rw [hj]
        have hj2 := Stack.mono hp (m := j) (by omega)
        have hl := stack_len hj2
        rw [List.length_append] at hl
        exact .more hw (by omega) (ih j (by omega) hj2 (by omega))
theorem sweep_cost {W : PyData → PyData → PyData → Prop} {c : Nat} {k t : PyData} (h : Cost W c k t) (l : c ≤ 100000) : ∃ n, Sweep W n [(k, t)] true :=
  ⟨0 + c, sweep_stack (0 + c) (Stack.snoc (.nil 0) h) (by omega)⟩
end FP
namespace L2
open PySem PySem.Spec PyProof.Rows
variable {X : Cx}
/-- a list and another one, also ones that are walked -/
def rCatL (K : PySem.W.Frag) : R2 := fun x y H Q => ∃ l b xs zs, x = .ref l ∧ y = .ref b ∧ SqL K H l xs ∧ SqL K H b zs ∧ xs.length + zs.length ≤ sizeLine ∧ ∀ p, H p = none → Q (.ref p) (upd H p (.lst (xs ++ zs)))
theorem op_catL : OpR X (binaryOp .Add) (rCatL X.K) := by
  intro pins s σ H x y v u Q I rx ry h
  obtain ⟨l, b, xs, zs, rfl, rfl, hH, hB, hz, q⟩ := h
  cases rx
  cases ry
  obtain ⟨its, r, pl, hz1⟩ := I.list hH
  obtain ⟨its2, r2, pl2, hz2⟩ := I.list hB
  obtain ⟨⟨cls, dd, data, sl⟩, ho, hc, n, hd⟩ := id pl.isList
  obtain ⟨⟨cls2, dd2, data2, sl2⟩, ho2, hc2, n2, hd2⟩ := id pl2.isList
  simp only at hc hd hc2 hd2
  subst hc hd hc2 hd2
  have l1 := r.length
  have l2 := r2.length
  have e : its.toArray ++ its2.toArray = (its ++ its2).toArray := by simp
  refine concat_meets ⟨_, ho, rfl⟩ ⟨_, ho2, rfl⟩ noFill_list_add seq_list_add PySem.F.slot_list_add PySem.F.entry_list_add (PySem.F.args_list_add_2 _ _) (list_addW l b its.toArray its2.toArray n n2 dd dd2 sl sl2 (by rw [List.size_toArray, List.size_toArray]; omega)) ⟨ho, ho2, ?_⟩
  rw [e]
  exact ⟨.ref _, _, I.lnew (t' := s.toks) (r.append r2) (by rw [List.length_append]; omega), rfl, q _ I.fresh⟩
end L2
namespace FP
open PySem PySem.Spec PyProof.Rows L2 FC FG
open Evl (Ex)
section
variable {K : PySem.W.Frag} {G : List (Option PyData)} {ta tb te : TE} {t u : TO}
theorem de_cat {a b : List PyData} (h1 : DE K ta G (.list a)) (h2 : DE K tb G (.list b)) (hl : a.length + b.length ≤ 100000) : DE K (tOp (rCatL K) ta tb) G (listX (a ++ b)) := fun σ B H x en Q q =>
  h1 σ B H x en _ fun v B1 H1 g1 r1 => h2 σ B1 H1 g1.sub (en.ex g1.eb) _ fun w B2 H2 g2 r2 => by
    have r1 := (r1.ex g2.eb).dp rfl
    have r2 := r2.dp rfl
    cases r1 with
    | @lst _ as _ hs ha =>
    cases r2 with
    | @lst _ bs _ hs2 ha2 =>
    have l1 := dps_len ha
    have l2 := dps_len ha2
    refine ⟨_, _, _, _, rfl, rfl, ex_l g2.sub hs, ex_l g2.sub hs2, Nat.le_trans (by omega : _ ≤ 100000) (by decide), fun p hp => ?_⟩
    have g3 := Go.new g2.sub hp (o := .lst (as ++ bs))
    exact q _ _ _ (g1.trans (g2.trans g3)) (.lstX upd_same (dps_ex g3.eb _ _ (dps_append ha2 ha)))
theorem cut_from {xs : List V} {i : Int} {n : Nat} (hi : i = (n : Int)) (hn : n ≤ xs.length) : cutV xs (some i) none = xs.drop n := by
  subst hi
  unfold cutV
  rw [HT.sIx_nat, HT.sIx_none, Nat.min_eq_left hn, List.take_of_length_le (by rw [List.length_drop]; exact Nat.le_refl _)]
theorem cut_to {xs : List V} {i : Int} {n : Nat} (hi : i = (n : Int)) : cutV xs none (some i) = xs.take n := by
  subst hi
  unfold cutV
  rw [HT.sIx_nat, HT.sIx_none, List.drop_zero, Nat.sub_zero]
  by_cases h : n ≤ xs.length
  · rw [Nat.min_eq_left h]
  · rw [Nat.min_eq_right (by omega), List.take_of_length_le (Nat.le_refl _), List.take_of_length_le (by omega)]
theorem dps_drop {H : Hp} : ∀ (n : Nat) {ds : List PyData} {vs : List V}, DpAll K H vs ds → DpAll K H (vs.drop n) (ds.drop n)
  | 0, _, _, h => h
  | _ + 1, [], _, h => by cases h; exact .nil
  | n + 1, _ :: _, _, h => by
    cases h with
    | cons _ h2 => exact dps_drop n h2
theorem dps_take {H : Hp} : ∀ (n : Nat) {ds : List PyData} {vs : List V}, DpAll K H vs ds → DpAll K H (vs.take n) (ds.take n)
  | 0, _, _, _ => .nil
  | _ + 1, [], _, h => by cases h; exact .nil
  | n + 1, _ :: _, _, h => by
    cases h with
    | cons h1 h2 => exact .cons h1 (dps_take n h2)
/-- t[1:] of a tuple that isn't empty -/
theorem de_tail {d : PyData} {ds : List PyData} (h : DE K te G (.tuple (d :: ds))) : DE K (tSl (rSlT K) te (tPart (tC (.int 1))) tNoPart) G (.tuple ds) := fun σ B H x en Q q =>
  h σ B H x en _ fun v B1 H1 g1 r1 => by
    have r1 := r1.dp rfl
    cases r1 with
    | @tup a xs _ hs ha =>
    refine ⟨1, rfl, a, xs, rfl, ex_t g1.sub hs, ?_, fun p hp => ?_⟩
    · cases ha with
      | cons h1 h2 =>
        rintro ⟨z, _⟩
        have z : HT.sIx _ 0 (some ((1 : Nat) : Int)) = 0 := z
        rw [HT.sIx_nat] at z
        simp at z
    · have hn : 1 ≤ xs.length := by
        have := dps_len ha
        rw [this]
        simp
      rw [show cutV xs (some 1) none = xs.drop 1 from cut_from (n := 1) rfl hn]
      have g2 := Go.new g1.sub hp (o := .tup (xs.drop 1))
      exact q _ _ _ (g1.trans g2) (.d (.tup (.inl (.inl upd_same)) (dps_ex g2.eb _ _ (dps_drop 1 ha))))
/-- a[i:] of a list -/
theorem de_from {ds : List PyData} {i : Int} {n : Nat} (h : DE K te G (.list ds)) (hb : DE K tb G (.int i)) (hi : i = (n : Int)) (hn : n ≤ ds.length) : DE K (tSl (rSlL K) te (tPart tb) tNoPart) G (listX (ds.drop n)) := fun σ B H x en Q q =>
  h σ B H x en _ fun v B1 H1 g1 r1 => hb σ B1 H1 g1.sub (en.ex g1.eb) _ fun w B2 H2 g2 r2 => by
    have r1 := (r1.ex g2.eb).dp rfl
    cases r1 with
    | @lst a xs _ hs ha =>
    refine ⟨i, rt_int r2, a, xs, rfl, ex_l g2.sub hs, fun p hp => ?_⟩
    rw [cut_from hi (by rw [dps_len ha]; exact hn)]
    have g3 := Go.new g2.sub hp (o := .lst (xs.drop n))
    exact q _ _ _ (g1.trans (g2.trans g3)) (.lstX upd_same (dps_ex g3.eb _ _ (dps_drop n ha)))
/-- a[:i] of a list -/
theorem de_to {ds : List PyData} {i : Int} {n : Nat} (h : DE K te G (.list ds)) (hb : DE K tb G (.int i)) (hi : i = (n : Int)) : DE K (tSl (rSlL K) te tNoPart (tPart tb)) G (listX (ds.take n)) := fun σ B H x en Q q =>
  h σ B H x en _ fun v B1 H1 g1 r1 => hb σ B1 H1 g1.sub (en.ex g1.eb) _ fun w B2 H2 g2 r2 => by
    have r1 := (r1.ex g2.eb).dp rfl
    cases r1 with
    | @lst a xs _ hs ha =>
    refine ⟨i, rt_int r2, a, xs, rfl, ex_l g2.sub hs, fun p hp => ?_⟩
    rw [cut_to hi]
    have g3 := Go.new g2.sub hp (o := .lst (xs.take n))
    exact q _ _ _ (g1.trans (g2.trans g3)) (.lstX upd_same (dps_ex g3.eb _ _ (dps_take n ha)))
end
end FP
namespace FP
open PySem PySem.Spec PyProof.Rows L2 FC FG
open Evl (Ex)
/-! ### patterns -/
def orD (ps : List PyData) : PyData := .tuple [.str "or", .list ps]
def fromD (a b : PyData) : PyData := .tuple [.str "from", a, b]
def wordD (w : Str) : PyData := .tuple [.str "word", .str w]
def mkrD (m : Str) (ps : List PyData) : PyData := .tuple [.str "maker", .str m, .list ps]
def rowD (ps : List PyData) : PyData := .tuple [.str "row", .list ps]
def gapD (ps qs : List PyData) : PyData := .tuple [.str "gap", .list ps, .list qs]
def bnd : PyData → Bool
  | .none => true
  | .int i => decide (i.natAbs ≤ 1000)
  | _ => false
inductive OkPat (kvs : List (Str × PyData)) : Nat → Str → PyData → Prop where
  | any (n : Nat) (k : Str) : OkPat kvs n k .none
  | or {n : Nat} {k : Str} {ps : List PyData} (ne : ps ≠ []) (few : ps.length ≤ 9) (h : ∀ p ∈ ps, OkPat kvs n k p) : OkPat kvs (n + 1) k (orD ps)
  | range {n : Nat} {k : Str} {lo hi : Int} {a b : PyData} (hk : look kvs k = some (numsD lo hi)) (ha : bnd a = true) (hb : bnd b = true) : OkPat kvs n k (fromD a b)
  | word {n : Nat} {k : Str} {ws : List Str} {w : Str} (hk : look kvs k = some (wordsD ws)) (hw : w ∈ ws) : OkPat kvs n k (wordD w)
  | maker {n : Nat} {k : Str} {ms : List (Str × List Str)} {m : Str × List Str} {ps : List PyData} (hk : look kvs k = some (makersD ms)) (hm : m ∈ ms) (hl : ps.length = m.2.length) (few : ps.length ≤ 9) (h : ∀ q ∈ m.2.zip ps, OkPat kvs n q.1 q.2) : OkPat kvs (n + 1) k (mkrD m.1 ps)
  | row {n : Nat} {k c : Str} {ps : List PyData} (hk : look kvs k = some (rowsD c)) (few : ps.length ≤ 9) (h : ∀ p ∈ ps, OkPat kvs n c p) : OkPat kvs (n + 1) k (rowD ps)
  | gap {n : Nat} {k c : Str} {ps qs : List PyData} (hk : look kvs k = some (rowsD c)) (few : ps.length + qs.length ≤ 9) (h : ∀ p ∈ ps ++ qs, OkPat kvs n c p) : OkPat kvs (n + 1) k (gapD ps qs)
theorem OkPat.plain {kvs : List (Str × PyData)} {n : Nat} {k : Str} {p : PyData} (h : OkPat kvs n k p) : FC.plain p = true := by
  cases h <;> rfl
theorem zip_right {α β : Type} : ∀ {xs : List α} {ys : List β} {y : β}, ys.length = xs.length → y ∈ ys → ∃ x, (x, y) ∈ xs.zip ys
  | [], y2 :: ys, _, h, _ => by simp at h
  | x :: xs, [], _, _, h => by cases h
  | x :: xs, y2 :: ys, y, h, hy => by
    rcases List.mem_cons.mp hy with rfl | hy
    · exact ⟨x, by simp⟩
    · obtain ⟨z, hz⟩ := zip_right (xs := xs) (by simpa using h) hy
      exact ⟨z, List.mem_cons_of_mem _ hz⟩
  | [], [], _, _, h => by cases h
/-- what stands right within a pattern -/
inductive HeldP (kvs : List (Str × PyData)) : Str → PyData → List (PyData × PyData) → Prop where
  | any (k : Str) : HeldP kvs k .none []
  | or {k : Str} {ps : List PyData} (ne : ps ≠ []) (few : ps.length ≤ 9) (hp : ps.all FC.plain = true) : HeldP kvs k (orD ps) (ps.map fun p => (.str k, p))
  | range {k : Str} {lo hi : Int} {a b : PyData} (hk : look kvs k = some (numsD lo hi)) (ha : bnd a = true) (hb : bnd b = true) : HeldP kvs k (fromD a b) []
  | word {k : Str} {ws : List Str} {w : Str} (hk : look kvs k = some (wordsD ws)) (hw : w ∈ ws) : HeldP kvs k (wordD w) []
  | maker {k : Str} {ms : List (Str × List Str)} {m : Str × List Str} {ps : List PyData} (hk : look kvs k = some (makersD ms)) (hm : m ∈ ms) (hl : ps.length = m.2.length) (few : ps.length ≤ 9) (hp : ps.all FC.plain = true) : HeldP kvs k (mkrD m.1 ps) ((m.2.map .str).zip ps)
  | row {k c : Str} {ps : List PyData} (hk : look kvs k = some (rowsD c)) (few : ps.length ≤ 9) (hp : ps.all FC.plain = true) : HeldP kvs k (rowD ps) (ps.map fun p => (.str c, p))
  | gap {k c : Str} {ps qs : List PyData} (hk : look kvs k = some (rowsD c)) (few : ps.length + qs.length ≤ 9) (hp : (ps ++ qs).all FC.plain = true) : HeldP kvs k (gapD ps qs) ((ps ++ qs).map fun p => (.str c, p))
def FormsOk (kvs : List (Str × PyData)) : Prop := ∀ s d, look kvs s = some d → OkForm kvs d
def Rw_patterns_within : List PyData → PyData → Prop := fun ds o => ∃ kvs k p held, ds = [dictOf kvs, .str k, p] ∧ FormsOk kvs ∧ HeldP kvs k p held ∧ o = listX (held.map pairT)
def costN : Nat → Nat
  | 0 => 1
  | n + 1 => 9 * costN n + 1
theorem costN_pos : ∀ n, 1 ≤ costN n
  | 0 => Nat.le_refl _
  | _ + 1 => by unfold costN; omega
theorem costN_mono (n : Nat) : costN n ≤ costN (n + 1) := by
  show costN n ≤ 9 * costN n + 1
  omega
theorem zip_map_left {ws : List Str} {ps : List PyData} {q : PyData × PyData} (h : q ∈ (ws.map PyData.str).zip ps) : ∃ w p, (w, p) ∈ ws.zip ps ∧ q = (.str w, p) := by
  rw [List.zip_map_left] at h
  obtain ⟨z, hz, e⟩ := List.mem_map.mp h
  exact ⟨z.1, z.2, hz, e.symm⟩
theorem OkPat.cost {kvs : List (Str × PyData)} (fk : FormsOk kvs) {n : Nat} {k : Str} {p : PyData} (h : OkPat kvs n k p) : Cost (fun k t o => Rw_patterns_within [dictOf kvs, k, t] o) (costN n) (.str k) p := by
  have mul : ∀ {n l : Nat}, l ≤ 9 → l * costN n + 1 ≤ costN (n + 1) := fun {n l} h => by
    have := Nat.mul_le_mul_right (costN n) h
    show _ ≤ 9 * costN n + 1
    omega
  induction h with
  | any n k => exact .mk (c0 := 0) (held := []) ⟨kvs, k, _, _, rfl, fk, .any k, rfl⟩ (fun _ h => nomatch h) (by have := costN_pos n; simpa using this)
  | @or n k ps ne few h ih =>
    refine .mk (c0 := costN n) ⟨kvs, k, _, _, rfl, fk, .or ne few (List.all_eq_true.mpr fun p hp => (h p hp).plain), rfl⟩ (fun q hq => ?_) (mul (by simpa using few))
    obtain ⟨p, hp, rfl⟩ := List.mem_map.mp hq
    exact ih p hp
  | @range n k lo hi a b hk ha hb => exact .mk (c0 := 0) (held := []) ⟨kvs, k, _, _, rfl, fk, .range hk ha hb, rfl⟩ (fun _ h => nomatch h) (by have := costN_pos n; simpa using this)
  | @word n k ws w hk hw => exact .mk (c0 := 0) (held := []) ⟨kvs, k, _, _, rfl, fk, .word hk hw, rfl⟩ (fun _ h => nomatch h) (by have := costN_pos n; simpa using this)
  | @maker n k ms m ps hk hm hl few h ih =>
    refine .mk (c0 := costN n) ⟨kvs, k, _, _, rfl, fk, .maker hk hm hl few (List.all_eq_true.mpr fun p hp => ?_), rfl⟩ (fun q hq => ?_) (mul (by simp; omega))
    · obtain ⟨x, hx⟩ := zip_right hl hp
      exact (h _ hx).plain
    · obtain ⟨w, p, hz, rfl⟩ := zip_map_left hq
      exact ih _ hz
  | @row n k c ps hk few h ih =>
    refine .mk (c0 := costN n) ⟨kvs, k, _, _, rfl, fk, .row hk few (List.all_eq_true.mpr fun p hp => (h p hp).plain), rfl⟩ (fun q hq => ?_) (mul (by simpa using few))
    obtain ⟨p, hp, rfl⟩ := List.mem_map.mp hq
    exact ih p hp
  | @gap n k c ps qs hk few h ih =>
    refine .mk (c0 := costN n) ⟨kvs, k, _, _, rfl, fk, .gap hk few (List.all_eq_true.mpr fun p hp => (h p hp).plain), rfl⟩ (fun q hq => ?_) (mul (by simpa using few))
    obtain ⟨p, hp, rfl⟩ := List.mem_map.mp hq
    exact ih p hp
def Rw_parts_of : List PyData → PyData → Prop := fun ds o => ∃ (ms : List (Str × List Str)) (m : Str × List Str), ds = [.list (ms.map makerD), .str m.1] ∧ m ∈ ms ∧ (∀ m ∈ ms, isNameS m.1 = true) ∧ (ms.map (·.1)).Nodup ∧ ms.length ≤ 100 ∧ o = strL m.2
def Rw_is_bound : List PyData → PyData → Prop := fun ds o => ∃ d, ds = [d] ∧ bnd d = true ∧ o = .bool true
def Rw_is_range_pattern : List PyData → PyData → Prop := fun ds o => ∃ a b, ds = [fromD a b] ∧ bnd a = true ∧ bnd b = true ∧ o = .bool true
def Rw_maker_patterns : List PyData → PyData → Prop := fun ds o => ∃ (ms : List (Str × List Str)) (m : Str × List Str) (ps : List PyData), ds = [.list (ms.map makerD), mkrD m.1 ps] ∧ m ∈ ms ∧ (∀ m ∈ ms, isNameS m.1 = true) ∧ (ms.map (·.1)).Nodup ∧ ms.length ≤ 100 ∧ ps.length = m.2.length ∧ ps.length ≤ 9 ∧ ps.all FC.plain = true ∧ o = listX (((m.2.map .str).zip ps).map pairT)
def Rw_row_patterns : List PyData → PyData → Prop := fun ds o => ∃ (c : Str) (ps qs : List PyData) (t : PyData), ds = [.str c, t] ∧ ((t = rowD ps ∧ qs = []) ∨ t = gapD ps qs) ∧ ps.length + qs.length ≤ 9 ∧ (ps ++ qs).all FC.plain = true ∧ o = listX (((ps ++ qs).map fun p => (PyData.str c, p)).map pairT)
theorem name_strOk {s : Str} (h : isNameS s = true) : PyData.strOk s = true := by
  unfold isNameS at h
  rw [Bool.and_eq_true] at h
  have h := List.all_eq_true.mp h.2
  unfold PyData.strOk
  rw [Array.all_eq_true]
  intro i hi
  have h2 := h (sgnOk (sgn s i)) (List.mem_map.mpr ⟨i, List.mem_range.mpr hi, rfl⟩)
  have h2 : sgnOk (sgn s i) = true := h2
  unfold sgnOk at h2
  rw [Bool.and_eq_true] at h2
  have h3 := h2.2
  have e1 : (sgn s i).cps.toList = [s.cps[i]] := by
    unfold sgn
    simp [Array.getD, hi]
  have e2 : ("z" : Str).cps.toList = [122] := by decide +kernel
  rw [e1, e2] at h3
  have h4 : ¬ ([122] : List Nat) < [s.cps[i]] := by
    intro z
    rw [decide_eq_true z] at h3
    cases h3
  have h5 : ¬ 122 < s.cps[i] := fun z => h4 (List.Lex.rel z)
  exact decide_eq_true (show s.cps[i] < 0x110000 by omega)
theorem sh_str {s : Str} (h : isNameS s = true) : SeqAt.shaped (.str s) = true := by
  unfold SeqAt.shaped
  simp [PyData.canLay0, PyData.depth, name_strOk h]
section
variable {P : Program} {w : World} {K : PySem.W.Frag} {mg : Str → Option Value} {base : Heap} {f : Addr} {fd : FuncData}
theorem sc_parts_of : FnScope ["makers", "maker", "name", "parts"] ["makers", "maker"] (defScope s_parts_of) := ⟨rfl, rfl, rfl, by decide +kernel, rfl, by decide +kernel, by decide +kernel⟩
theorem ok_parts_of (F : Fun K "parts_of" "parts_of" s_parts_of f fd) : FnOk P w K mg base CX0 1 f fd ["makers", "maker"] (spR K Rw_parts_of) := by
  refine F.ok sc_parts_of (spR_len (by rintro _ _ ⟨_, _, rfl, _⟩; rfl)) (fun cdv A outer s H vs Q E hr h => ?_)
  obtain ⟨B, ds, o, x, r, ⟨ms, m, rfl, hm, hnm, hnd, few, rfl⟩, q⟩ := h
  have hu64 : (A.deeper (envOfC "parts_of" (defScope s_parts_of) s.heap.objs.size f cdv)).units + 64 < cLine := by have := hr.un; omega
  have nd := sc_parts_of.nd
  refine ⟨_, pss_cons (ps_for PassesOwn.never rfl (pi_list (pv 0)) (pg_tup rfl (pgs_cons (pg_name (i := 2) nd rfl (.inl rfl)) (pgs_cons (pg_name (i := 3) nd rfl (.inl rfl)) pgs_nil)))
      (pss_one (ps_if (pt_cmpR (op_eqD hu64) (pv 2) (pv 1) (nomark _)) (pss_one (ps_ret (pv 3))) pss_nil)))
    (pss_one (ps_ret pe_non)), ?_⟩
  refine fin_rt ?_ x r q
  show DS K _ [some (.list (ms.map makerD)), some (.str m.1), none, none] _
  obtain ⟨j, hj, e⟩ := List.getElem_of_mem hm
  let ps : List (PyData × PyData) := ms.map fun m => (.str m.1, strL m.2)
  have hp : ∀ i (hi : i < ms.length), ps[i]? = some (.str ms[i].1, strL ms[i].2) := fun i hi => by
    show (ms.map _)[i]? = _
    rw [List.getElem?_map, List.getElem?_eq_getElem hi]
    rfl
  let Gs : Nat → List (Option PyData) := fun i => match i with
    | 0 => [some (.list (ms.map makerD)), some (.str m.1), none, none]
    | i + 1 => [some (.list (ms.map makerD)), some (.str m.1), ps[i]?.map (·.1), ps[i]?.map (·.2)]
  have st : ∀ i (hi : i < ms.length), ((Gs i).set 2 (ps[i]?.map (·.1))).set 3 (ps[i]?.map (·.2)) = [some (.list (ms.map makerD)), some (.str m.1), some (.str ms[i].1), some (strL ms[i].2)] := by
    intro i hi
    rw [hp i hi]
    cases i <;> rfl
  refine ds_seqR (ds_forR j Gs (di_listP (ps := ps) (de_is (de_var (d := .list (ms.map makerD)) rfl) (by rw [← makers_pairs]))) (by show j < (ms.map _).length; rw [List.length_map]; exact hj) rfl (fun i hi => ?_) ?_)
  · have hi2 : i < ms.length := Nat.lt_trans hi hj
    show DS K _ (((Gs i).set 2 (ps[i]?.map (·.1))).set 3 (ps[i]?.map (·.2))) _
    rw [st i hi2]
    have hne : (ms[i].1 == m.1) = false := by
      rw [beq_eq_false_iff_ne]
      intro z
      have h2 : (ms.map (·.1))[i]'(by rw [List.length_map]; exact hi2) = (ms.map (·.1))[j]'(by rw [List.length_map]; exact hj) := by
        rw [List.getElem_map, List.getElem_map, z, e]
      have := (List.getElem_inj hnd).mp h2
      omega
    refine ds_is (ds_if (b := false) (dt_is (dt_test (de_op (de_var rfl) (de_var rfl) (rd_eq (sh_str (hnm _ (List.getElem_mem _))) (sh_str (hnm _ hm)) rfl rfl))) hne) (fun z => nomatch z) fun _ => ds_next) ?_
    show Out.nx _ = Out.nx [some (.list (ms.map makerD)), some (.str m.1), ps[i]?.map (·.1), ps[i]?.map (·.2)]
    rw [hp i hi2]
    rfl
  · show DS K _ (((Gs j).set 2 (ps[j]?.map (·.1))).set 3 (ps[j]?.map (·.2))) _
    rw [st j hj]
    refine ds_if (b := true) (dt_is (dt_test (de_op (de_var rfl) (de_var rfl) (rd_eq (sh_str (hnm _ (List.getElem_mem _))) (sh_str (hnm _ hm)) rfl rfl))) (by rw [e]; exact beq_self_eq_true m.1)) (fun _ => ds_ret ?_) (fun z => nomatch z)
    rw [e]
    exact de_var rfl
theorem sc_is_bound : FnScope ["thing"] ["thing"] (defScope s_is_bound) := ⟨rfl, rfl, rfl, by decide +kernel, rfl, by decide +kernel, by decide +kernel⟩
theorem ok_is_bound (F : Fun K "is_bound" "is_bound" s_is_bound f fd) (cw : CL P w K mg base 1 "is_whole" Rw_is_whole) : FnOk P w K mg base CX0 2 f fd ["thing"] (spR K Rw_is_bound) := by
  refine F.ok sc_is_bound (spR_len (by rintro _ _ ⟨_, rfl, _⟩; rfl)) (fun cdv A outer s H vs Q E hr h => ?_)
  obtain ⟨B, ds, o, x, r, ⟨d, rfl, hb, rfl⟩, q⟩ := h
  refine ⟨_, pss_one (ps_ret (pe_or (pe_cmp (pc_isN (pv 0))) (pe_one (pe_cl cw hr (by decide) (by rfl) (pa_cons (pv 0) pa_nil))))), ?_⟩
  refine fin_rt ?_ x r q
  show DS K _ [some d] _
  refine ds_ret (de_is (de_or (de_isN (de_var rfl)) fun _ => de_call' (da_cons (de_var rfl) da_nil) ⟨d, rfl, rfl⟩) ?_)
  cases d <;> first | rfl | cases hb
theorem sc_is_range_pattern : FnScope ["thing"] ["thing"] (defScope s_is_range_pattern) := ⟨rfl, rfl, rfl, by decide +kernel, rfl, by decide +kernel, by decide +kernel⟩
theorem ok_is_range_pattern (F : Fun K "is_range_pattern" "is_range_pattern" s_is_range_pattern f fd) (M : Bl mg) (cb : CL P w K mg base 2 "is_bound" Rw_is_bound) : FnOk P w K mg base CX0 3 f fd ["thing"] (spR K Rw_is_range_pattern) := by
  refine F.ok sc_is_range_pattern (spR_len (by rintro _ _ ⟨_, _, rfl, _⟩; rfl)) (fun cdv A outer s H vs Q E hr h => ?_)
  obtain ⟨B, ds, o, x, r, ⟨a, b, rfl, ha, hb, rfl⟩, q⟩ := h
  have hu64 : (A.deeper (envOfC "is_range_pattern" (defScope s_is_range_pattern) s.heap.objs.size f cdv)).units + 64 < cLine := by have := hr.un; omega
  refine ⟨_, pss_one (ps_ret (pe_and (pe_cmpR (op_eqD hu64) (pe_callB call_lenR (by rfl) M.len PySem.boot_len (pa_cons (pv 0) pa_nil)) pe_int (nomark _)) (pe_and (pe_cmpR (op_eqD hu64) (pe_ix ix_tup (pv 0) pe_int (fun _ _ => rfl)) pe_str (nomark _))
    (pe_and (pe_cl cb hr (by decide) (by rfl) (pa_cons (pe_ix ix_tup (pv 0) pe_int (fun _ _ => rfl)) pa_nil)) (pe_one (pe_cl cb hr (by decide) (by rfl) (pa_cons (pe_ix ix_tup (pv 0) pe_int (fun _ _ => rfl)) pa_nil))))))), ?_⟩
  refine fin_rt ?_ x r q
  show DS K _ [some (fromD a b)] _
  refine ds_ret (de_is (de_and (de_op (de_cb (da_cons (de_var rfl) da_nil) cd_lenT) de_int (rd_eq rfl rfl rfl rfl)) fun _ => de_and (de_op (de_op (de_var rfl) de_int (rd_ixT (j := 0) rfl rfl)) de_str (rd_eq (by decide +kernel) (by decide +kernel) rfl rfl)) fun _ =>
    de_and (de_call' (da_cons (de_op (de_var rfl) de_int (rd_ixT (j := 1) rfl rfl)) da_nil) ⟨a, rfl, ha, rfl⟩) fun _ => de_call' (da_cons (de_op (de_var rfl) de_int (rd_ixT (j := 2) rfl rfl)) da_nil) ⟨b, rfl, hb, rfl⟩) ?_)
  exact congrArg PyData.bool (show (PyData.eqv (.int 3) (.int 3) && (PyData.eqv (.str "from") (.str "from") && (true && true))) = true by decide +kernel)
end
end FP
namespace FP
open PySem PySem.Spec PyProof.Rows L2 FC FG
open Evl (Ex)
section
variable {P : Program} {w : World} {K : PySem.W.Frag} {mg : Str → Option Value} {base : Heap} {f : Addr} {fd : FuncData}
theorem sc_maker_patterns : FnScope ["makers", "thing", "parts"] ["makers", "thing"] (defScope s_maker_patterns_within) := ⟨rfl, rfl, rfl, by decide +kernel, rfl, by decide +kernel, by decide +kernel⟩
theorem ok_maker_patterns (F : Fun K "maker_patterns_within" "maker_patterns_within" s_maker_patterns_within f fd) (M : Bl mg) (cp : CL P w K mg base 1 "parts_of" Rw_parts_of) : FnOk P w K mg base CX0 2 f fd ["makers", "thing"] (spR K Rw_maker_patterns) := by
  refine F.ok sc_maker_patterns (spR_len (by rintro _ _ ⟨_, _, _, rfl, _⟩; rfl)) (fun cdv A outer s H vs Q E hr h => ?_)
  obtain ⟨B, ds, o, x, r, ⟨ms, m, ps, rfl, hm, hnm, hnd, few, hl, hl9, hp, rfl⟩, q⟩ := h
  have hu64 : (A.deeper (envOfC "maker_patterns_within" (defScope s_maker_patterns_within) s.heap.objs.size f cdv)).units + 64 < cLine := by have := hr.un; omega
  have nd := sc_maker_patterns.nd
  refine ⟨_, pss_cons (ps_if (pw_or (pt_cmpR (op_neD hu64) (pe_callB call_lenR (by rfl) M.len PySem.boot_len (pa_cons (pv 1) pa_nil)) pe_int (nomark _)) (pw_or (pt_cmpR (op_neD hu64) (pe_ix ix_tup (pv 1) pe_int (fun _ _ => rfl)) pe_str (nomark _)) (pw_or1 (pt_not (pt_val (k_isi (pe_ix ix_tup (pv 1) pe_int (fun _ _ => rfl)) (by rfl) M.isi (by rfl) M.list PyProof.Rows.boot_list (by decide) (by decide))))))).pt pss_never pss_nil)
    (pss_cons (ps_set (i := 2) nd rfl (Or.inl rfl) (pe_cl cp hr (by decide) (by rfl) (pa_cons (pv 0) (pa_cons (pe_ix ix_tup (pv 1) pe_int (fun _ _ => rfl)) pa_nil))))
    (pss_cons (ps_if (pw_or (pt_cmp (pc_isN (pv 2))) (pw_or1 (pt_cmpR (op_neD hu64) (pe_callB call_lenR (by rfl) M.len PySem.boot_len (pa_cons (pe_ix ix_tup (pv 1) pe_int (fun _ _ => rfl)) pa_nil)) (pe_callB call_lenR (by rfl) M.len PySem.boot_len (pa_cons (pv 2) pa_nil)) (nomark _)))).pt pss_never pss_nil)
    (pss_one (ps_ret (pe_listZip false false (by rfl) M.list (by rfl) M.zip (pa_cons (pv 2) (pa_cons (pe_ix ix_tup (pv 1) pe_int (fun _ _ => rfl)) pa_nil))))))), ?_⟩
  refine fin_rt ?_ x r q
  show DS K _ [some (.list (ms.map makerD)), some (mkrD m.1 ps), none] _
  have hv : ∀ x2, DE K (tVar 1) [some (.list (ms.map makerD)), some (mkrD m.1 ps), x2] (.tuple [.str "maker", .str m.1, .list ps]) := fun _ => de_var rfl
  refine ds_guard (b := false) (dt_is (dt_or (dt_lenTN (hv _)) fun _ => dt_or (dt_headN (hv _)) fun _ => dt_not (dt_B (de_ty (de_at (j := 2) (hv _) rfl rfl) rfl kll))) (by show (!((3 : Int) == 3) || (!(("maker" : Str) == "maker") || !true)) = false; decide +kernel)) (fun z => nomatch z) fun _ => ?_
  refine ds_seq (ds_set (de_call' (da_cons (de_var rfl) (da_cons (de_at (j := 1) (hv _) rfl rfl) da_nil)) ⟨ms, m, rfl, hm, hnm, hnd, few, rfl⟩)) ?_
  show DS K _ [some (.list (ms.map makerD)), some (mkrD m.1 ps), some (strL m.2)] _
  refine ds_guard (b := false) (dt_is (dt_or (dt_B (de_isN (de_var rfl))) fun _ => dt_test (de_op (de_cb (da_cons (de_at (j := 2) (hv _) rfl rfl) da_nil) cd_lenL) (de_cb (da_cons (de_var (d := .list (m.2.map .str)) rfl) da_nil) cd_lenL) (rd_ne (sh_int _) (sh_int _) rfl rfl))) ?_) (fun z => nomatch z) fun _ => ds_ret ?_
  · show (false || !((ps.length : Int) == ((m.2.map PyData.str).length : Int))) = false
    rw [List.length_map, hl, beq_self_eq_true]
    rfl
  · exact de_listZip (t := false) (u := false) (da_cons (de_var (d := .list (m.2.map .str)) rfl) (da_cons (de_at (j := 2) (hv _) rfl rfl) da_nil)) (by rw [List.length_map, hl]) (by rw [List.length_map]; omega)
theorem lc_pairs {te : TE} {G : List (Option PyData)} {c : Str} {ps : List PyData} {tc : TE} {j : Nat} (h : DE K te G (.list ps)) (hp : ps.all FC.plain = true) (hl : ps.length ≤ 9) (hc : ∀ d, DE K tc ((wipeG G [j]).set j (some d)) (.str c)) (hj : j < G.length) :
    DE K (tLc (iList K te) (gName j) tYes (tTup (tCons tc (tCons (tVar j) tNil))) [j]) G (listX ((ps.map fun p => (PyData.str c, p)).map pairT)) := by
  refine de_is (de_lcX (fun _ => true) (fun i => .tuple [.str c, ps.getD i .none]) (di_list h) (by simp) (fun _ _ => dt_yes) (fun i hi _ => ?_) (fun _ _ _ => rfl) (by omega)) ?_
  · have e : ps[i]? = some (ps.getD i .none) := by rw [getD_at hi, List.getElem?_eq_getElem hi]
    have hpl : FC.plain (ps.getD i .none) = true := by
      rw [getD_at hi]
      exact List.all_eq_true.mp hp _ (List.getElem_mem hi)
    show DE K _ ((wipeG G [j]).set j ps[i]?) _
    rw [e]
    refine de_tup (da_cons (hc _) (da_cons (de_var ?_) da_nil)) (by simp only [List.all_cons, hpl]; rfl) (by show 2 ≤ 1000; decide)
    rw [List.getElem?_set_self (by show j < (G.set j none).length; rw [List.length_set]; exact hj)]
  · congr 1
    rw [madeG_filter PyData.none (fun _ => true) (fun p => PyData.tuple [.str c, p]), List.filter_eq_self.mpr (fun _ _ => rfl), List.map_map]
    rfl
theorem sc_row_patterns : FnScope ["cell", "thing", "patterns", "pattern"] ["cell", "thing"] (defScope s_row_patterns_within) := ⟨rfl, rfl, rfl, by decide +kernel, rfl, by decide +kernel, by decide +kernel⟩
theorem ok_row_patterns (F : Fun K "row_patterns_within" "row_patterns_within" s_row_patterns_within f fd) (M : Bl mg) : FnOk P w K mg base CX0 1 f fd ["cell", "thing"] (spR K Rw_row_patterns) := by
  refine F.ok sc_row_patterns (spR_len (by rintro _ _ ⟨_, _, _, _, rfl, _⟩; rfl)) (fun cdv A outer s H vs Q E hr h => ?_)
  obtain ⟨B, ds, o, x, r, ⟨c, ps, qs, t, rfl, ht, hl, hp, rfl⟩, q⟩ := h
  have hu64 : (A.deeper (envOfC "row_patterns_within" (defScope s_row_patterns_within) s.heap.objs.size f cdv)).units + 64 < cLine := by have := hr.un; omega
  have nd := sc_row_patterns.nd
  refine ⟨_, pss_cons (ps_if (pt_not (pt_val (pe_callB (cr_all rfl) (by rfl) M.all PyProof.Rows.boot_all (pa_cons (pe_lc (own := [("patterns", 2)]) (g := gName 2) (tt := tYes) (te := tCB (rIsi K) (tCons (tVar 2) (tCons (tC (.ty "list")) tNil))) rfl nd (pi_tup (pe_slice sl_tup (pv 1) (po_some pe_int) po_none)) (blkOk_by (N := ["cell", "thing", "patterns", "pattern"]) (sc := defScope s_row_patterns_within) (by decide +kernel)) (fun _ _ _ _ _ => pg_name (i := 2) nd rfl (Or.inl rfl)) (fun _ _ _ _ _ => pts_nil)
      (fun _ _ _ _ _ => k_isi (pv 2) (by rfl) M.isi (by rfl) M.list PyProof.Rows.boot_list (by decide) (by decide))) pa_nil)))) pss_never pss_nil)
    (pss_cons (ps_if (pw_and (pt_cmpR (op_eqD hu64) (pe_callB call_lenR (by rfl) M.len PySem.boot_len (pa_cons (pv 1) pa_nil)) pe_int (nomark _)) (pw_and1 (pt_cmpR (op_eqD hu64) (pe_ix ix_tup (pv 1) pe_int (fun _ _ => rfl)) pe_str (nomark _)))).pt
      (pss_one (ps_ret (pe_lc (own := [("pattern", 3)]) (g := gName 3) (tt := tYes) rfl nd (pi_list (pe_ix ix_tup (pv 1) pe_int (fun _ _ => rfl))) (blkOk_by (N := ["cell", "thing", "patterns", "pattern"]) (sc := defScope s_row_patterns_within) (by decide +kernel)) (fun _ _ _ _ _ => pg_name (i := 3) nd rfl (Or.inl rfl)) (fun _ _ _ _ _ => pts_nil)
        (fun _ _ _ _ _ => pe_tup (pa_cons (pv 0) (pa_cons (pv 3) pa_nil)))))) pss_nil)
    (pss_cons (ps_if (pw_and (pt_cmpR (op_eqD hu64) (pe_callB call_lenR (by rfl) M.len PySem.boot_len (pa_cons (pv 1) pa_nil)) pe_int (nomark _)) (pw_and1 (pt_cmpR (op_eqD hu64) (pe_ix ix_tup (pv 1) pe_int (fun _ _ => rfl)) pe_str (nomark _)))).pt
      (pss_one (ps_ret (pe_lc (own := [("pattern", 3)]) (g := gName 3) (tt := tYes) rfl nd (pi_list (pe_op op_catL (pe_ix ix_tup (pv 1) pe_int (fun _ _ => rfl)) (pe_ix ix_tup (pv 1) pe_int (fun _ _ => rfl)))) (blkOk_by (N := ["cell", "thing", "patterns", "pattern"]) (sc := defScope s_row_patterns_within) (by decide +kernel)) (fun _ _ _ _ _ => pg_name (i := 3) nd rfl (Or.inl rfl)) (fun _ _ _ _ _ => pts_nil)
        (fun _ _ _ _ _ => pe_tup (pa_cons (pv 0) (pa_cons (pv 3) pa_nil)))))) pss_nil)
    pss_never)), ?_⟩
  refine fin_rt ?_ x r q
  show DS K _ [some (.str c), some t, none, none] _
  have lists : ∀ (n : Str) (ls : List (List PyData)), ls.length ≤ 9 → t = .tuple (.str n :: ls.map .list) → DT K (tNot (tB (tCB (rAll K) (tCons (tLc (iTup K (tSl (rSlT K) (tVar 1) (tPart (tC (.int 1))) tNoPart)) (gName 2) tYes (tCB (rIsi K) (tCons (tVar 2) (tCons (tC (.ty "list")) tNil))) [2]) tNil)))) [some (.str c), some t, none, none] false := by
    intro n ls hls e
    refine dt_is (dt_not (dt_B (de_cb (da_cons (de_is (de_lc (fun _ => true) (fun _ => .bool true) (di_tup (ds := ls.map .list) (de_tail (d := .str n) (de_var (by rw [e]; rfl)))) (by decide) (fun _ _ => dt_yes) (fun i hi _ => ?_) (fun _ _ _ => rfl) (by rw [List.length_map]; omega)) (congrArg PyData.list (madeG_bools (fun _ => true) _))) da_nil) cd_all))) (by rw [all_true fun _ _ => rfl]; rfl)
    have hi : i < ls.length := by simpa using hi
    show DE K _ [some (.str c), some t, (ls.map PyData.list)[i]?, none] _
    rw [get_map hi]
    exact de_ty (de_var (d := .list ls[i]) rfl) rfl kll
  rcases ht with ⟨rfl, rfl⟩ | rfl
  · have hv : DE K (tVar 1) [some (.str c), some (rowD ps), none, none] (.tuple [.str "row", .list ps]) := de_var rfl
    refine ds_guard (b := false) (lists "row" [ps] (by show 1 ≤ 9; decide) rfl) (fun z => nomatch z) fun _ => ?_
    refine ds_guard (b := true) (dt_is (dt_and (dt_lenT hv) fun _ => dt_head hv) (by show (((2 : Int) == 2) && (("row" : Str) == "row")) = true; decide +kernel)) (fun _ => ds_ret ?_) (fun z => nomatch z)
    rw [List.append_nil] at hp ⊢
    exact lc_pairs (de_at (j := 1) hv rfl rfl) hp (by simpa using hl) (fun d => de_var rfl) (by show 3 < 4; decide)
  · have hv : DE K (tVar 1) [some (.str c), some (gapD ps qs), none, none] (.tuple [.str "gap", .list ps, .list qs]) := de_var rfl
    refine ds_guard (b := false) (lists "gap" [ps, qs] (by show 2 ≤ 9; decide) rfl) (fun z => nomatch z) fun _ => ?_
    refine ds_guard (b := false) (dt_is (dt_and (c := false) (dt_lenT hv) fun z => nomatch z) rfl) (fun z => nomatch z) fun _ => ?_
    refine ds_guard (b := true) (dt_is (dt_and (dt_lenT hv) fun _ => dt_head hv) (by show (((3 : Int) == 3) && (("gap" : Str) == "gap")) = true; decide +kernel)) (fun _ => ds_ret ?_) (fun z => nomatch z)
    exact lc_pairs (de_ofX (de_cat (de_at (j := 1) hv rfl rfl) (de_at (j := 2) hv rfl rfl) (by omega))) hp (by rw [List.length_append]; exact hl) (fun d => de_var rfl) (by show 3 < 4; decide)
end
end FP
namespace FP
open PySem PySem.Spec PyProof.Rows L2 FC FG
open Evl (Ex)
def Rw_is_pattern : List PyData → PyData → Prop := fun ds o => ∃ kvs n k p, ds = [dictOf kvs, .str k, p] ∧ FormsOk kvs ∧ OkPat kvs n k p ∧ n ≤ 4 ∧ o = .bool true
theorem makersOk {kvs : List (Str × PyData)} {ms : List (Str × List Str)} (h : OkForm kvs (makersD ms)) : (∀ m ∈ ms, OkMaker kvs m) ∧ (ms.map (·.1)).Nodup ∧ ms.length ≤ 100 := by
  generalize hd : makersD ms = dd at h
  cases h with
  | nums h => cases hd
  | rows h => cases hd
  | words ne nm nd few => unfold makersD wordsD at hd; cases (PyData.str.inj (List.cons.inj (PyData.tuple.inj hd)).1)
  | @makers ms2 ne ok nd few =>
    have e := PyData.list.inj (List.cons.inj (List.cons.inj (PyData.tuple.inj hd)).2).1
    have inj : ∀ (a b : List (Str × List Str)), a.map makerD = b.map makerD → a = b := by
      intro a
      induction a with
      | nil => intro b h; cases b with | nil => rfl | cons => cases h
      | cons x xs ih =>
        intro b h
        cases b with
        | nil => cases h
        | cons y ys =>
          rw [List.map_cons, List.map_cons] at h
          obtain ⟨h1, h2⟩ := List.cons.inj h
          have h3 := List.cons.inj (PyData.tuple.inj h1)
          have h4 := PyData.str.inj h3.1
          have h5 := PyData.list.inj (List.cons.inj h3.2).1
          have inS : ∀ (a b : List Str), a.map PyData.str = b.map PyData.str → a = b := fun a b h => (List.map_inj_right (fun _ _ z => PyData.str.inj z)).mp h
          rw [ih ys h2, Prod.ext (x := x) (y := y) h4 (inS _ _ h5)]
    rw [inj _ _ e]
    exact ⟨ok, nd, few⟩
section
variable {P : Program} {w : World} {K : PySem.W.Frag} {mg : Str → Option Value} {base : Heap} {f : Addr} {fd : FuncData} {G : List (Option PyData)}
theorem dt_tup {ta : TE} {ds : List PyData} (h : DE K ta G (.tuple ds)) : DT K (fun σ H Q => ta σ H fun x H' => ∃ k, TruV K x H' k ∧ Q k H') G (!ds.isEmpty) := fun σ B H x en Q q => h σ B H x en _ fun v B' H' g r => by
  have r := r.dp rfl
  cases r with
  | @tup a vs _ hs ha =>
    refine ⟨!ds.isEmpty, .inr (.inl ⟨vs, ex_t g.sub hs, ?_⟩), q B' H' g⟩
    have hl := dps_len ha
    cases vs <;> cases ds <;> simp at hl ⊢
theorem sc_patterns_within : FnScope ["kinds", "kind", "thing", "form", "choice"] ["kinds", "kind", "thing"] (defScope s_patterns_within) := ⟨rfl, rfl, rfl, by decide +kernel, rfl, by decide +kernel, by decide +kernel⟩
theorem ok_patterns_within (F : Fun K "patterns_within" "patterns_within" s_patterns_within f fd) (M : Bl mg) (cf : CL P w K mg base 1 "is_filled_list" Rw_is_filled_list) (cr : CL P w K mg base 3 "is_range_pattern" Rw_is_range_pattern) (cm : CL P w K mg base 2 "maker_patterns_within" Rw_maker_patterns) (cw : CL P w K mg base 1 "row_patterns_within" Rw_row_patterns) : FnOk P w K mg base CX0 4 f fd ["kinds", "kind", "thing"] (spR K Rw_patterns_within) := by
  refine F.ok sc_patterns_within (spR_len (by rintro _ _ ⟨_, _, _, _, rfl, _⟩; rfl)) (fun cdv A outer s H vs Q E hr h => ?_)
  obtain ⟨B, ds, o, x, r, ⟨kvs, k, p, held, rfl, fk, hp, rfl⟩, q⟩ := h
  have hu := hu_of hr
  have hu64 : (A.deeper (envOfC "patterns_within" (defScope s_patterns_within) s.heap.objs.size f cdv)).units + 64 < cLine := by have := hr.un; omega
  have nd := sc_patterns_within.nd
  refine ⟨_, pss_cons (ps_if (pt_cmp (pc_isN (pv 2))) (pss_one (ps_ret (pe_lst pa_nil))) pss_nil)
    (pss_cons (ps_if (pw_or (pt_not (pt_val (k_isi (pv 2) (by rfl) M.isi (by rfl) M.tuple PyProof.Rows.boot_tuple (by decide) (by decide)))) (pw_or1 (pt_not (pt_truth (pv 2) (by intro _; rfl))))).pt pss_never pss_nil)
    (pss_cons (ps_if (pt_cmpR (op_eqD hu64) (pe_ix ix_tup (pv 2) pe_int (fun _ _ => rfl)) pe_str (nomark _)) (pss_one (ps_ret (pe_ifExp (pw_and (pt_cmpR (op_eqD hu64) (pe_callB call_lenR (by rfl) M.len PySem.boot_len (pa_cons (pv 2) pa_nil)) pe_int (nomark _)) (pw_and1 (pt_val (pe_cl cf hr (by decide) (by rfl) (pa_cons (pe_ix ix_tup (pv 2) pe_int (fun _ _ => rfl)) pa_nil))))).pt
      (pe_lc (own := [("choice", 4)]) (g := gName 4) (tt := tYes) rfl nd (pi_list (pe_ix ix_tup (pv 2) pe_int (fun _ _ => rfl))) (blkOk_by (N := ["kinds", "kind", "thing", "form", "choice"]) (sc := defScope s_patterns_within) (by decide +kernel)) (fun _ _ _ _ _ => pg_name (i := 4) nd rfl (Or.inl rfl)) (fun _ _ _ _ _ => pts_nil)
        (fun _ _ _ _ _ => pe_tup (pa_cons (pv 1) (pa_cons (pv 4) pa_nil)))) pe_dead))) pss_nil)
    (pss_cons (ps_set (i := 3) nd rfl (Or.inl rfl) (pe_dget hu (pv 0) (pv 1) (fun _ _ => rfl)))
    (pss_cons (ps_if (pt_cmpR (op_eqD hu64) (pe_ix ix_tup (pv 3) pe_int (fun _ _ => rfl)) pe_str (nomark _)) (pss_one (ps_ret (pe_ifExp (pt_val (pe_cl cr hr (by decide) (by rfl) (pa_cons (pv 2) pa_nil))) (pe_lst pa_nil) pe_dead))) pss_nil)
    (pss_cons (ps_if (pt_cmpR (op_eqD hu64) (pe_ix ix_tup (pv 3) pe_int (fun _ _ => rfl)) pe_str (nomark _)) (pss_one (ps_ret (pe_ifExp (pw_and (pt_cmpR (op_eqD hu64) (pe_callB call_lenR (by rfl) M.len PySem.boot_len (pa_cons (pv 2) pa_nil)) pe_int (nomark _)) (pw_and (pt_cmpR (op_eqD hu64) (pe_ix ix_tup (pv 2) pe_int (fun _ _ => rfl)) pe_str (nomark _)) (pw_and1 (pt_cmpR op_in_seq (pe_ix ix_tup (pv 2) pe_int (fun _ _ => rfl)) (pe_ix ix_tup (pv 3) pe_int (fun _ _ => rfl)) (by rfl))))).pt (pe_lst pa_nil) pe_dead))) pss_nil)
    (pss_cons (ps_if (pt_cmpR (op_eqD hu64) (pe_ix ix_tup (pv 3) pe_int (fun _ _ => rfl)) pe_str (nomark _)) (pss_one (ps_ret (pe_cl cm hr (by decide) (by rfl) (pa_cons (pe_ix ix_tup (pv 3) pe_int (fun _ _ => rfl)) (pa_cons (pv 2) pa_nil))))) pss_nil)
    (pss_one (ps_ret (pe_cl cw hr (by decide) (by rfl) (pa_cons (pe_ix ix_tup (pv 3) pe_int (fun _ _ => rfl)) (pa_cons (pv 2) pa_nil))))))))))), ?_⟩
  refine fin_rt ?_ x r q
  show DS K _ [some (dictOf kvs), some (.str k), some p, none, none] _
  have hv : ∀ {t : PyData} {x3 x4}, DE K (tVar 2) [some (dictOf kvs), some (.str k), some t, x3, x4] t := de_var rfl
  have hf : ∀ {t fo : PyData} {x4}, DE K (tVar 3) [some (dictOf kvs), some (.str k), some t, some fo, x4] fo := de_var rfl
  have hk1 : ∀ {t : PyData} {x3 x4}, DE K (tVar 1) [some (dictOf kvs), some (.str k), some t, x3, x4] (.str k) := de_var rfl
  cases hp with
  | any => exact ds_guard (b := true) (dt_is (dt_B (de_isN hv)) rfl) (fun _ => ds_ret (de_lstX da_nil rfl (by decide))) (fun z => nomatch z)
  | @or ps ne few hp =>
    have h2 : DE K (tVar 2) [some (dictOf kvs), some (.str k), some (orD ps), none, none] (.tuple [.str "or", .list ps]) := hv
    refine ds_guard (b := false) (dt_is (dt_B (de_isN hv)) rfl) (fun z => nomatch z) fun _ => ?_
    refine ds_guard (b := false) (dt_is (dt_or (dt_not (dt_B (de_ty h2 rfl ktt))) fun _ => dt_not (dt_tup h2)) rfl) (fun z => nomatch z) fun _ => ?_
    refine ds_guard (b := true) (dt_is (dt_head h2) (by decide +kernel)) (fun _ => ds_ret ?_) (fun z => nomatch z)
    refine de_if (b := true) (dt_is (dt_and (dt_lenT h2) fun _ => dt_B (de_call' (da_cons (de_at (j := 1) h2 rfl rfl) da_nil) ⟨ps, rfl, ne, rfl⟩)) rfl) (fun _ => ?_) (fun z => nomatch z)
    exact lc_pairs (de_at (j := 1) h2 rfl rfl) hp few (fun d => de_var rfl) (by show 4 < 5; decide)
  | @range lo hi a b hk ha hb =>
    have h2 : ∀ {x3}, DE K (tVar 2) [some (dictOf kvs), some (.str k), some (fromD a b), x3, none] (.tuple [.str "from", a, b]) := hv
    refine ds_guard (b := false) (dt_is (dt_B (de_isN hv)) rfl) (fun z => nomatch z) fun _ => ?_
    refine ds_guard (b := false) (dt_is (dt_or (dt_not (dt_B (de_ty h2 rfl ktt))) fun _ => dt_not (dt_tup h2)) rfl) (fun z => nomatch z) fun _ => ?_
    refine ds_guard (b := false) (dt_is (dt_head h2) (by decide +kernel)) (fun z => nomatch z) fun _ => ?_
    refine ds_seq (ds_set (de_dget (de_var rfl) (de_var rfl) hk)) ?_
    show DS K _ [some (dictOf kvs), some (.str k), some (fromD a b), some (numsD lo hi), none] _
    have h3 : DE K (tVar 3) [some (dictOf kvs), some (.str k), some (fromD a b), some (numsD lo hi), none] (.tuple [.str "numbers", .int lo, .int hi]) := hf
    refine ds_guard (b := true) (dt_is (dt_head h3) (by decide +kernel)) (fun _ => ds_ret ?_) (fun z => nomatch z)
    exact de_if (b := true) (dt_B (de_call' (da_cons hv da_nil) ⟨a, b, rfl, ha, hb, rfl⟩)) (fun _ => de_lstX da_nil rfl (by decide)) (fun z => nomatch z)
  | @word ws wd hk hw =>
    have h2 : ∀ {x3}, DE K (tVar 2) [some (dictOf kvs), some (.str k), some (wordD wd), x3, none] (.tuple [.str "word", .str wd]) := hv
    refine ds_guard (b := false) (dt_is (dt_B (de_isN hv)) rfl) (fun z => nomatch z) fun _ => ?_
    refine ds_guard (b := false) (dt_is (dt_or (dt_not (dt_B (de_ty h2 rfl ktt))) fun _ => dt_not (dt_tup h2)) rfl) (fun z => nomatch z) fun _ => ?_
    refine ds_guard (b := false) (dt_is (dt_head h2) (by decide +kernel)) (fun z => nomatch z) fun _ => ?_
    refine ds_seq (ds_set (de_dget (de_var rfl) (de_var rfl) hk)) ?_
    show DS K _ [some (dictOf kvs), some (.str k), some (wordD wd), some (wordsD ws), none] _
    have h3 : DE K (tVar 3) [some (dictOf kvs), some (.str k), some (wordD wd), some (wordsD ws), none] (.tuple [.str "words", strL ws]) := hf
    refine ds_guard (b := false) (dt_is (dt_head h3) (by decide +kernel)) (fun z => nomatch z) fun _ => ?_
    refine ds_guard (b := true) (dt_is (dt_head h3) (by decide +kernel)) (fun _ => ds_ret ?_) (fun z => nomatch z)
    refine de_if (b := true) (dt_is (dt_and (dt_lenT h2) fun _ => dt_and (dt_head h2) fun _ => dt_test (de_op (de_at (j := 1) h2 rfl rfl) (de_at (j := 1) h3 rfl rfl) rd_inS)) ?_) (fun _ => de_lstX da_nil rfl (by decide)) (fun z => nomatch z)
    rw [List.contains_iff_mem.mpr hw]
    show (((2 : Int) == 2) && ((("word" : Str) == "word") && true)) = true
    decide +kernel
  | @maker ms m ps hk hm hl few hp =>
    have h2 : ∀ {x3}, DE K (tVar 2) [some (dictOf kvs), some (.str k), some (mkrD m.1 ps), x3, none] (.tuple [.str "maker", .str m.1, .list ps]) := hv
    refine ds_guard (b := false) (dt_is (dt_B (de_isN hv)) rfl) (fun z => nomatch z) fun _ => ?_
    refine ds_guard (b := false) (dt_is (dt_or (dt_not (dt_B (de_ty h2 rfl ktt))) fun _ => dt_not (dt_tup h2)) rfl) (fun z => nomatch z) fun _ => ?_
    refine ds_guard (b := false) (dt_is (dt_head h2) (by decide +kernel)) (fun z => nomatch z) fun _ => ?_
    refine ds_seq (ds_set (de_dget (de_var rfl) (de_var rfl) hk)) ?_
    show DS K _ [some (dictOf kvs), some (.str k), some (mkrD m.1 ps), some (makersD ms), none] _
    have h3 : DE K (tVar 3) [some (dictOf kvs), some (.str k), some (mkrD m.1 ps), some (makersD ms), none] (.tuple [.str "makers", .list (ms.map makerD)]) := hf
    refine ds_guard (b := false) (dt_is (dt_head h3) (by decide +kernel)) (fun z => nomatch z) fun _ => ?_
    refine ds_guard (b := false) (dt_is (dt_head h3) (by decide +kernel)) (fun z => nomatch z) fun _ => ?_
    refine ds_guard (b := true) (dt_is (dt_head h3) (by decide +kernel)) (fun _ => ds_ret ?_) (fun z => nomatch z)
    have hmm := makersOk (fk k _ hk)
    exact de_call' (da_cons (de_at (j := 1) h3 rfl rfl) (da_cons hv da_nil)) ⟨ms, m, ps, rfl, hm, fun m h => (hmm.1 m h).nm, hmm.2.1, hmm.2.2, hl, few, hp, rfl⟩
  | @row c ps hk few hp =>
    have h2 : ∀ {x3}, DE K (tVar 2) [some (dictOf kvs), some (.str k), some (rowD ps), x3, none] (.tuple [.str "row", .list ps]) := hv
    refine ds_guard (b := false) (dt_is (dt_B (de_isN hv)) rfl) (fun z => nomatch z) fun _ => ?_
    refine ds_guard (b := false) (dt_is (dt_or (dt_not (dt_B (de_ty h2 rfl ktt))) fun _ => dt_not (dt_tup h2)) rfl) (fun z => nomatch z) fun _ => ?_
    refine ds_guard (b := false) (dt_is (dt_head h2) (by decide +kernel)) (fun z => nomatch z) fun _ => ?_
    refine ds_seq (ds_set (de_dget (de_var rfl) (de_var rfl) hk)) ?_
    show DS K _ [some (dictOf kvs), some (.str k), some (rowD ps), some (rowsD c), none] _
    have h3 : DE K (tVar 3) [some (dictOf kvs), some (.str k), some (rowD ps), some (rowsD c), none] (.tuple [.str "rows", .str c]) := hf
    refine ds_guard (b := false) (dt_is (dt_head h3) (by decide +kernel)) (fun z => nomatch z) fun _ => ?_
    refine ds_guard (b := false) (dt_is (dt_head h3) (by decide +kernel)) (fun z => nomatch z) fun _ => ?_
    refine ds_guard (b := false) (dt_is (dt_head h3) (by decide +kernel)) (fun z => nomatch z) fun _ => ds_ret ?_
    exact de_call' (da_cons (de_at (j := 1) h3 rfl rfl) (da_cons hv da_nil)) ⟨c, ps, [], _, rfl, .inl ⟨rfl, rfl⟩, by simpa using few, by simpa using hp, by rw [List.append_nil]⟩
  | @gap c ps qs hk few hp =>
    have h2 : ∀ {x3}, DE K (tVar 2) [some (dictOf kvs), some (.str k), some (gapD ps qs), x3, none] (.tuple [.str "gap", .list ps, .list qs]) := hv
    refine ds_guard (b := false) (dt_is (dt_B (de_isN hv)) rfl) (fun z => nomatch z) fun _ => ?_
    refine ds_guard (b := false) (dt_is (dt_or (dt_not (dt_B (de_ty h2 rfl ktt))) fun _ => dt_not (dt_tup h2)) rfl) (fun z => nomatch z) fun _ => ?_
    refine ds_guard (b := false) (dt_is (dt_head h2) (by decide +kernel)) (fun z => nomatch z) fun _ => ?_
    refine ds_seq (ds_set (de_dget (de_var rfl) (de_var rfl) hk)) ?_
    show DS K _ [some (dictOf kvs), some (.str k), some (gapD ps qs), some (rowsD c), none] _
    have h3 : DE K (tVar 3) [some (dictOf kvs), some (.str k), some (gapD ps qs), some (rowsD c), none] (.tuple [.str "rows", .str c]) := hf
    refine ds_guard (b := false) (dt_is (dt_head h3) (by decide +kernel)) (fun z => nomatch z) fun _ => ?_
    refine ds_guard (b := false) (dt_is (dt_head h3) (by decide +kernel)) (fun z => nomatch z) fun _ => ?_
    refine ds_guard (b := false) (dt_is (dt_head h3) (by decide +kernel)) (fun z => nomatch z) fun _ => ds_ret ?_
    exact de_call' (da_cons (de_at (j := 1) h3 rfl rfl) (da_cons hv da_nil)) ⟨c, ps, qs, _, rfl, .inr rfl, few, hp, rfl⟩
theorem sc_is_pattern : FnScope ["kinds", "kind", "thing"] ["kinds", "kind", "thing"] (defScope s_is_pattern) := ⟨rfl, rfl, rfl, by decide +kernel, rfl, by decide +kernel, by decide +kernel⟩
theorem ok_is_pattern (F : Fun K "is_pattern" "is_pattern" s_is_pattern f fd) (cs : Cl P w K mg base 5 "is_sound" (spSound P w K mg base 4)) (cp : CL P w K mg base 4 "patterns_within" Rw_patterns_within) : FnOk P w K mg base CX0 6 f fd ["kinds", "kind", "thing"] (spR K Rw_is_pattern) := by
  refine F.ok sc_is_pattern (spR_len (by rintro _ _ ⟨_, _, _, _, rfl, _⟩; rfl)) (fun cdv A outer s H vs Q E hr h => ?_)
  obtain ⟨B, ds, o, x, r, ⟨kvs, n, k, p, rfl, fk, hp, hn, rfl⟩, q⟩ := h
  obtain ⟨fw, fdw, psw, Fw, mw, kw, bw⟩ := cp.ex
  refine ⟨_, pss_one (ps_ret (pe_cl cs hr (by decide) (by rfl) (pa_cons (pv 0) (pa_cons (pv 1) (pa_cons (pv 2) (pa_cons (pe_glob (v := .ref fw) (by rfl) mw rfl) pa_nil)))))), ?_⟩
  refine fin_rt ?_ x r q
  show DS K _ [some (dictOf kvs), some (.str k), some p] _
  have hc : costN n ≤ 100000 := by
    have h4 : costN 4 ≤ 100000 := by decide
    have : ∀ m, n ≤ m → costN n ≤ costN m := fun m hm => by
      induction hm with
      | refl => exact Nat.le_refl _
      | step _ ih => exact Nat.le_trans ih (costN_mono _)
    exact Nat.le_trans (this 4 hn) h4
  obtain ⟨j, sw⟩ := sweep_cost (hp.cost fk) hc
  exact ds_ret (de_sound Fw kw bw (de_var rfl) (de_var rfl) (de_var rfl) rfl hp.plain sw)
end
end FP
namespace FP
open PySem PySem.Spec PyProof.Rows L2 FC FG
open Evl (Ex)
/-! ### values -/
inductive OkVal (kvs : List (Str × PyData)) : Nat → Str → PyData → Prop where
  | num {n : Nat} {k : Str} {lo hi i : Int} (hk : look kvs k = some (numsD lo hi)) (h1 : lo ≤ i) (h2 : i ≤ hi) : OkVal kvs n k (.int i)
  | word {n : Nat} {k : Str} {ws : List Str} {w : Str} (hk : look kvs k = some (wordsD ws)) (hw : w ∈ ws) : OkVal kvs n k (.str w)
  | row {n : Nat} {k c : Str} {xs : List PyData} (hk : look kvs k = some (rowsD c)) (few : xs.length ≤ 9) (h : ∀ x ∈ xs, OkVal kvs n c x) : OkVal kvs (n + 1) k (.list xs)
  | maker {n : Nat} {k : Str} {ms : List (Str × List Str)} {m : Str × List Str} {xs : List PyData} (hk : look kvs k = some (makersD ms)) (hm : m ∈ ms) (hl : xs.length = m.2.length) (few : xs.length ≤ 9) (h : ∀ q ∈ m.2.zip xs, OkVal kvs n q.1 q.2) : OkVal kvs (n + 1) k (.tuple (.str m.1 :: xs))
theorem OkVal.plain {kvs : List (Str × PyData)} {n : Nat} {k : Str} {v : PyData} (h : OkVal kvs n k v) : FC.plain v = true := by
  cases h <;> rfl
inductive HeldV (kvs : List (Str × PyData)) : Str → PyData → List (PyData × PyData) → Prop where
  | num {k : Str} {lo hi i : Int} (hk : look kvs k = some (numsD lo hi)) (h1 : lo ≤ i) (h2 : i ≤ hi) : HeldV kvs k (.int i) []
  | word {k : Str} {ws : List Str} {w : Str} (hk : look kvs k = some (wordsD ws)) (hw : w ∈ ws) : HeldV kvs k (.str w) []
  | row {k c : Str} {xs : List PyData} (hk : look kvs k = some (rowsD c)) (few : xs.length ≤ 9) (hp : xs.all FC.plain = true) : HeldV kvs k (.list xs) (xs.map fun x => (.str c, x))
  | maker {k : Str} {ms : List (Str × List Str)} {m : Str × List Str} {xs : List PyData} (hk : look kvs k = some (makersD ms)) (hm : m ∈ ms) (hl : xs.length = m.2.length) (few : xs.length ≤ 9) (hp : xs.all FC.plain = true) : HeldV kvs k (.tuple (.str m.1 :: xs)) ((m.2.map .str).zip xs)
def Rw_values_within : List PyData → PyData → Prop := fun ds o => ∃ kvs k v held, ds = [dictOf kvs, .str k, v] ∧ FormsOk kvs ∧ HeldV kvs k v held ∧ o = listX (held.map pairT)
theorem OkVal.cost {kvs : List (Str × PyData)} (fk : FormsOk kvs) {n : Nat} {k : Str} {v : PyData} (h : OkVal kvs n k v) : Cost (fun k t o => Rw_values_within [dictOf kvs, k, t] o) (costN n) (.str k) v := by
  have mul : ∀ {n l : Nat}, l ≤ 9 → l * costN n + 1 ≤ costN (n + 1) := fun {n l} h => by
    have := Nat.mul_le_mul_right (costN n) h
    show _ ≤ 9 * costN n + 1
    omega
  induction h with
  | @num n k lo hi i hk h1 h2 => exact .mk (c0 := 0) (held := []) ⟨kvs, k, _, _, rfl, fk, .num hk h1 h2, rfl⟩ (fun _ h => nomatch h) (by have := costN_pos n; simpa using this)
  | @word n k ws w hk hw => exact .mk (c0 := 0) (held := []) ⟨kvs, k, _, _, rfl, fk, .word hk hw, rfl⟩ (fun _ h => nomatch h) (by have := costN_pos n; simpa using this)
  | @row n k c xs hk few h ih =>
    refine .mk (c0 := costN n) ⟨kvs, k, _, _, rfl, fk, .row hk few (List.all_eq_true.mpr fun p hp => (h p hp).plain), rfl⟩ (fun q hq => ?_) (mul (by simpa using few))
    obtain ⟨p, hp, rfl⟩ := List.mem_map.mp hq
    exact ih p hp
  | @maker n k ms m xs hk hm hl few h ih =>
    refine .mk (c0 := costN n) ⟨kvs, k, _, _, rfl, fk, .maker hk hm hl few (List.all_eq_true.mpr fun p hp => ?_), rfl⟩ (fun q hq => ?_) (mul (by simp; omega))
    · obtain ⟨x, hx⟩ := zip_right hl hp
      exact (h _ hx).plain
    · obtain ⟨w, p, hz, rfl⟩ := zip_map_left hq
      exact ih _ hz
theorem costN_le {n m : Nat} (h : n ≤ m) : costN n ≤ costN m := by
  induction h with
  | refl => exact Nat.le_refl _
  | step _ ih => exact Nat.le_trans ih (costN_mono _)
def Rw_parts_within : List PyData → PyData → Prop := fun ds o => ∃ (ms : List (Str × List Str)) (m : Str × List Str) (xs : List PyData), ds = [.list (ms.map makerD), .tuple (.str m.1 :: xs)] ∧ m ∈ ms ∧ (∀ m ∈ ms, isNameS m.1 = true) ∧ (ms.map (·.1)).Nodup ∧ ms.length ≤ 100 ∧ xs.length = m.2.length ∧ xs.length ≤ 9 ∧ xs.all FC.plain = true ∧ o = listX (((m.2.map .str).zip xs).map pairT)
section
variable {P : Program} {w : World} {K : PySem.W.Frag} {mg : Str → Option Value} {base : Heap} {f : Addr} {fd : FuncData} {G : List (Option PyData)}
theorem sc_parts_within : FnScope ["makers", "thing", "parts"] ["makers", "thing"] (defScope s_parts_within) := ⟨rfl, rfl, rfl, by decide +kernel, rfl, by decide +kernel, by decide +kernel⟩
theorem ok_parts_within (F : Fun K "parts_within" "parts_within" s_parts_within f fd) (M : Bl mg) (cp : CL P w K mg base 1 "parts_of" Rw_parts_of) : FnOk P w K mg base CX0 2 f fd ["makers", "thing"] (spR K Rw_parts_within) := by
  refine F.ok sc_parts_within (spR_len (by rintro _ _ ⟨_, _, _, rfl, _⟩; rfl)) (fun cdv A outer s H vs Q E hr h => ?_)
  obtain ⟨B, ds, o, x, r, ⟨ms, m, xs, rfl, hm, hnm, hnd, few, hl, hl9, hp, rfl⟩, q⟩ := h
  have hu64 : (A.deeper (envOfC "parts_within" (defScope s_parts_within) s.heap.objs.size f cdv)).units + 64 < cLine := by have := hr.un; omega
  have nd := sc_parts_within.nd
  refine ⟨_, pss_cons (ps_if (pw_or (pt_not (pt_val (k_isi (pv 1) (by rfl) M.isi (by rfl) M.tuple PyProof.Rows.boot_tuple (by decide) (by decide)))) (pw_or1 (pt_not (pt_truth (pv 1) (by intro _; rfl))))).pt pss_never pss_nil)
    (pss_cons (ps_set (i := 2) nd rfl (Or.inl rfl) (pe_cl cp hr (by decide) (by rfl) (pa_cons (pv 0) (pa_cons (pe_ix ix_tup (pv 1) pe_int (fun _ _ => rfl)) pa_nil))))
    (pss_cons (ps_if (pw_or (pt_cmp (pc_isN (pv 2))) (pw_or1 (pt_cmpR (op_neD hu64) (pe_callB call_lenR (by rfl) M.len PySem.boot_len (pa_cons (pv 1) pa_nil)) (pe_op op_add (pe_callB call_lenR (by rfl) M.len PySem.boot_len (pa_cons (pv 2) pa_nil)) pe_int) (nomark _)))).pt pss_never pss_nil)
    (pss_one (ps_ret (pe_listZip false true (by rfl) M.list (by rfl) M.zip (pa_cons (pv 2) (pa_cons (pe_slice sl_tup (pv 1) (po_some pe_int) po_none) pa_nil))))))), ?_⟩
  refine fin_rt ?_ x r q
  show DS K _ [some (.list (ms.map makerD)), some (.tuple (.str m.1 :: xs)), none] _
  have hv : ∀ {x2}, DE K (tVar 1) [some (.list (ms.map makerD)), some (.tuple (.str m.1 :: xs)), x2] (.tuple (.str m.1 :: xs)) := de_var rfl
  refine ds_guard (b := false) (dt_is (dt_or (dt_not (dt_B (de_ty hv rfl ktt))) fun _ => dt_not (dt_tup hv)) rfl) (fun z => nomatch z) fun _ => ?_
  refine ds_seq (ds_set (de_call' (da_cons (de_var rfl) (da_cons (de_at (j := 0) hv rfl rfl) da_nil)) ⟨ms, m, rfl, hm, hnm, hnd, few, rfl⟩)) ?_
  show DS K _ [some (.list (ms.map makerD)), some (.tuple (.str m.1 :: xs)), some (strL m.2)] _
  refine ds_guard (b := false) (dt_is (dt_or (dt_B (de_isN (de_var rfl))) fun _ => dt_test (de_op (de_cb (da_cons hv da_nil) cd_lenT) (de_op (de_cb (da_cons (de_var (d := .list (m.2.map .str)) rfl) da_nil) cd_lenL) de_int rd_add) (rd_ne (sh_int _) (sh_int _) rfl rfl))) ?_) (fun z => nomatch z) fun _ => ds_ret ?_
  · show (false || !(((PyData.str m.1 :: xs).length : Int) == ((m.2.map PyData.str).length : Int) + 1)) = false
    rw [List.length_map, List.length_cons, hl]
    simp
  · exact de_listZip (t := false) (u := true) (da_cons (de_var (d := .list (m.2.map .str)) rfl) (da_cons (de_tail hv) da_nil)) (by rw [List.length_map, hl]) (by rw [List.length_map]; omega)
theorem sc_values_within : FnScope ["kinds", "kind", "thing", "form", "cell"] ["kinds", "kind", "thing"] (defScope s_values_within) := ⟨rfl, rfl, rfl, by decide +kernel, rfl, by decide +kernel, by decide +kernel⟩
theorem ok_values_within (F : Fun K "values_within" "values_within" s_values_within f fd) (M : Bl mg) (cw : CL P w K mg base 1 "is_whole" Rw_is_whole) (cp : CL P w K mg base 2 "parts_within" Rw_parts_within) : FnOk P w K mg base CX0 4 f fd ["kinds", "kind", "thing"] (spR K Rw_values_within) := by
  refine F.ok sc_values_within (spR_len (by rintro _ _ ⟨_, _, _, _, rfl, _⟩; rfl)) (fun cdv A outer s H vs Q E hr h => ?_)
  obtain ⟨B, ds, o, x, r, ⟨kvs, k, v, held, rfl, fk, hv, rfl⟩, q⟩ := h
  have hu := hu_of hr
  have hu64 : (A.deeper (envOfC "values_within" (defScope s_values_within) s.heap.objs.size f cdv)).units + 64 < cLine := by have := hr.un; omega
  have nd := sc_values_within.nd
  refine ⟨_, pss_cons (ps_set (i := 3) nd rfl (Or.inr rfl) (pe_dget hu (pv 0) (pv 1) (fun _ _ => rfl)))
    (pss_cons (ps_if (pt_cmpR (op_eqD hu64) (pe_ix ix_tup (pv 3) pe_int (fun _ _ => rfl)) pe_str (nomark _)) (pss_one (ps_ret (pe_ifExp (pw_and (pt_val (pe_cl cw hr (by decide) (by rfl) (pa_cons (pv 2) pa_nil))) (pw_and1 (pt_chain op_le op_le (pe_ix ix_tup (pv 3) pe_int (fun _ _ => rfl)) (pv 2) (pe_ix ix_tup (pv 3) pe_int (fun _ _ => rfl))))).pt (pe_lst pa_nil) pe_dead))) pss_nil)
    (pss_cons (ps_if (pt_cmpR (op_eqD hu64) (pe_ix ix_tup (pv 3) pe_int (fun _ _ => rfl)) pe_str (nomark _)) (pss_one (ps_ret (pe_ifExp (pt_cmpR op_in_seq (pv 2) (pe_ix ix_tup (pv 3) pe_int (fun _ _ => rfl)) (by rfl)) (pe_lst pa_nil) pe_dead))) pss_nil)
    (pss_cons (ps_if (pt_cmpR (op_eqD hu64) (pe_ix ix_tup (pv 3) pe_int (fun _ _ => rfl)) pe_str (nomark _)) (pss_one (ps_ret (pe_cl cp hr (by decide) (by rfl) (pa_cons (pe_ix ix_tup (pv 3) pe_int (fun _ _ => rfl)) (pa_cons (pv 2) pa_nil))))) pss_nil)
    (pss_one (ps_ret (pe_ifExp (pt_val (k_isi (pv 2) (by rfl) M.isi (by rfl) M.list PyProof.Rows.boot_list (by decide) (by decide)))
      (pe_lc (own := [("cell", 4)]) (g := gName 4) (tt := tYes) rfl nd (pi_list (pv 2)) (blkOk_by (N := ["kinds", "kind", "thing", "form", "cell"]) (sc := defScope s_values_within) (by decide +kernel)) (fun _ _ _ _ _ => pg_name (i := 4) nd rfl (Or.inl rfl)) (fun _ _ _ _ _ => pts_nil)
        (fun _ _ _ _ _ => pe_tup (pa_cons (pe_ix (r := rIxT K) ix_tup (pv 3) pe_int (fun _ _ => rfl)) (pa_cons (pv 4) pa_nil)))) pe_dead)))))), ?_⟩
  refine fin_rt ?_ x r q
  show DS K _ [some (dictOf kvs), some (.str k), some v, none, none] _
  have h2 : ∀ {t : PyData} {x3 x4}, DE K (tVar 2) [some (dictOf kvs), some (.str k), some t, x3, x4] t := de_var rfl
  have h3 : ∀ {t fo : PyData} {x4}, DE K (tVar 3) [some (dictOf kvs), some (.str k), some t, some fo, x4] fo := de_var rfl
  cases hv with
  | @num lo hi i hk h4 h5 =>
    refine ds_seq (ds_set (de_dget (de_var rfl) (de_var rfl) hk)) ?_
    show DS K _ [some (dictOf kvs), some (.str k), some (.int i), some (.tuple [.str "numbers", .int lo, .int hi]), none] _
    refine ds_guard (b := true) (dt_is (dt_head h3) (by decide +kernel)) (fun _ => ds_ret ?_) (fun z => nomatch z)
    refine de_if (b := true) (dt_is (dt_and (dt_B (de_call' (da_cons h2 da_nil) ⟨.int i, rfl, rfl⟩)) fun _ => dt_test (de_chain (de_at (j := 1) h3 rfl rfl) h2 (fun _ => de_at (j := 2) h3 rfl rfl) rd_le fun _ => rd_le)) ?_) (fun _ => de_lstX da_nil rfl (by decide)) (fun z => nomatch z)
    rw [decide_eq_true h4, decide_eq_true h5]
    rfl
  | @word ws wd hk hw =>
    refine ds_seq (ds_set (de_dget (de_var rfl) (de_var rfl) hk)) ?_
    show DS K _ [some (dictOf kvs), some (.str k), some (.str wd), some (.tuple [.str "words", strL ws]), none] _
    refine ds_guard (b := false) (dt_is (dt_head h3) (by decide +kernel)) (fun z => nomatch z) fun _ => ?_
    refine ds_guard (b := true) (dt_is (dt_head h3) (by decide +kernel)) (fun _ => ds_ret ?_) (fun z => nomatch z)
    exact de_if (b := true) (dt_is (dt_test (de_op h2 (de_at (j := 1) h3 rfl rfl) rd_inS)) (List.contains_iff_mem.mpr hw)) (fun _ => de_lstX da_nil rfl (by decide)) (fun z => nomatch z)
  | @row c xs hk few hp =>
    refine ds_seq (ds_set (de_dget (de_var rfl) (de_var rfl) hk)) ?_
    show DS K _ [some (dictOf kvs), some (.str k), some (.list xs), some (.tuple [.str "rows", .str c]), none] _
    refine ds_guard (b := false) (dt_is (dt_head h3) (by decide +kernel)) (fun z => nomatch z) fun _ => ?_
    refine ds_guard (b := false) (dt_is (dt_head h3) (by decide +kernel)) (fun z => nomatch z) fun _ => ?_
    refine ds_guard (b := false) (dt_is (dt_head h3) (by decide +kernel)) (fun z => nomatch z) fun _ => ds_ret ?_
    refine de_if (b := true) (dt_B (de_ty h2 rfl kll)) (fun _ => ?_) (fun z => nomatch z)
    exact lc_pairs h2 hp few (fun d => de_at (j := 1) (de_var (d := .tuple [.str "rows", .str c]) rfl) rfl rfl) (by show 4 < 5; decide)
  | @maker ms m xs hk hm hl few hp =>
    refine ds_seq (ds_set (de_dget (de_var rfl) (de_var rfl) hk)) ?_
    show DS K _ [some (dictOf kvs), some (.str k), some (.tuple (.str m.1 :: xs)), some (.tuple [.str "makers", .list (ms.map makerD)]), none] _
    refine ds_guard (b := false) (dt_is (dt_head h3) (by decide +kernel)) (fun z => nomatch z) fun _ => ?_
    refine ds_guard (b := false) (dt_is (dt_head h3) (by decide +kernel)) (fun z => nomatch z) fun _ => ?_
    refine ds_guard (b := true) (dt_is (dt_head h3) (by decide +kernel)) (fun _ => ds_ret ?_) (fun z => nomatch z)
    have hmm := makersOk (fk k _ hk)
    exact de_call' (da_cons (de_at (j := 1) h3 rfl rfl) (da_cons h2 da_nil)) ⟨ms, m, xs, rfl, hm, fun m h => (hmm.1 m h).nm, hmm.2.1, hmm.2.2, hl, few, hp, rfl⟩
end
end FP
namespace FG
open PySem PySem.Spec PyProof.Rows L2 FC
open Evl (Ex)
theorem walk_m2 {K : PySem.W.Frag} {t u : Bool} {a b : Addr} {xs ys : List V} {n : Nat} (h1 : n ≤ xs.length) (h2 : n ≤ ys.length) (h3 : n = xs.length ∨ n = ys.length) : Walk (Itm K t u a b) n (fun H => Sq K t H a xs ∧ Sq K u H b ys) (YPair (fun i => xs[i]?) (fun i => ys[i]?)) := by
  refine ⟨fun i H hi q => ⟨xs, ys, xs[i]'(by omega), ys[i]'(by omega), q.1, q.2, List.getElem?_eq_getElem (by omega), List.getElem?_eq_getElem (by omega)⟩, fun H q => ⟨xs, ys, q.1, q.2, h1, h2, h3⟩, fun i H v H' hi q y => ?_⟩
  obtain ⟨T, x, y', e, n, e', k1, k2⟩ := y
  exact ⟨T, x, y', e, n, e', k1 xs q.1, k2 ys q.2⟩
theorem di_zip2 {K : PySem.W.Frag} {G : List (Option PyData)} {t u : Bool} {ta : TA} {j k n : Nat} {ds es : List PyData} (h : DA K ta G [seqD t ds, seqD u es]) (h1 : n ≤ ds.length) (h2 : n ≤ es.length) (h3 : n = ds.length ∨ n = es.length) :
    DI K (iZipM K t u ta) (gTup K 2 (gCons (gName j) (gCons (gName k) gNil))) [j, k] G n (fun i G2 => (G2.set j ds[i]?).set k es[i]?) := fun σ B H x en R q =>
  h σ B H x en _ fun vs B1 H1 g1 r1 => by
    cases r1 with
    | cons r1 rr =>
    cases rr with
    | cons r2 rr =>
    cases rr
    obtain ⟨a, xs, rfl, s1, d1⟩ := rt_seqD r1
    obtain ⟨b, ys, rfl, s2, d2⟩ := rt_seqD r2
    have l1 := dps_len d1
    have l2 := dps_len d2
    refine ⟨a, b, xs, ys, rfl, sq_ex g1.sub s1, sq_ex g1.sub s2, ?_⟩
    refine q (Itm K t u a b) B1 H1 (YPair (fun i => xs[i]?) (fun i => ys[i]?)) g1 ?_ fun i hi B2 H2 σ2 G2 y H3 e1 e2 en2 hy Q kk => ?_
    · exact (walk_m2 (by omega) (by omega) (by omega)).mono (fun H2 e => ⟨sq_ex e s1, sq_ex e s2⟩) fun _ _ _ _ _ _ y => y
    · obtain ⟨T, y1, y2, rfl, hT, rfl, k1, k2⟩ := hy
      have hd1 : ds[i]? = some (ds[i]'(by omega)) := List.getElem?_eq_getElem (by omega)
      have hd2 : es[i]? = some (es[i]'(by omega)) := List.getElem?_eq_getElem (by omega)
      obtain ⟨w1, m1, n1⟩ := dps_get d1 hd1
      obtain ⟨w2, m2, n2⟩ := dps_get d2 hd2
      obtain rfl : y1 = w1 := Option.some.inj (k1.symm.trans m1)
      obtain rfl : y2 = w2 := Option.some.inj (k2.symm.trans m2)
      have gn : Go B2 H2 B2 (upd H2 T (.tup [y1, y2])) := Go.own e2 hT
      refine ⟨T, _, rfl, .inl (.inl upd_same), rfl, _, _, rfl, _, _, rfl, rfl, ?_⟩
      refine kk _ B2 _ gn ?_ fun vs hv => ?_
      · show En K _ _ ((G2.set j ds[i]?).set k es[i]?)
        rw [hd1, hd2]
        exact (en2.set j (.d (dp_ex e1 _ _ n1))).set k (.d (dp_ex e1 _ _ n2))
      · rw [wipe_set (hv k (by simp)), wipe_set (hv j (by simp))]
end FG
namespace FP
open PySem PySem.Spec PyProof.Rows L2 FC FG
open Evl (Ex)
/-! ### what fits -/
def loB : PyData → PyData → Bool
  | .int a, .int i => decide (a ≤ i)
  | _, _ => true
def hiB : PyData → PyData → Bool
  | .int b, .int i => decide (i ≤ b)
  | _, _ => true
def zipAll (g : PyData → PyData → Bool) (ps xs : List PyData) : Bool := (ps.zip xs).all fun q => g q.1 q.2
def gapB (g : PyData → PyData → Bool) (ps qs xs : List PyData) : Bool := !decide ((xs.length : Int) < (ps.length : Int) + (qs.length : Int)) && (zipAll g ps xs && zipAll g qs (xs.drop (xs.length - qs.length)))
def rowB (g : PyData → PyData → Bool) (ps xs : List PyData) : Bool := ((ps.length : Int) == (xs.length : Int)) && zipAll g ps xs
def baseB : PyData → PyData → Bool
  | .tuple [.str _, .str w], .str x => w == x
  | .tuple [.str _, a, b], v => loB a v && hiB b v
  | _, _ => true
def stepB (g : PyData → PyData → Bool) : PyData → PyData → Bool
  | .tuple [.str t, .list ps], v => if (t == "or") = true then ps.any fun p => g p v else match v with
    | .list xs => rowB g ps xs
    | _ => true
  | .tuple [.str _, .str m, .list ps], .tuple (.str mv :: xs) => (m == mv) && zipAll g ps xs
  | .tuple [.str _, .list ps, .list qs], .list xs => gapB g ps qs xs
  | p, v => baseB p v
def fitN : Nat → PyData → PyData → Bool
  | 0 => baseB
  | n + 1 => stepB (fitN n)
theorem fitN_any (n : Nat) (v : PyData) : fitN n .none v = true := by
  cases n <;> rfl
theorem fitN_or (n : Nat) (ps : List PyData) (v : PyData) : fitN (n + 1) (orD ps) v = ps.any fun p => fitN n p v := by
  show (if (("or" : Str) == "or") = true then (ps.any fun p => fitN n p v) else (match v with
    | .list xs => rowB (fitN n) ps xs
    | _ => true)) = _
  rw [if_pos (by decide +kernel)]
theorem fitN_row (n : Nat) (ps xs : List PyData) : fitN (n + 1) (rowD ps) (.list xs) = rowB (fitN n) ps xs := by
  show (if (("row" : Str) == "or") = true then (ps.any fun p => fitN n p (.list xs)) else rowB (fitN n) ps xs) = _
  rw [if_neg (by decide +kernel)]
theorem fitN_gap (n : Nat) (ps qs xs : List PyData) : fitN (n + 1) (gapD ps qs) (.list xs) = gapB (fitN n) ps qs xs := rfl
theorem fitN_maker (n : Nat) (m mv : Str) (ps xs : List PyData) : fitN (n + 1) (mkrD m ps) (.tuple (.str mv :: xs)) = ((m == mv) && zipAll (fitN n) ps xs) := rfl
theorem fitN_word (n : Nat) (w x : Str) : fitN n (wordD w) (.str x) = (w == x) := by
  cases n <;> rfl
theorem fitN_from (n : Nat) {a b : PyData} (ha : bnd a = true) (hb : bnd b = true) (i : Int) : fitN n (fromD a b) (.int i) = (loB a (.int i) && hiB b (.int i)) := by
  cases a <;> cases b <;> first | (cases n <;> rfl) | cases ha | cases hb
def Fit2 (kvs : List (Str × PyData)) (n m : Nat) (p v : PyData) : Prop := ∃ k, OkPat kvs n k p ∧ OkVal kvs m k v
def Rw_pattern_fits (n : Nat) : List PyData → PyData → Prop := fun ds o => ∃ kvs m p v, ds = [p, v] ∧ FormsOk kvs ∧ Fit2 kvs n m p v ∧ o = .bool (fitN n p v)
def Rw_all_fit (n : Nat) : List PyData → PyData → Prop := fun ds o => ∃ (kvs : List (Str × PyData)) (m : Nat) (u : Bool) (ps xs : List PyData), ds = [.list ps, seqD u xs] ∧ FormsOk kvs ∧ (∀ q ∈ ps.zip xs, Fit2 kvs n m q.1 q.2) ∧ ps.length ≤ 9 ∧ o = .bool (zipAll (fitN n) ps xs)
def Rw_gap_fits (n : Nat) : List PyData → PyData → Prop := fun ds o => ∃ (kvs : List (Str × PyData)) (m : Nat) (ps qs xs : List PyData), ds = [.list ps, .list qs, .list xs] ∧ FormsOk kvs ∧ (∀ p ∈ ps ++ qs, ∀ x ∈ xs, Fit2 kvs n m p x) ∧ ps.length + qs.length ≤ 9 ∧ o = .bool (gapB (fitN n) ps qs xs)
section
variable {P : Program} {w : World} {K : PySem.W.Frag} {mg : Str → Option Value} {base : Heap} {f : Addr} {fd : FuncData} {G : List (Option PyData)}
theorem zipAll_range (g : PyData → PyData → Bool) (ps xs : List PyData) : ((List.range (min ps.length xs.length)).map fun i => g (ps.getD i .none) (xs.getD i .none)) = (ps.zip xs).map fun q => g q.1 q.2 := by
  refine List.ext_getElem (by simp [List.length_zip]) fun i h1 h2 => ?_
  have h3 : i < (ps.zip xs).length := by simpa using h2
  rw [List.length_zip] at h3
  have hp : i < ps.length := by omega
  have hx : i < xs.length := by omega
  simp [List.getElem_zip, List.getD_eq_getElem?_getD, List.getElem?_eq_getElem hp, List.getElem?_eq_getElem hx]
theorem sc_all_fit : FnScope ["patterns", "values", "pattern", "value"] ["patterns", "values"] (defScope s_all_fit) := ⟨rfl, rfl, rfl, by decide +kernel, rfl, by decide +kernel, by decide +kernel⟩
theorem ok_all_fit {n k : Nat} (F : Fun K "all_fit" "all_fit" s_all_fit f fd) (M : Bl mg) (cp : CL P w K mg base k "pattern_fits" (Rw_pattern_fits n)) : FnOk P w K mg base CX0 (k + 1) f fd ["patterns", "values"] (spR K (Rw_all_fit n)) := by
  refine F.ok sc_all_fit (spR_len (by rintro _ _ ⟨_, _, _, _, _, rfl, _⟩; rfl)) (fun cdv A outer s H vs Q E hr h => ?_)
  obtain ⟨B, ds, o, x, r, ⟨kvs, m, u, ps, xs, rfl, fk, hq, hl, rfl⟩, q⟩ := h
  have nd := sc_all_fit.nd
  refine ⟨_, pss_one (ps_ret (pe_callB (cr_all rfl) (by rfl) M.all PyProof.Rows.boot_all (pa_cons (pe_lc (own := [("pattern", 2), ("value", 3)]) (g := gTup K 2 (gCons (gName 2) (gCons (gName 3) gNil))) (tt := tYes) rfl nd (pi_zipM false u (by rfl) M.zip (pa_cons (pv 0) (pa_cons (pv 1) pa_nil))) (blkOk_by (N := ["patterns", "values", "pattern", "value"]) (sc := defScope s_all_fit) (by decide +kernel)) (fun _ _ _ _ _ => pg_tup rfl (pgs_cons (pg_name (i := 2) nd rfl (Or.inl rfl)) (pgs_cons (pg_name (i := 3) nd rfl (Or.inl rfl)) pgs_nil))) (fun _ _ _ _ _ => pts_nil)
      (fun _ _ _ _ _ => pe_cl cp hr (Nat.le_refl _) (by rfl) (pa_cons (pv 2) (pa_cons (pv 3) pa_nil)))) pa_nil))), ?_⟩
  refine fin_rt ?_ x r q
  show DS K _ [some (.list ps), some (seqD u xs), none, none] _
  refine ds_ret (de_is (de_cb (da_cons (de_is (de_lc (fun _ => true) (fun i => .bool (fitN n (ps.getD i .none) (xs.getD i .none))) (di_zip2 (n := min ps.length xs.length) (ds := ps) (da_cons (de_var rfl) (da_cons (de_var rfl) da_nil)) (Nat.min_le_left _ _) (Nat.min_le_right _ _) (by omega)) (by decide) (fun _ _ => dt_yes) (fun i hi _ => ?_) (fun _ _ _ => rfl) (by omega)) (congrArg PyData.list (madeG_bools (fun i => fitN n (ps.getD i .none) (xs.getD i .none)) _))) da_nil) cd_all) ?_)
  · have hp : i < ps.length := by omega
    have hx : i < xs.length := by omega
    show DE K _ [some (.list ps), some (seqD u xs), ps[i]?, xs[i]?] _
    rw [getD_at hp, getD_at hx, List.getElem?_eq_getElem hp, List.getElem?_eq_getElem hx]
    refine de_call' (da_cons (de_var rfl) (da_cons (de_var rfl) da_nil)) ⟨kvs, m, ps[i], xs[i], rfl, fk, hq (ps[i], xs[i]) ?_, rfl⟩
    have hz : i < (ps.zip xs).length := by rw [List.length_zip]; omega
    have : (ps.zip xs)[i] = (ps[i], xs[i]) := List.getElem_zip
    rw [← this]
    exact List.getElem_mem hz
  · rw [zipAll_range, List.all_map]
    rfl
theorem sc_gap_fits : FnScope ["ahead", "behind", "row"] ["ahead", "behind", "row"] (defScope s_gap_fits) := ⟨rfl, rfl, rfl, by decide +kernel, rfl, by decide +kernel, by decide +kernel⟩
theorem ok_gap_fits {n k : Nat} (F : Fun K "gap_fits" "gap_fits" s_gap_fits f fd) (M : Bl mg) (ca : CL P w K mg base k "all_fit" (Rw_all_fit n)) : FnOk P w K mg base CX0 (k + 1) f fd ["ahead", "behind", "row"] (spR K (Rw_gap_fits n)) := by
  refine F.ok sc_gap_fits (spR_len (by rintro _ _ ⟨_, _, _, _, _, rfl, _⟩; rfl)) (fun cdv A outer s H vs Q E hr h => ?_)
  obtain ⟨B, ds, o, x, r, ⟨kvs, m, ps, qs, xs, rfl, fk, hq, hl, rfl⟩, q⟩ := h
  refine ⟨_, pss_cons (ps_if (pt_cmpR op_lt (pe_callB call_lenR (by rfl) M.len PySem.boot_len (pa_cons (pv 2) pa_nil)) (pe_op op_add (pe_callB call_lenR (by rfl) M.len PySem.boot_len (pa_cons (pv 0) pa_nil)) (pe_callB call_lenR (by rfl) M.len PySem.boot_len (pa_cons (pv 1) pa_nil))) (nomark _)) (pss_one (ps_ret pe_bl)) pss_nil)
    (pss_one (ps_ret (pe_and (pe_cl ca hr (Nat.le_refl _) (by rfl) (pa_cons (pv 0) (pa_cons (pv 2) pa_nil))) (pe_one (pe_cl ca hr (Nat.le_refl _) (by rfl) (pa_cons (pv 1) (pa_cons (pe_slice sl_list (pv 2) (po_some (pe_op op_sub (pe_callB call_lenR (by rfl) M.len PySem.boot_len (pa_cons (pv 2) pa_nil)) (pe_callB call_lenR (by rfl) M.len PySem.boot_len (pa_cons (pv 1) pa_nil)))) po_none) pa_nil))))))), ?_⟩
  refine fin_rt ?_ x r q
  show DS K _ [some (.list ps), some (.list qs), some (.list xs)] _
  have h0 : DE K (tVar 0) [some (.list ps), some (.list qs), some (.list xs)] (.list ps) := de_var rfl
  have h1 : DE K (tVar 1) [some (.list ps), some (.list qs), some (.list xs)] (.list qs) := de_var rfl
  have h2 : DE K (tVar 2) [some (.list ps), some (.list qs), some (.list xs)] (.list xs) := de_var rfl
  unfold gapB
  refine ds_guard (b := decide ((xs.length : Int) < (ps.length : Int) + (qs.length : Int))) (dt_test (de_op (de_cb (da_cons h2 da_nil) cd_lenL) (de_op (de_cb (da_cons h0 da_nil) cd_lenL) (de_cb (da_cons h1 da_nil) cd_lenL) rd_add) rd_lt)) (fun z => ds_ret (de_is de_bl (by rw [z]; rfl))) fun z => ds_ret ?_
  rw [z]
  have hle : ¬ ((xs.length : Int) < (ps.length : Int) + (qs.length : Int)) := of_decide_eq_false z
  refine de_is (de_and (de_call' (da_cons h0 (da_cons h2 da_nil)) ⟨kvs, m, false, ps, xs, rfl, fk, fun q hz => ?_, by omega, rfl⟩) fun _ => de_call' (da_cons h1 (da_cons (de_ofX (de_from (n := xs.length - qs.length) h2 (de_op (de_cb (da_cons h2 da_nil) cd_lenL) (de_cb (da_cons h1 da_nil) cd_lenL) rd_sub) (by omega) (by omega))) da_nil)) ⟨kvs, m, false, qs, xs.drop (xs.length - qs.length), rfl, fk, fun q hz => ?_, by omega, rfl⟩) rfl
  · exact hq _ (List.mem_append_left _ (List.of_mem_zip hz).1) _ (List.of_mem_zip hz).2
  · exact hq _ (List.mem_append_right _ (List.of_mem_zip hz).1) _ (List.mem_of_mem_drop (List.of_mem_zip hz).2)
end
end FP
namespace FP
open PySem PySem.Spec PyProof.Rows L2 FC FG
open Evl (Ex)
theorem zip3 {α β γ : Type} : ∀ {ks : List α} {ps : List β} {xs : List γ} {p : β} {x : γ}, ps.length = ks.length → xs.length = ks.length → (p, x) ∈ ps.zip xs → ∃ k, (k, p) ∈ ks.zip ps ∧ (k, x) ∈ ks.zip xs
  | [], p :: ps, _, _, _, h, _, _ => by cases h
  | [], [], _, _, _, _, _, h => by cases h
  | k :: ks, [], _, _, _, h, _, _ => by cases h
  | k :: ks, _ :: _, [], _, _, _, h, _ => by cases h
  | k :: ks, p2 :: ps, x2 :: xs, p, x, h1, h2, h => by
    rw [List.zip_cons_cons] at h
    rcases List.mem_cons.mp h with h | h
    · cases h
      exact ⟨k, by simp, by simp⟩
    · obtain ⟨k', h3, h4⟩ := zip3 (ks := ks) (by simpa using h1) (by simpa using h2) h
      exact ⟨k', List.mem_cons_of_mem _ h3, List.mem_cons_of_mem _ h4⟩
theorem names_inj {ms : List (Str × List Str)} (nd : (ms.map (·.1)).Nodup) {a b : Str × List Str} (ha : a ∈ ms) (hb : b ∈ ms) (e : a.1 = b.1) : a = b := by
  obtain ⟨i, hi, rfl⟩ := List.getElem_of_mem ha
  obtain ⟨j, hj, rfl⟩ := List.getElem_of_mem hb
  have h2 : (ms.map (·.1))[i]'(by rw [List.length_map]; exact hi) = (ms.map (·.1))[j]'(by rw [List.length_map]; exact hj) := by
    rw [List.getElem_map, List.getElem_map, e]
  have := (List.getElem_inj nd).mp h2
  subst this
  rfl
theorem wordsOk {kvs : List (Str × PyData)} {ws : List Str} (h : OkForm kvs (wordsD ws)) : ∀ w ∈ ws, isNameS w = true := by
  generalize hd : wordsD ws = dd at h
  cases h with
  | nums h => cases hd
  | rows h => unfold wordsD rowsD at hd; cases (PyData.str.inj (List.cons.inj (PyData.tuple.inj hd)).1)
  | makers ne ok nd few => unfold makersD wordsD at hd; cases (PyData.str.inj (List.cons.inj (PyData.tuple.inj hd)).1)
  | @words ws2 ne nm nd few =>
    have e := PyData.list.inj (List.cons.inj (List.cons.inj (PyData.tuple.inj hd)).2).1
    have e := (List.map_inj_right (fun _ _ z => PyData.str.inj z)).mp e
    rw [e]
    exact nm
theorem nums_rows {lo hi : Int} {c : Str} (h : numsD lo hi = rowsD c) : False := by unfold numsD rowsD at h; cases h
theorem nums_words {lo hi : Int} {c : List Str} (h : numsD lo hi = wordsD c) : False := by unfold numsD wordsD at h; cases h
theorem nums_makers {lo hi : Int} {c : List (Str × List Str)} (h : numsD lo hi = makersD c) : False := by unfold numsD makersD at h; cases h
theorem rows_words {c : Str} {ws : List Str} (h : rowsD c = wordsD ws) : False := by unfold rowsD wordsD at h; cases h
theorem rows_makers {c : Str} {ws : List (Str × List Str)} (h : rowsD c = makersD ws) : False := by unfold rowsD makersD at h; cases h
theorem words_makers {c : List Str} {ws : List (Str × List Str)} (h : wordsD c = makersD ws) : False := by unfold wordsD makersD at h; cases (PyData.str.inj (List.cons.inj (PyData.tuple.inj h)).1)
theorem makers_inj {a b : List (Str × List Str)} (h : makersD a = makersD b) : a = b := by
  have e := PyData.list.inj (List.cons.inj (List.cons.inj (PyData.tuple.inj h)).2).1
  refine (List.map_inj_right fun x y z => ?_).mp e
  have h3 := List.cons.inj (PyData.tuple.inj z)
  have h4 := PyData.str.inj h3.1
  have h5 := PyData.list.inj (List.cons.inj h3.2).1
  exact Prod.ext h4 ((List.map_inj_right (fun _ _ z => PyData.str.inj z)).mp h5)
theorem words_inj {a b : List Str} (h : wordsD a = wordsD b) : a = b := by
  have e := PyData.list.inj (List.cons.inj (List.cons.inj (PyData.tuple.inj h)).2).1
  exact (List.map_inj_right (fun _ _ z => PyData.str.inj z)).mp e
theorem rows_inj {a b : Str} (h : rowsD a = rowsD b) : a = b := PyData.str.inj (List.cons.inj (List.cons.inj (PyData.tuple.inj h)).2).1
/-- a pattern and a value of its kind, as they meet -/
inductive Meet (kvs : List (Str × PyData)) : Nat → PyData → PyData → Prop where
  | any (n : Nat) (v : PyData) : Meet kvs n .none v
  | or {n : Nat} {ps : List PyData} {v : PyData} (few : ps.length ≤ 9) (m : Nat) (h : ∀ p ∈ ps, Fit2 kvs n m p v) : Meet kvs (n + 1) (orD ps) v
  | range {n : Nat} {a b : PyData} {i : Int} (ha : bnd a = true) (hb : bnd b = true) : Meet kvs n (fromD a b) (.int i)
  | word {n : Nat} {w x : Str} (hw : isNameS w = true) (hx : isNameS x = true) : Meet kvs n (wordD w) (.str x)
  | maker {n : Nat} {a b : Str} {ps xs : List PyData} (ha : isNameS a = true) (hb : isNameS b = true) (few : ps.length ≤ 9) (m : Nat) (h : a = b → xs.length = ps.length ∧ ∀ q ∈ ps.zip xs, Fit2 kvs n m q.1 q.2) : Meet kvs (n + 1) (mkrD a ps) (.tuple (.str b :: xs))
  | row {n : Nat} {ps xs : List PyData} (few : ps.length ≤ 9) (m : Nat) (h : ∀ p ∈ ps, ∀ x ∈ xs, Fit2 kvs n m p x) : Meet kvs (n + 1) (rowD ps) (.list xs)
  | gap {n : Nat} {ps qs xs : List PyData} (few : ps.length + qs.length ≤ 9) (m : Nat) (h : ∀ p ∈ ps ++ qs, ∀ x ∈ xs, Fit2 kvs n m p x) : Meet kvs (n + 1) (gapD ps qs) (.list xs)
theorem meet_of {kvs : List (Str × PyData)} (fk : FormsOk kvs) {n m : Nat} {p v : PyData} (h : Fit2 kvs n m p v) : Meet kvs n p v := by
  obtain ⟨k, hp, hv⟩ := h
  cases hp with
  | any => exact .any n v
  | or ne few h => exact .or few m fun p hp => ⟨k, h p hp, hv⟩
  | range hk ha hb =>
    cases hv with
    | num hk2 h1 h2 => exact .range ha hb
    | word hk2 hw => exact (nums_words (Option.some.inj (hk.symm.trans hk2))).elim
    | row hk2 few h => exact (nums_rows (Option.some.inj (hk.symm.trans hk2))).elim
    | maker hk2 hm hl few h => exact (nums_makers (Option.some.inj (hk.symm.trans hk2))).elim
  | word hk hw =>
    cases hv with
    | num hk2 h1 h2 => exact (nums_words (Option.some.inj (hk2.symm.trans hk))).elim
    | word hk2 hw2 =>
      have e := words_inj (Option.some.inj (hk.symm.trans hk2))
      subst e
      exact .word (wordsOk (fk _ _ hk) _ hw) (wordsOk (fk _ _ hk) _ hw2)
    | row hk2 few h => exact (rows_words (Option.some.inj (hk2.symm.trans hk))).elim
    | maker hk2 hm hl few h => exact (words_makers (Option.some.inj (hk.symm.trans hk2))).elim
  | maker hk hm hl few h =>
    cases hv with
    | num hk2 h1 h2 => exact (nums_makers (Option.some.inj (hk2.symm.trans hk))).elim
    | word hk2 hw2 => exact (words_makers (Option.some.inj (hk2.symm.trans hk))).elim
    | row hk2 few h => exact (rows_makers (Option.some.inj (hk2.symm.trans hk))).elim
    | @maker m _ ms2 mk2 xs hk2 hm2 hl2 few2 h2 =>
      have e := makers_inj (Option.some.inj (hk.symm.trans hk2))
      subst e
      have ok := makersOk (fk _ _ hk)
      refine .maker (ok.1 _ hm).nm (ok.1 _ hm2).nm few m fun e => ?_
      have e2 := names_inj ok.2.1 hm hm2 e
      subst e2
      refine ⟨hl2.trans hl.symm, fun q hq => ?_⟩
      obtain ⟨k', h3, h4⟩ := zip3 (ks := _) hl hl2 hq
      exact ⟨k', h _ h3, h2 _ h4⟩
  | row hk few h =>
    cases hv with
    | num hk2 h1 h2 => exact (nums_rows (Option.some.inj (hk2.symm.trans hk))).elim
    | word hk2 hw2 => exact (rows_words (Option.some.inj (hk.symm.trans hk2))).elim
    | @row m _ c2 xs hk2 few2 h2 =>
      have e := rows_inj (Option.some.inj (hk.symm.trans hk2))
      subst e
      exact .row few m fun p hp x hx => ⟨_, h p hp, h2 x hx⟩
    | maker hk2 hm hl few h => exact (rows_makers (Option.some.inj (hk.symm.trans hk2))).elim
  | gap hk few h =>
    cases hv with
    | num hk2 h1 h2 => exact (nums_rows (Option.some.inj (hk2.symm.trans hk))).elim
    | word hk2 hw2 => exact (rows_words (Option.some.inj (hk.symm.trans hk2))).elim
    | @row m _ c2 xs hk2 few2 h2 =>
      have e := rows_inj (Option.some.inj (hk.symm.trans hk2))
      subst e
      exact .gap few m fun p hp x hx => ⟨_, h p hp, h2 x hx⟩
    | maker hk2 hm hl few h => exact (rows_makers (Option.some.inj (hk.symm.trans hk2))).elim
section
variable {P : Program} {w : World} {K : PySem.W.Frag} {mg : Str → Option Value} {base : Heap} {f : Addr} {fd : FuncData} {G : List (Option PyData)}
theorem de_bounds {a b : PyData} {i : Int} (ha : bnd a = true) (hb : bnd b = true) {t0 t1 : TE} (h0 : DE K t0 G (fromD a b)) (h1 : DE K t1 G (.int i)) :
    DE K (tAndV (tOrV (tIsN (tOp (rIxT K) t0 (tC (.int 1)))) (tOp (rI0 fun i j => .bl (decide (i ≤ j))) (tOp (rIxT K) t0 (tC (.int 1))) t1)) (tOrV (tIsN (tOp (rIxT K) t0 (tC (.int 2)))) (tOp (rI0 fun i j => .bl (decide (i ≤ j))) t1 (tOp (rIxT K) t0 (tC (.int 2)))))) G (.bool (loB a (.int i) && hiB b (.int i))) := by
  have h0 : DE K t0 G (.tuple [.str "from", a, b]) := h0
  have h1' : DE K (tOrV (tIsN (tOp (rIxT K) t0 (tC (.int 1)))) (tOp (rI0 fun i j => .bl (decide (i ≤ j))) (tOp (rIxT K) t0 (tC (.int 1))) t1)) G (.bool (loB a (.int i))) := by
    cases a with
    | none => exact de_is (de_or (c := true) (de_isN (de_at (j := 1) h0 rfl rfl)) (fun z => nomatch z)) rfl
    | int a => exact de_is (de_or (de_isN (de_at (j := 1) h0 rfl rfl)) fun _ => de_op (de_at (j := 1) h0 rfl rfl) h1 rd_le) rfl
    | _ => cases ha
  have h2' : DE K (tOrV (tIsN (tOp (rIxT K) t0 (tC (.int 2)))) (tOp (rI0 fun i j => .bl (decide (i ≤ j))) t1 (tOp (rIxT K) t0 (tC (.int 2))))) G (.bool (hiB b (.int i))) := by
    cases b with
    | none => exact de_is (de_or (c := true) (de_isN (de_at (j := 2) h0 rfl rfl)) (fun z => nomatch z)) rfl
    | int b => exact de_is (de_or (de_isN (de_at (j := 2) h0 rfl rfl)) fun _ => de_op h1 (de_at (j := 2) h0 rfl rfl) rd_le) rfl
    | _ => cases hb
  exact de_and h1' fun _ => h2'
theorem sc_pattern_fits : FnScope ["pattern", "value", "choice"] ["pattern", "value"] (defScope s_pattern_fits) := ⟨rfl, rfl, rfl, by decide +kernel, rfl, by decide +kernel, by decide +kernel⟩
theorem pattern_fits_main {n k : Nat} {R1 R2 R3 : List PyData → PyData → Prop} (F : Fun K "pattern_fits" "pattern_fits" s_pattern_fits f fd) (M : Bl mg) (c1 : CL P w K mg base k "pattern_fits" R1) (c2 : CL P w K mg base k "all_fit" R2) (c3 : CL P w K mg base k "gap_fits" R3)
    (hR : ∀ j, n = j + 1 → R1 = Rw_pattern_fits j ∧ R2 = Rw_all_fit j ∧ R3 = Rw_gap_fits j) : FnOk P w K mg base CX0 (k + 1) f fd ["pattern", "value"] (spR K (Rw_pattern_fits n)) := by
  refine F.ok sc_pattern_fits (spR_len (by rintro _ _ ⟨_, _, _, _, rfl, _⟩; rfl)) (fun cdv A outer s H vs Q E hr h => ?_)
  obtain ⟨B, ds, o, x, r, ⟨kvs, m, p, v, rfl, fk, hf, rfl⟩, q⟩ := h
  have hu64 : (A.deeper (envOfC "pattern_fits" (defScope s_pattern_fits) s.heap.objs.size f cdv)).units + 64 < cLine := by have := hr.un; omega
  have nd := sc_pattern_fits.nd
  refine ⟨_, pss_cons (ps_if (pt_cmp (pc_isN (pv 0))) (pss_one (ps_ret pe_bl)) pss_nil)
    (pss_cons (ps_if (pt_cmpR (op_eqD hu64) (pe_ix ix_tup (pv 0) pe_int (fun _ _ => rfl)) pe_str (nomark _)) (pss_one (ps_ret (pe_callB (cr_any rfl) (by rfl) M.any PyProof.Rows.boot_any (pa_cons (pe_lc (own := [("choice", 2)]) (g := gName 2) (tt := tYes) rfl nd (pi_list (pe_ix ix_tup (pv 0) pe_int (fun _ _ => rfl))) (blkOk_by (N := ["pattern", "value", "choice"]) (sc := defScope s_pattern_fits) (by decide +kernel)) (fun _ _ _ _ _ => pg_name (i := 2) nd rfl (Or.inl rfl)) (fun _ _ _ _ _ => pts_nil)
      (fun _ _ _ _ _ => pe_cl c1 hr (Nat.le_refl _) (by rfl) (pa_cons (pv 2) (pa_cons (pv 1) pa_nil)))) pa_nil)))) pss_nil)
    (pss_cons (ps_if (pt_cmpR (op_eqD hu64) (pe_ix ix_tup (pv 0) pe_int (fun _ _ => rfl)) pe_str (nomark _)) (pss_one (ps_ret (pe_and (pe_or (pe_cmp (pc_isN (pe_ix ix_tup (pv 0) pe_int (fun _ _ => rfl)))) (pe_one (pe_cmpR op_le (pe_ix ix_tup (pv 0) pe_int (fun _ _ => rfl)) (pv 1) (nomark _))))
      (pe_one (pe_or (pe_cmp (pc_isN (pe_ix ix_tup (pv 0) pe_int (fun _ _ => rfl)))) (pe_one (pe_cmpR op_le (pv 1) (pe_ix ix_tup (pv 0) pe_int (fun _ _ => rfl)) (nomark _)))))))) pss_nil)
    (pss_cons (ps_if (pt_cmpR (op_eqD hu64) (pe_ix ix_tup (pv 0) pe_int (fun _ _ => rfl)) pe_str (nomark _)) (pss_one (ps_ret (pe_cmpR (op_eqD hu64) (pe_ix ix_tup (pv 0) pe_int (fun _ _ => rfl)) (pv 1) (nomark _)))) pss_nil)
    (pss_cons (ps_if (pt_cmpR (op_eqD hu64) (pe_ix ix_tup (pv 0) pe_int (fun _ _ => rfl)) pe_str (nomark _)) (pss_one (ps_ret (pe_and (pe_cmpR (op_eqD hu64) (pe_ix ix_tup (pv 0) pe_int (fun _ _ => rfl)) (pe_ix ix_tup (pv 1) pe_int (fun _ _ => rfl)) (nomark _)) (pe_one (pe_cl c2 hr (Nat.le_refl _) (by rfl) (pa_cons (pe_ix ix_tup (pv 0) pe_int (fun _ _ => rfl)) (pa_cons (pe_slice sl_tup (pv 1) (po_some pe_int) po_none) pa_nil))))))) pss_nil)
    (pss_cons (ps_if (pt_cmpR (op_eqD hu64) (pe_ix ix_tup (pv 0) pe_int (fun _ _ => rfl)) pe_str (nomark _)) (pss_one (ps_ret (pe_and (pe_cmpR (op_eqD hu64) (pe_callB call_lenR (by rfl) M.len PySem.boot_len (pa_cons (pe_ix ix_tup (pv 0) pe_int (fun _ _ => rfl)) pa_nil)) (pe_callB call_lenR (by rfl) M.len PySem.boot_len (pa_cons (pv 1) pa_nil)) (nomark _)) (pe_one (pe_cl c2 hr (Nat.le_refl _) (by rfl) (pa_cons (pe_ix ix_tup (pv 0) pe_int (fun _ _ => rfl)) (pa_cons (pv 1) pa_nil))))))) pss_nil)
    (pss_one (ps_ret (pe_cl c3 hr (Nat.le_refl _) (by rfl) (pa_cons (pe_ix ix_tup (pv 0) pe_int (fun _ _ => rfl)) (pa_cons (pe_ix ix_tup (pv 0) pe_int (fun _ _ => rfl)) (pa_cons (pv 1) pa_nil))))))))))), ?_⟩
  refine fin_rt ?_ x r q
  show DS K _ [some p, some v, none] _
  have h1 : ∀ {p v : PyData}, DE K (tVar 1) [some p, some v, none] v := de_var rfl
  cases meet_of fk hf with
  | any =>
    rw [fitN_any]
    exact ds_guard (b := true) (dt_is (dt_B (de_isN (de_var rfl))) rfl) (fun _ => ds_ret de_bl) (fun z => nomatch z)
  | @or j ps _ few m h =>
    obtain ⟨rfl, rfl, rfl⟩ := hR j rfl
    have h0 : DE K (tVar 0) [some (orD ps), some v, none] (.tuple [.str "or", .list ps]) := de_var rfl
    rw [fitN_or]
    refine ds_guard (b := false) (dt_is (dt_B (de_isN h0)) rfl) (fun z => nomatch z) fun _ => ?_
    refine ds_guard (b := true) (dt_is (dt_head h0) (by decide +kernel)) (fun _ => ds_ret ?_) (fun z => nomatch z)
    refine de_is (de_cb (da_cons (de_is (de_lc (fun _ => true) (fun i => .bool (fitN j (ps.getD i .none) v)) (di_list (ds := ps) (de_at (j := 1) h0 rfl rfl)) (by decide) (fun _ _ => dt_yes) (fun i hi _ => ?_) (fun _ _ _ => rfl) (by omega)) (congrArg PyData.list (madeG_bools (fun i => fitN j (ps.getD i .none) v) _))) da_nil) cd_any) ?_
    · show DE K _ [some (orD ps), some v, ps[i]?] _
      rw [getD_at hi, List.getElem?_eq_getElem hi]
      exact de_call' (da_cons (de_var rfl) (da_cons (de_var rfl) da_nil)) ⟨kvs, m, ps[i], v, rfl, fk, h _ (List.getElem_mem hi), rfl⟩
    · rw [range_map PyData.none (fun p => fitN j p v), List.any_map]
      rfl
  | @range _ a b i ha hb =>
    have h0 : DE K (tVar 0) [some (fromD a b), some (.int i), none] (.tuple [.str "from", a, b]) := de_var rfl
    rw [fitN_from n ha hb]
    refine ds_guard (b := false) (dt_is (dt_B (de_isN h0)) rfl) (fun z => nomatch z) fun _ => ?_
    refine ds_guard (b := false) (dt_is (dt_head h0) (by decide +kernel)) (fun z => nomatch z) fun _ => ?_
    refine ds_guard (b := true) (dt_is (dt_head h0) (by decide +kernel)) (fun _ => ds_ret ?_) (fun z => nomatch z)
    exact de_bounds ha hb h0 h1
  | @word _ wd xd hw hx =>
    have h0 : DE K (tVar 0) [some (wordD wd), some (.str xd), none] (.tuple [.str "word", .str wd]) := de_var rfl
    rw [fitN_word]
    refine ds_guard (b := false) (dt_is (dt_B (de_isN h0)) rfl) (fun z => nomatch z) fun _ => ?_
    refine ds_guard (b := false) (dt_is (dt_head h0) (by decide +kernel)) (fun z => nomatch z) fun _ => ?_
    refine ds_guard (b := false) (dt_is (dt_head h0) (by decide +kernel)) (fun z => nomatch z) fun _ => ?_
    refine ds_guard (b := true) (dt_is (dt_head h0) (by decide +kernel)) (fun _ => ds_ret ?_) (fun z => nomatch z)
    exact de_op (de_at (j := 1) h0 rfl rfl) h1 (rd_eq (sh_str hw) (sh_str hx) rfl rfl)
  | @maker j a b ps xs ha hb few m h =>
    obtain ⟨rfl, rfl, rfl⟩ := hR j rfl
    have h0 : DE K (tVar 0) [some (mkrD a ps), some (.tuple (.str b :: xs)), none] (.tuple [.str "maker", .str a, .list ps]) := de_var rfl
    rw [fitN_maker]
    refine ds_guard (b := false) (dt_is (dt_B (de_isN h0)) rfl) (fun z => nomatch z) fun _ => ?_
    refine ds_guard (b := false) (dt_is (dt_head h0) (by decide +kernel)) (fun z => nomatch z) fun _ => ?_
    refine ds_guard (b := false) (dt_is (dt_head h0) (by decide +kernel)) (fun z => nomatch z) fun _ => ?_
    refine ds_guard (b := false) (dt_is (dt_head h0) (by decide +kernel)) (fun z => nomatch z) fun _ => ?_
    refine ds_guard (b := true) (dt_is (dt_head h0) (by decide +kernel)) (fun _ => ds_ret ?_) (fun z => nomatch z)
    refine de_and (de_op (de_at (j := 1) h0 rfl rfl) (de_at (j := 0) h1 rfl rfl) (rd_eq (sh_str ha) (sh_str hb) rfl rfl)) fun e => ?_
    have e : a = b := eq_of_beq e
    exact de_call' (da_cons (de_at (j := 2) h0 rfl rfl) (da_cons (de_tail h1) da_nil)) ⟨kvs, m, true, ps, xs, rfl, fk, (h e).2, few, rfl⟩
  | @row j ps xs few m h =>
    obtain ⟨rfl, rfl, rfl⟩ := hR j rfl
    have h0 : DE K (tVar 0) [some (rowD ps), some (.list xs), none] (.tuple [.str "row", .list ps]) := de_var rfl
    rw [fitN_row]
    refine ds_guard (b := false) (dt_is (dt_B (de_isN h0)) rfl) (fun z => nomatch z) fun _ => ?_
    refine ds_guard (b := false) (dt_is (dt_head h0) (by decide +kernel)) (fun z => nomatch z) fun _ => ?_
    refine ds_guard (b := false) (dt_is (dt_head h0) (by decide +kernel)) (fun z => nomatch z) fun _ => ?_
    refine ds_guard (b := false) (dt_is (dt_head h0) (by decide +kernel)) (fun z => nomatch z) fun _ => ?_
    refine ds_guard (b := false) (dt_is (dt_head h0) (by decide +kernel)) (fun z => nomatch z) fun _ => ?_
    refine ds_guard (b := true) (dt_is (dt_head h0) (by decide +kernel)) (fun _ => ds_ret ?_) (fun z => nomatch z)
    refine de_and (de_op (de_cb (da_cons (de_at (j := 1) h0 rfl rfl) da_nil) cd_lenL) (de_cb (da_cons h1 da_nil) cd_lenL) (rd_eq (sh_int _) (sh_int _) rfl rfl)) fun _ => ?_
    exact de_call' (da_cons (de_at (j := 1) h0 rfl rfl) (da_cons h1 da_nil)) ⟨kvs, m, false, ps, xs, rfl, fk, fun q hq => h _ (List.of_mem_zip hq).1 _ (List.of_mem_zip hq).2, few, rfl⟩
  | @gap j ps qs xs few m h =>
    obtain ⟨rfl, rfl, rfl⟩ := hR j rfl
    have h0 : DE K (tVar 0) [some (gapD ps qs), some (.list xs), none] (.tuple [.str "gap", .list ps, .list qs]) := de_var rfl
    rw [fitN_gap]
    refine ds_guard (b := false) (dt_is (dt_B (de_isN h0)) rfl) (fun z => nomatch z) fun _ => ?_
    refine ds_guard (b := false) (dt_is (dt_head h0) (by decide +kernel)) (fun z => nomatch z) fun _ => ?_
    refine ds_guard (b := false) (dt_is (dt_head h0) (by decide +kernel)) (fun z => nomatch z) fun _ => ?_
    refine ds_guard (b := false) (dt_is (dt_head h0) (by decide +kernel)) (fun z => nomatch z) fun _ => ?_
    refine ds_guard (b := false) (dt_is (dt_head h0) (by decide +kernel)) (fun z => nomatch z) fun _ => ?_
    refine ds_guard (b := false) (dt_is (dt_head h0) (by decide +kernel)) (fun z => nomatch z) fun _ => ds_ret ?_
    exact de_call' (da_cons (de_at (j := 1) h0 rfl rfl) (da_cons (de_at (j := 2) h0 rfl rfl) (da_cons h1 da_nil))) ⟨kvs, m, ps, qs, xs, rfl, fk, h, few, rfl⟩
theorem cl_mono {j k : Nat} {x : Str} {R : List PyData → PyData → Prop} (c : CL P w K mg base j x R) (h : j ≤ k) : CL P w K mg base k x R := by
  obtain ⟨f, fd, ps, F, a, b, d⟩ := c.ex
  exact ⟨f, fd, ps, F.mono h, a, b, d⟩
theorem fnok_false {ps : List Str} : FnOk P w K mg base CX0 0 f fd ps (spR K fun _ _ => False) := ⟨fun vs H Q E h => by obtain ⟨_, _, _, _, _, z, _⟩ := h; exact z.elim, fun A outer s H args us vs Q E hr e0 hb r h => by obtain ⟨_, _, _, _, _, z, _⟩ := h; exact z.elim⟩
theorem ok_pattern_fits {fa fg : Addr} {fda fdg : FuncData} (F : Fun K "pattern_fits" "pattern_fits" s_pattern_fits f fd) (Fa : Fun K "all_fit" "all_fit" s_all_fit fa fda) (Fg : Fun K "gap_fits" "gap_fits" s_gap_fits fg fdg) (M : Bl mg) (mf : mg "pattern_fits" = some (.ref f)) (ma : mg "all_fit" = some (.ref fa)) (mgp : mg "gap_fits" = some (.ref fg)) :
    ∀ n, FnOk P w K mg base CX0 (3 * n + 1) f fd ["pattern", "value"] (spR K (Rw_pattern_fits n)) := by
  have b1 : Binds K fd ["pattern", "value"] [] := F.binds (ps := ["pattern", "value"]) fun _ _ _ _ _ _ us hl => match us, hl with | [_, _], _ => rfl
  have b2 : Binds K fda ["patterns", "values"] [] := Fa.binds (ps := ["patterns", "values"]) fun _ _ _ _ _ _ us hl => match us, hl with | [_, _], _ => rfl
  have b3 : Binds K fdg ["ahead", "behind", "row"] [] := Fg.binds (ps := ["ahead", "behind", "row"]) fun _ _ _ _ _ _ us hl => match us, hl with | [_, _, _], _ => rfl
  intro n
  induction n with
  | zero => exact pattern_fits_main (R1 := fun _ _ => False) (R2 := fun _ _ => False) (R3 := fun _ _ => False) F M ⟨f, fd, _, fnok_false, mf, F.kp, b1⟩ ⟨fa, fda, _, fnok_false, ma, Fa.kp, b2⟩ ⟨fg, fdg, _, fnok_false, mgp, Fg.kp, b3⟩ fun j z => nomatch z
  | succ n ih =>
    have c1 : CL P w K mg base (3 * n + 1) "pattern_fits" (Rw_pattern_fits n) := ⟨f, fd, _, ih, mf, F.kp, b1⟩
    have c2 : CL P w K mg base (3 * n + 2) "all_fit" (Rw_all_fit n) := ⟨fa, fda, _, ok_all_fit Fa M c1, ma, Fa.kp, b2⟩
    have c3 : CL P w K mg base (3 * n + 3) "gap_fits" (Rw_gap_fits n) := ⟨fg, fdg, _, ok_gap_fits Fg M c2, mgp, Fg.kp, b3⟩
    exact pattern_fits_main (k := 3 * n + 3) F M (cl_mono c1 (by omega)) (cl_mono c2 (by omega)) c3 fun j z => by cases z; exact ⟨rfl, rfl, rfl⟩
end
end FP
namespace FP
open PySem PySem.Spec PyProof.Rows L2 FC FG
open Evl (Ex)
def clauseD (c : PyData × Str) : PyData := .tuple [c.1, .str c.2]
structure ClausesOk (kvs : List (Str × PyData)) (k : Str) (cs : List (PyData × Str)) : Prop where
  pat : ∀ c ∈ cs, OkPat kvs 2 k c.1
  nm : ∀ c ∈ cs, isNameS c.2 = true
  few : cs.length ≤ 1000
theorem look_mem {kvs : List (Str × PyData)} {s : Str} {d : PyData} (h : look kvs s = some d) : ∃ q ∈ kvs, q.1 = s ∧ q.2 = d := by
  unfold look at h
  cases e : kvs.find? (fun q => decide (q.1 = s)) with
  | none => rw [e] at h; cases h
  | some q =>
    rw [e] at h
    exact ⟨q, List.mem_of_find?_eq_some e, of_decide_eq_true (List.find?_some (p := fun q : Str × PyData => decide (q.1 = s)) e), Option.some.inj h⟩
theorem KindsOk.forms {kvs : List (Str × PyData)} (h : KindsOk kvs) : FormsOk kvs := fun s d e => by
  obtain ⟨q, hq, _, rfl⟩ := look_mem e
  exact h.fm q hq
/-- the place of the first clause that fits -/
def takeN (v : PyData) (cs : List (PyData × Str)) : PyData := match cs.findIdx? fun c => fitN 2 c.1 v with
  | some m => .int (m : Nat)
  | none => .none
def labN (v : PyData) (cs : List (PyData × Str)) : PyData := match cs.findIdx? fun c => fitN 2 c.1 v with
  | some m => .str (cs.getD m (.none, Str.empty)).2
  | none => .none
def Rw_is_clause : List PyData → PyData → Prop := fun ds o => ∃ kvs k c, ds = [dictOf kvs, .str k, clauseD c] ∧ FormsOk kvs ∧ OkPat kvs 2 k c.1 ∧ isNameS c.2 = true ∧ o = .bool true
def Rw_is_clauses : List PyData → PyData → Prop := fun ds o => ∃ (kvs : List (Str × PyData)) (k : Str) (cs : List (PyData × Str)), ds = [dictOf kvs, .str k, .list (cs.map clauseD)] ∧ FormsOk kvs ∧ ClausesOk kvs k cs ∧ o = .bool true
def Rw_first_fitting : List PyData → PyData → Prop := fun ds o => ∃ (kvs : List (Str × PyData)) (k : Str) (m : Nat) (cs : List (PyData × Str)) (v : PyData), ds = [.list (cs.map clauseD), v] ∧ FormsOk kvs ∧ ClausesOk kvs k cs ∧ OkVal kvs m k v ∧ o = takeN v cs
def Rw_check_kind : List PyData → PyData → Prop := fun ds o => ∃ kvs k, ds = [dictU kvs, .str k] ∧ KindsOk kvs ∧ (look kvs k).isSome = true ∧ o = .none
def Rw_check_value : List PyData → PyData → Prop := fun ds o => ∃ kvs k v m, ds = [dictOf kvs, .str k, v] ∧ FormsOk kvs ∧ OkVal kvs m k v ∧ m ≤ 4 ∧ o = .none
def Rw_check_pattern : List PyData → PyData → Prop := fun ds o => ∃ kvs n k p, ds = [dictOf kvs, .str k, p] ∧ FormsOk kvs ∧ OkPat kvs n k p ∧ n ≤ 4 ∧ o = .none
def Rw_check_clauses : List PyData → PyData → Prop := fun ds o => ∃ (kvs : List (Str × PyData)) (k : Str) (cs : List (PyData × Str)), ds = [dictOf kvs, .str k, .list (cs.map clauseD)] ∧ FormsOk kvs ∧ ClausesOk kvs k cs ∧ o = .none
def Rw_check_lists : List PyData → PyData → Prop := fun ds o => ∃ (kvs : List (Str × PyData)) (k : Str) (cs : List (PyData × Str)), ds = [dictU kvs, .str k, .list [.list (cs.map clauseD)]] ∧ KindsOk kvs ∧ (look kvs k).isSome = true ∧ ClausesOk kvs k cs ∧ o = .none
def Rw_fits (n : Nat) : List PyData → PyData → Prop := fun ds o => ∃ kvs k p m v, ds = [dictU kvs, .str k, p, v] ∧ KindsOk kvs ∧ OkPat kvs n k p ∧ OkVal kvs m k v ∧ m ≤ 4 ∧ o = .bool (fitN n p v)
def Rw_taker : List PyData → PyData → Prop := fun ds o => ∃ (kvs : List (Str × PyData)) (k : Str) (cs : List (PyData × Str)) (m : Nat) (v : PyData), ds = [dictU kvs, .str k, .list (cs.map clauseD), v] ∧ KindsOk kvs ∧ ClausesOk kvs k cs ∧ OkVal kvs m k v ∧ m ≤ 4 ∧ o = takeN v cs
def Rw_label : List PyData → PyData → Prop := fun ds o => ∃ (kvs : List (Str × PyData)) (k : Str) (cs : List (PyData × Str)) (m : Nat) (v : PyData), ds = [dictU kvs, .str k, .list (cs.map clauseD), v] ∧ KindsOk kvs ∧ ClausesOk kvs k cs ∧ OkVal kvs m k v ∧ m ≤ 4 ∧ o = labN v cs
theorem OkVal.kind {kvs : List (Str × PyData)} {m : Nat} {k : Str} {v : PyData} (h : OkVal kvs m k v) : (look kvs k).isSome = true := by
  cases h with
  | num hk _ _ => rw [hk]; rfl
  | word hk _ => rw [hk]; rfl
  | row hk _ _ => rw [hk]; rfl
  | maker hk _ _ _ _ => rw [hk]; rfl
section
variable {P : Program} {w : World} {K : PySem.W.Frag} {mg : Str → Option Value} {base : Heap} {f : Addr} {fd : FuncData} {G : List (Option PyData)}
theorem sc_is_clause : FnScope ["kinds", "kind", "thing"] ["kinds", "kind", "thing"] (defScope s_is_clause) := ⟨rfl, rfl, rfl, by decide +kernel, rfl, by decide +kernel, by decide +kernel⟩
theorem ok_is_clause (F : Fun K "is_clause" "is_clause" s_is_clause f fd) (M : Bl mg) (cp : CL P w K mg base 6 "is_pattern" Rw_is_pattern) (cn : CL P w K mg base 1 "is_name" Rw_is_name) : FnOk P w K mg base CX0 7 f fd ["kinds", "kind", "thing"] (spR K Rw_is_clause) := by
  refine F.ok sc_is_clause (spR_len (by rintro _ _ ⟨_, _, _, rfl, _⟩; rfl)) (fun cdv A outer s H vs Q E hr h => ?_)
  obtain ⟨B, ds, o, x, r, ⟨kvs, k, c, rfl, fk, hp, hn, rfl⟩, q⟩ := h
  have hu64 : (A.deeper (envOfC "is_clause" (defScope s_is_clause) s.heap.objs.size f cdv)).units + 64 < cLine := by have := hr.un; omega
  refine ⟨_, pss_cons (ps_if (pw_or (pt_not (pt_val (k_isi (pv 2) (by rfl) M.isi (by rfl) M.tuple PyProof.Rows.boot_tuple (by decide) (by decide)))) (pw_or1 (pt_cmpR (op_neD hu64) (pe_callB call_lenR (by rfl) M.len PySem.boot_len (pa_cons (pv 2) pa_nil)) pe_int (nomark _)))).pt (pss_one (ps_ret pe_bl)) pss_nil)
    (pss_one (ps_ret (pe_and (pe_cl cp hr (by decide) (by rfl) (pa_cons (pv 0) (pa_cons (pv 1) (pa_cons (pe_ix ix_tup (pv 2) pe_int (fun _ _ => rfl)) pa_nil)))) (pe_one (pe_cl cn hr (by decide) (by rfl) (pa_cons (pe_ix ix_tup (pv 2) pe_int (fun _ _ => rfl)) pa_nil)))))), ?_⟩
  refine fin_rt ?_ x r q
  show DS K _ [some (dictOf kvs), some (.str k), some (.tuple [c.1, .str c.2])] _
  refine ds_guard (b := false) (dt_is (dt_or (dt_not (dt_B (de_ty (de_var rfl) rfl ktt))) fun _ => dt_test (de_op (de_cb (da_cons (de_var rfl) da_nil) cd_lenT) de_int (rd_ne rfl rfl rfl rfl))) rfl) (fun z => nomatch z) fun _ => ?_
  exact ds_ret (de_is (de_and (de_call' (da_cons (de_var rfl) (da_cons (de_var rfl) (da_cons (de_op (de_var rfl) de_int (rd_ixT (j := 0) rfl rfl)) da_nil))) ⟨kvs, 2, k, c.1, rfl, fk, hp, by decide, rfl⟩) fun _ => de_call' (da_cons (de_op (de_var rfl) de_int (rd_ixT (j := 1) rfl rfl)) da_nil) ⟨c.2, rfl, hn, rfl⟩) rfl)
theorem sc_is_clauses : FnScope ["kinds", "kind", "thing", "clause"] ["kinds", "kind", "thing"] (defScope s_is_clauses) := ⟨rfl, rfl, rfl, by decide +kernel, rfl, by decide +kernel, by decide +kernel⟩
theorem ok_is_clauses (F : Fun K "is_clauses" "is_clauses" s_is_clauses f fd) (M : Bl mg) (cc : CL P w K mg base 7 "is_clause" Rw_is_clause) : FnOk P w K mg base CX0 8 f fd ["kinds", "kind", "thing"] (spR K Rw_is_clauses) := by
  refine F.ok sc_is_clauses (spR_len (by rintro _ _ ⟨_, _, _, rfl, _⟩; rfl)) (fun cdv A outer s H vs Q E hr h => ?_)
  obtain ⟨B, ds, o, x, r, ⟨kvs, k, cs, rfl, fk, hc, rfl⟩, q⟩ := h
  refine ⟨_, pss_one (ps_ret (pe_and (k_isi (pv 2) (by rfl) M.isi (by rfl) M.list PyProof.Rows.boot_list (by decide) (by decide)) (pe_one (pe_callB (cr_all rfl) (by rfl) M.all PyProof.Rows.boot_all (pa_cons
    (pe_lc (own := [("clause", 3)]) (g := gName 3) (tt := tYes) rfl sc_is_clauses.nd (pi_list (pv 2)) (blkOk_by (N := ["kinds", "kind", "thing", "clause"]) (sc := defScope s_is_clauses) (by decide +kernel)) (fun _ _ _ _ _ => pg_name (i := 3) sc_is_clauses.nd rfl (Or.inl rfl)) (fun _ _ _ _ _ => pts_nil)
      (fun _ _ _ _ _ => pe_cl cc hr (by decide) (by rfl) (pa_cons (pv 0) (pa_cons (pv 1) (pa_cons (pv 3) pa_nil))))) pa_nil))))), ?_⟩
  refine fin_rt ?_ x r q
  show DS K _ [some (dictOf kvs), some (.str k), some (.list (cs.map clauseD)), none] _
  have all1 : ∀ n, ((List.range n).map fun _ => true).all id = true := fun n => all_true fun _ _ => rfl
  refine ds_ret (de_is (de_and (de_ty (de_var rfl) rfl kll) fun _ => de_cb (da_cons (de_is (de_lc (fun _ => true) (fun _ => .bool true) (di_list (de_var rfl)) (by decide) (fun _ _ => dt_yes) (fun i hi _ => ?_) (fun _ _ _ => rfl) (by rw [List.length_map]; have := hc.few; omega)) (congrArg PyData.list (madeG_bools (fun _ => true) _))) da_nil) cd_all) (by rw [all1]; rfl))
  rw [List.length_map] at hi
  have he : (cs.map clauseD)[i]? = some (clauseD cs[i]) := by rw [List.getElem?_map, List.getElem?_eq_getElem hi]; rfl
  show DE K _ [some (dictOf kvs), some (.str k), some (.list (cs.map clauseD)), (cs.map clauseD)[i]?] _
  rw [he]
  exact de_call' (da_cons (de_var rfl) (da_cons (de_var rfl) (da_cons (de_var rfl) da_nil))) ⟨kvs, k, cs[i], rfl, fk, hc.pat _ (List.getElem_mem _), hc.nm _ (List.getElem_mem _), rfl⟩
theorem sc_first_fitting : FnScope ["clauses", "value", "at", "pattern", "_"] ["clauses", "value"] (defScope s_first_fitting) := ⟨rfl, rfl, rfl, by decide +kernel, rfl, by decide +kernel, by decide +kernel⟩
theorem ok_first_fitting (F : Fun K "first_fitting" "first_fitting" s_first_fitting f fd) (M : Bl mg) (cp : CL P w K mg base 7 "pattern_fits" (Rw_pattern_fits 2)) : FnOk P w K mg base CX0 8 f fd ["clauses", "value"] (spR K Rw_first_fitting) := by
  refine F.ok sc_first_fitting (spR_len (by rintro _ _ ⟨_, _, _, _, _, rfl, _⟩; rfl)) (fun cdv A outer s H vs Q E hr h => ?_)
  obtain ⟨B, ds, o, x, r, ⟨kvs, kk, m0, cs, v, rfl, fk, hc, hv, rfl⟩, q⟩ := h
  have nd := sc_first_fitting.nd
  refine ⟨_, pss_cons (ps_for PassesOwn.never rfl (pi_enum (by rfl) M.enum (pa_cons (pv 0) pa_nil)) (pg_tup rfl (pgs_cons (pg_name (i := 2) nd rfl (.inl rfl)) (pgs_cons (pg_tup rfl (pgs_cons (pg_name (i := 3) nd rfl (.inl rfl)) (pgs_cons (pg_name (i := 4) nd rfl (.inl rfl)) pgs_nil))) pgs_nil)))
      (pss_one (ps_if (pt_val (pe_cl cp hr (by decide) (by rfl) (pa_cons (pv 3) (pa_cons (pv 1) pa_nil)))) (pss_one (ps_ret (pv 2))) pss_nil)))
    (pss_one (ps_ret pe_non)), ?_⟩
  refine fin_rt ?_ x r q
  show DS K _ [some (.list (cs.map clauseD)), some v, none, none, none] _
  let ps : List (PyData × PyData) := cs.map fun c => (c.1, .str c.2)
  have hps : (ps.map fun p => PyData.tuple [p.1, p.2]) = cs.map clauseD := by
    show (cs.map _).map _ = _
    rw [List.map_map]
    rfl
  have hpl : ps.length = cs.length := List.length_map _
  have di : DI K (iEnum K (tCons (tVar 0) tNil)) (gTup K 2 (gCons (gName 2) (gCons (gTup K 2 (gCons (gName 3) (gCons (gName 4) gNil))) gNil))) [2, 3, 4] [some (.list (cs.map clauseD)), some v, none, none, none] ps.length
      (fun i G2 => ((G2.set 2 (some (.int i))).set 3 (ps[i]?.map (·.1))).set 4 (ps[i]?.map (·.2))) := by
    refine di_enumP ?_
    rw [hps]
    exact da_cons (de_var rfl) da_nil
  let Gs : Nat → List (Option PyData) := fun m => match m with
    | 0 => [some (.list (cs.map clauseD)), some v, none, none, none]
    | m + 1 => [some (.list (cs.map clauseD)), some v, some (.int m), ps[m]?.map (·.1), ps[m]?.map (·.2)]
  have st : ∀ m (hm : m < cs.length), (((Gs m).set 2 (some (.int m))).set 3 (ps[m]?.map (·.1))).set 4 (ps[m]?.map (·.2)) = [some (.list (cs.map clauseD)), some v, some (.int m), some cs[m].1, some (.str cs[m].2)] := by
    intro m hm
    have e : ps[m]? = some (cs[m].1, .str cs[m].2) := by
      show (cs.map _)[m]? = _
      rw [List.getElem?_map, List.getElem?_eq_getElem hm]
      rfl
    rw [e]
    cases m <;> rfl
  have test : ∀ m (hm : m < cs.length), DT K (tB (tCall (spR K (Rw_pattern_fits 2)) [] E0 (tCons (tVar 3) (tCons (tVar 1) tNil)))) [some (.list (cs.map clauseD)), some v, some (.int m), some cs[m].1, some (.str cs[m].2)] (fitN 2 cs[m].1 v) := by
    intro m hm
    exact dt_B (de_call' (da_cons (de_var rfl) (da_cons (de_var rfl) da_nil)) ⟨kvs, m0, _, v, rfl, fk, ⟨kk, hc.pat _ (List.getElem_mem hm), hv⟩, rfl⟩)
  have go : ∀ m (hm : m < cs.length), fitN 2 cs[m].1 v = false → DS K (tIfS (tB (tCall (spR K (Rw_pattern_fits 2)) [] E0 (tCons (tVar 3) (tCons (tVar 1) tNil)))) (tRet (tVar 2)) tNext) ((((Gs m).set 2 (some (.int m))).set 3 (ps[m]?.map (·.1))).set 4 (ps[m]?.map (·.2))) (.nx (Gs (m + 1))) := by
    intro m hm hf
    rw [st m hm]
    refine ds_is (ds_if (b := false) (dt_is (test m hm) hf) (fun z => nomatch z) fun _ => ds_next) ?_
    have e : ps[m]? = some (cs[m].1, .str cs[m].2) := by
      show (cs.map _)[m]? = _
      rw [List.getElem?_map, List.getElem?_eq_getElem hm]
      rfl
    show Out.nx _ = Out.nx [some (.list (cs.map clauseD)), some v, some (.int m), ps[m]?.map (·.1), ps[m]?.map (·.2)]
    rw [e]
    rfl
  unfold takeN
  cases ht : cs.findIdx? fun c => fitN 2 c.1 v with
  | some m =>
    obtain ⟨hml, hfit, hbef⟩ := List.findIdx?_eq_some_iff_getElem.mp ht
    refine ds_seqR (ds_forR m Gs di (by rw [hpl]; exact hml) rfl (fun j hj => ?_) ?_)
    · have hjl : j < cs.length := Nat.lt_trans hj hml
      exact go j hjl (Bool.eq_false_iff.mpr (hbef j hj))
    · rw [st m hml]
      exact ds_if (b := true) (dt_is (test m hml) hfit) (fun _ => ds_ret (de_var rfl)) (fun z => nomatch z)
  | none =>
    have hall := List.findIdx?_eq_none_iff.mp ht
    refine ds_seq (ds_for Gs di rfl fun j hj => ?_) (ds_ret de_non)
    rw [hpl] at hj
    exact go j hj (hall _ (List.getElem_mem hj))
theorem sc_check_kind : FnScope ["kinds", "kind"] ["kinds", "kind"] (defScope s_check_kind) := ⟨rfl, rfl, rfl, by decide +kernel, rfl, by decide +kernel, by decide +kernel⟩
theorem ok_check_kind (F : Fun K "check_kind" "check_kind" s_check_kind f fd) (c1 : CL P w K mg base 5 "is_kinds" Rw_is_kinds) (c2 : CL P w K mg base 1 "is_kind" Rw_is_kind) : FnOk P w K mg base CX0 6 f fd ["kinds", "kind"] (spR K Rw_check_kind) := by
  refine F.ok sc_check_kind (spR_len (by rintro _ _ ⟨_, _, rfl, _⟩; rfl)) (fun cdv A outer s H vs Q E hr h => ?_)
  obtain ⟨B, ds, o, x, r, ⟨kvs, k, rfl, ok, hk, rfl⟩, q⟩ := h
  refine ⟨_, pss_cons (ps_if (pt_not (pt_val (pe_cl c1 hr (by decide) (by rfl) (pa_cons (pv 0) pa_nil)))) pss_never pss_nil)
    (pss_one (ps_if (pt_not (pt_val (pe_cl c2 hr (by decide) (by rfl) (pa_cons (pv 0) (pa_cons (pv 1) pa_nil))))) pss_never pss_nil)), ?_⟩
  refine fin_nx (G' := [some (dictU kvs), some (.str k)]) ?_ x r q
  show DS K _ [some (dictU kvs), some (.str k)] _
  refine ds_seq (ds_if (b := false) (dt_is (dt_not (dt_B (de_call' (da_cons (de_var rfl) da_nil) ⟨kvs, rfl, ok, rfl⟩))) rfl) (fun z => nomatch z) fun _ => ds_next) ?_
  exact ds_if (b := false) (dt_is (dt_not (dt_B (de_call' (da_cons (de_ofU (de_var rfl)) (da_cons (de_var rfl) da_nil)) ⟨kvs, k, rfl, rfl⟩))) (by rw [hk]; rfl)) (fun z => nomatch z) fun _ => ds_next
theorem sc_check_value : FnScope ["kinds", "kind", "value"] ["kinds", "kind", "value"] (defScope s_check_value) := ⟨rfl, rfl, rfl, by decide +kernel, rfl, by decide +kernel, by decide +kernel⟩
theorem ok_check_value (F : Fun K "check_value" "check_value" s_check_value f fd) (cs : Cl P w K mg base 5 "is_sound" (spSound P w K mg base 4)) (cv : CL P w K mg base 4 "values_within" Rw_values_within) : FnOk P w K mg base CX0 6 f fd ["kinds", "kind", "value"] (spR K Rw_check_value) := by
  refine F.ok sc_check_value (spR_len (by rintro _ _ ⟨_, _, _, _, rfl, _⟩; rfl)) (fun cdv A outer s H vs Q E hr h => ?_)
  obtain ⟨B, ds, o, x, r, ⟨kvs, k, v, m, rfl, fk, hv, hm, rfl⟩, q⟩ := h
  obtain ⟨fw, fdw, psw, Fw, mw, kw, bw⟩ := cv.ex
  refine ⟨_, pss_one (ps_if (pt_not (pt_val (pe_cl cs hr (by decide) (by rfl) (pa_cons (pv 0) (pa_cons (pv 1) (pa_cons (pv 2) (pa_cons (pe_glob (v := .ref fw) (by rfl) mw rfl) pa_nil))))))) pss_never pss_nil), ?_⟩
  refine fin_nx (G' := [some (dictOf kvs), some (.str k), some v]) ?_ x r q
  show DS K _ [some (dictOf kvs), some (.str k), some v] _
  obtain ⟨j, sw⟩ := sweep_cost (hv.cost fk) (Nat.le_trans (costN_le hm) (by decide))
  exact ds_if (b := false) (dt_is (dt_not (dt_B (de_sound Fw kw bw (de_var rfl) (de_var rfl) (de_var rfl) rfl hv.plain sw))) rfl) (fun z => nomatch z) fun _ => ds_next
theorem sc_check_pattern : FnScope ["kinds", "kind", "pattern"] ["kinds", "kind", "pattern"] (defScope s_check_pattern) := ⟨rfl, rfl, rfl, by decide +kernel, rfl, by decide +kernel, by decide +kernel⟩
theorem ok_check_pattern (F : Fun K "check_pattern" "check_pattern" s_check_pattern f fd) (c1 : CL P w K mg base 6 "is_pattern" Rw_is_pattern) : FnOk P w K mg base CX0 7 f fd ["kinds", "kind", "pattern"] (spR K Rw_check_pattern) := by
  refine F.ok sc_check_pattern (spR_len (by rintro _ _ ⟨_, _, _, _, rfl, _⟩; rfl)) (fun cdv A outer s H vs Q E hr h => ?_)
  obtain ⟨B, ds, o, x, r, ⟨kvs, n, k, p, rfl, fk, hp, hn, rfl⟩, q⟩ := h
  refine ⟨_, pss_one (ps_if (pt_not (pt_val (pe_cl c1 hr (by decide) (by rfl) (pa_cons (pv 0) (pa_cons (pv 1) (pa_cons (pv 2) pa_nil)))))) pss_never pss_nil), ?_⟩
  refine fin_nx (G' := [some (dictOf kvs), some (.str k), some p]) ?_ x r q
  show DS K _ [some (dictOf kvs), some (.str k), some p] _
  exact ds_if (b := false) (dt_is (dt_not (dt_B (de_call' (da_cons (de_var rfl) (da_cons (de_var rfl) (da_cons (de_var rfl) da_nil))) ⟨kvs, n, k, p, rfl, fk, hp, hn, rfl⟩))) rfl) (fun z => nomatch z) fun _ => ds_next
theorem sc_check_clauses : FnScope ["kinds", "kind", "clauses"] ["kinds", "kind", "clauses"] (defScope s_check_clauses) := ⟨rfl, rfl, rfl, by decide +kernel, rfl, by decide +kernel, by decide +kernel⟩
theorem ok_check_clauses (F : Fun K "check_clauses" "check_clauses" s_check_clauses f fd) (c1 : CL P w K mg base 8 "is_clauses" Rw_is_clauses) : FnOk P w K mg base CX0 9 f fd ["kinds", "kind", "clauses"] (spR K Rw_check_clauses) := by
  refine F.ok sc_check_clauses (spR_len (by rintro _ _ ⟨_, _, _, rfl, _⟩; rfl)) (fun cdv A outer s H vs Q E hr h => ?_)
  obtain ⟨B, ds, o, x, r, ⟨kvs, k, cs, rfl, fk, hc, rfl⟩, q⟩ := h
  refine ⟨_, pss_one (ps_if (pt_not (pt_val (pe_cl c1 hr (by decide) (by rfl) (pa_cons (pv 0) (pa_cons (pv 1) (pa_cons (pv 2) pa_nil)))))) pss_never pss_nil), ?_⟩
  refine fin_nx (G' := [some (dictOf kvs), some (.str k), some (.list (cs.map clauseD))]) ?_ x r q
  show DS K _ [some (dictOf kvs), some (.str k), some (.list (cs.map clauseD))] _
  exact ds_if (b := false) (dt_is (dt_not (dt_B (de_call' (da_cons (de_var rfl) (da_cons (de_var rfl) (da_cons (de_var rfl) da_nil))) ⟨kvs, k, cs, rfl, fk, hc, rfl⟩))) rfl) (fun z => nomatch z) fun _ => ds_next
theorem sc_check_lists : FnScope ["kinds", "kind", "lists", "clauses"] ["kinds", "kind", "lists"] (defScope s_check_lists) := ⟨rfl, rfl, rfl, by decide +kernel, rfl, by decide +kernel, by decide +kernel⟩
theorem ok_check_lists (F : Fun K "check_lists" "check_lists" s_check_lists f fd) (c1 : CL P w K mg base 6 "check_kind" Rw_check_kind) (c2 : CL P w K mg base 9 "check_clauses" Rw_check_clauses) : FnOk P w K mg base CX0 10 f fd ["kinds", "kind", "lists"] (spR K Rw_check_lists) := by
  refine F.ok sc_check_lists (spR_len (by rintro _ _ ⟨_, _, _, rfl, _⟩; rfl)) (fun cdv A outer s H vs Q E hr h => ?_)
  obtain ⟨B, ds, o, x, r, ⟨kvs, k, cs, rfl, ok, hk, hc, rfl⟩, q⟩ := h
  refine ⟨_, pss_cons (ps_expr (pe_cl c1 hr (by decide) (by rfl) (pa_cons (pv 0) (pa_cons (pv 1) pa_nil))))
    (pss_one (ps_for PassesOwn.never rfl (pi_list (pv 2)) (pg_name (i := 3) sc_check_lists.nd rfl (Or.inl rfl)) (pss_one (ps_expr (pe_cl c2 hr (by decide) (by rfl) (pa_cons (pv 0) (pa_cons (pv 1) (pa_cons (pv 3) pa_nil)))))))), ?_⟩
  let Gs : Nat → List (Option PyData)
    | 0 => [some (dictU kvs), some (.str k), some (.list [.list (cs.map clauseD)]), none]
    | _ + 1 => [some (dictU kvs), some (.str k), some (.list [.list (cs.map clauseD)]), some (.list (cs.map clauseD))]
  refine fin_nx (G' := Gs 1) ?_ x r q
  show DS K _ [some (dictU kvs), some (.str k), some (.list [.list (cs.map clauseD)]), none] _
  refine ds_seq (ds_drop (de_call' (da_cons (de_var rfl) (da_cons (de_var rfl) da_nil)) ⟨kvs, k, rfl, ok, hk, rfl⟩)) ?_
  refine ds_for Gs (di_list (ds := [.list (cs.map clauseD)]) (de_var rfl)) rfl fun i hi' => ?_
  obtain rfl : i = 0 := by
    have : i < 1 := hi'
    omega
  show DS K _ [some (dictU kvs), some (.str k), some (.list [.list (cs.map clauseD)]), some (.list (cs.map clauseD))] _
  exact ds_drop (de_call' (da_cons (de_ofU (de_var rfl)) (da_cons (de_var rfl) (da_cons (de_var rfl) da_nil))) ⟨kvs, k, cs, rfl, ok.forms, hc, rfl⟩)
theorem sc_fits : FnScope ["kinds", "kind", "pattern", "value"] ["kinds", "kind", "pattern", "value"] (defScope s_fits) := ⟨rfl, rfl, rfl, by decide +kernel, rfl, by decide +kernel, by decide +kernel⟩
theorem ok_fits {n : Nat} (hn : n ≤ 3) (F : Fun K "fits" "fits" s_fits f fd) (c1 : CL P w K mg base 6 "check_kind" Rw_check_kind) (c2 : CL P w K mg base 7 "check_pattern" Rw_check_pattern) (c3 : CL P w K mg base 6 "check_value" Rw_check_value) (c4 : CL P w K mg base 10 "pattern_fits" (Rw_pattern_fits n)) : FnOk P w K mg base CX0 11 f fd ["kinds", "kind", "pattern", "value"] (spR K (Rw_fits n)) := by
  refine F.ok sc_fits (spR_len (by rintro _ _ ⟨_, _, _, _, _, rfl, _⟩; rfl)) (fun cdv A outer s H vs Q E hr h => ?_)
  obtain ⟨B, ds, o, x, r, ⟨kvs, k, p, m, v, rfl, ok, hp, hv, hm, rfl⟩, q⟩ := h
  refine ⟨_, pss_cons (ps_expr (pe_cl c1 hr (by decide) (by rfl) (pa_cons (pv 0) (pa_cons (pv 1) pa_nil))))
    (pss_cons (ps_expr (pe_cl c2 hr (by decide) (by rfl) (pa_cons (pv 0) (pa_cons (pv 1) (pa_cons (pv 2) pa_nil)))))
    (pss_cons (ps_expr (pe_cl c3 hr (by decide) (by rfl) (pa_cons (pv 0) (pa_cons (pv 1) (pa_cons (pv 3) pa_nil)))))
    (pss_one (ps_ret (pe_cl c4 hr (by decide) (by rfl) (pa_cons (pv 2) (pa_cons (pv 3) pa_nil))))))), ?_⟩
  refine fin_rt ?_ x r q
  show DS K _ [some (dictU kvs), some (.str k), some p, some v] _
  refine ds_seq (ds_drop (de_call' (da_cons (de_var rfl) (da_cons (de_var rfl) da_nil)) ⟨kvs, k, rfl, ok, hv.kind, rfl⟩)) ?_
  refine ds_seq (ds_drop (de_call' (da_cons (de_ofU (de_var rfl)) (da_cons (de_var rfl) (da_cons (de_var rfl) da_nil))) ⟨kvs, n, k, p, rfl, ok.forms, hp, by omega, rfl⟩)) ?_
  refine ds_seq (ds_drop (de_call' (da_cons (de_ofU (de_var rfl)) (da_cons (de_var rfl) (da_cons (de_var rfl) da_nil))) ⟨kvs, k, v, m, rfl, ok.forms, hv, hm, rfl⟩)) ?_
  exact ds_ret (de_call' (da_cons (de_var rfl) (da_cons (de_var rfl) da_nil)) ⟨kvs, m, p, v, rfl, ok.forms, ⟨k, hp, hv⟩, rfl⟩)
theorem sc_taker : FnScope ["kinds", "kind", "clauses", "value"] ["kinds", "kind", "clauses", "value"] (defScope s_taker) := ⟨rfl, rfl, rfl, by decide +kernel, rfl, by decide +kernel, by decide +kernel⟩
theorem ok_taker (F : Fun K "taker" "taker" s_taker f fd) (c1 : CL P w K mg base 10 "check_lists" Rw_check_lists) (c3 : CL P w K mg base 6 "check_value" Rw_check_value) (c4 : CL P w K mg base 8 "first_fitting" Rw_first_fitting) : FnOk P w K mg base CX0 11 f fd ["kinds", "kind", "clauses", "value"] (spR K Rw_taker) := by
  refine F.ok sc_taker (spR_len (by rintro _ _ ⟨_, _, _, _, _, rfl, _⟩; rfl)) (fun cdv A outer s H vs Q E hr h => ?_)
  obtain ⟨B, ds, o, x, r, ⟨kvs, k, cs, m, v, rfl, ok, hc, hv, hm, rfl⟩, q⟩ := h
  refine ⟨_, pss_cons (ps_expr (pe_cl c1 hr (by decide) (by rfl) (pa_cons (pv 0) (pa_cons (pv 1) (pa_cons (pe_lst (pa_cons (pv 2) pa_nil)) pa_nil)))))
    (pss_cons (ps_expr (pe_cl c3 hr (by decide) (by rfl) (pa_cons (pv 0) (pa_cons (pv 1) (pa_cons (pv 3) pa_nil)))))
    (pss_one (ps_ret (pe_cl c4 hr (by decide) (by rfl) (pa_cons (pv 2) (pa_cons (pv 3) pa_nil)))))), ?_⟩
  refine fin_rt ?_ x r q
  show DS K _ [some (dictU kvs), some (.str k), some (.list (cs.map clauseD)), some v] _
  refine ds_seq (ds_drop (de_call' (da_cons (de_var rfl) (da_cons (de_var rfl) (da_cons (de_lst (da_cons (de_var rfl) da_nil) rfl (by show 1 ≤ 1000; decide)) da_nil))) ⟨kvs, k, cs, rfl, ok, hv.kind, hc, rfl⟩)) ?_
  refine ds_seq (ds_drop (de_call' (da_cons (de_ofU (de_var rfl)) (da_cons (de_var rfl) (da_cons (de_var rfl) da_nil))) ⟨kvs, k, v, m, rfl, ok.forms, hv, hm, rfl⟩)) ?_
  exact ds_ret (de_call' (da_cons (de_var rfl) (da_cons (de_var rfl) da_nil)) ⟨kvs, k, m, cs, v, rfl, ok.forms, hc, hv, rfl⟩)
theorem sc_label : FnScope ["kinds", "kind", "clauses", "value", "at"] ["kinds", "kind", "clauses", "value"] (defScope s_label) := ⟨rfl, rfl, rfl, by decide +kernel, rfl, by decide +kernel, by decide +kernel⟩
theorem ok_label (F : Fun K "label" "label" s_label f fd) (c1 : CL P w K mg base 11 "taker" Rw_taker) : FnOk P w K mg base CX0 12 f fd ["kinds", "kind", "clauses", "value"] (spR K Rw_label) := by
  refine F.ok sc_label (spR_len (by rintro _ _ ⟨_, _, _, _, _, rfl, _⟩; rfl)) (fun cdv A outer s H vs Q E hr h => ?_)
  obtain ⟨B, ds, o, x, r, ⟨kvs, k, cs, m, v, rfl, ok, hc, hv, hm, rfl⟩, q⟩ := h
  refine ⟨_, pss_cons (ps_set (i := 4) sc_label.nd rfl (Or.inl rfl) (pe_cl c1 hr (by decide) (by rfl) (pa_cons (pv 0) (pa_cons (pv 1) (pa_cons (pv 2) (pa_cons (pv 3) pa_nil))))))
    (pss_one (ps_ret (pe_ifExp (pt_cmp (pc_isN (pv 4))) pe_non (pe_ix ix_tup (pe_ix ix_list (pv 2) (pv 4) (fun _ _ => rfl)) pe_int (fun _ _ => rfl))))), ?_⟩
  refine fin_rt ?_ x r q
  show DS K _ [some (dictU kvs), some (.str k), some (.list (cs.map clauseD)), some v, none] _
  refine ds_seq (ds_set (de_call' (da_cons (de_var rfl) (da_cons (de_var rfl) (da_cons (de_var rfl) (da_cons (de_var rfl) da_nil)))) ⟨kvs, k, cs, m, v, rfl, ok, hc, hv, hm, rfl⟩)) ?_
  show DS K _ [some (dictU kvs), some (.str k), some (.list (cs.map clauseD)), some v, some (takeN v cs)] _
  unfold takeN labN
  cases ht : cs.findIdx? fun c => fitN 2 c.1 v with
  | some j =>
    obtain ⟨hj, _, _⟩ := List.findIdx?_eq_some_iff_getElem.mp ht
    refine ds_ret (de_if (b := false) (dt_is (dt_B (de_isN (de_var rfl))) rfl) (fun z => nomatch z) fun _ => ?_)
    have e : (cs.map clauseD)[j]? = some (clauseD (cs.getD j (.none, Str.empty))) := by rw [get_map hj, getD_at hj]
    exact de_op (de_op (de_var rfl) (de_var rfl) (rd_ixL (j := j) rfl e)) de_int (rd_ixT (j := 1) rfl rfl)
  | none => exact ds_ret (de_if (b := true) (dt_is (dt_B (de_isN (de_var rfl))) rfl) (fun _ => de_non) fun z => nomatch z)
end
end FP
namespace FP
open PySem PySem.Spec PyProof.Rows L2 FC FG
open Evl (Ex)
abbrev s_lpurse : Stmt := topS 50
abbrev s_lmixed : Stmt := topS 51
abbrev s_ldraw : Stmt := topS 52
abbrev s_lone_of : Stmt := topS 53
abbrev s_lshuffled : Stmt := topS 54
abbrev s_lbase : Stmt := topS 55
abbrev s_lmakers : Stmt := topS 56
abbrev s_lkinds : Stmt := topS 57
abbrev s_lkind : Stmt := topS 58
abbrev s_lpatterns : Stmt := topS 59
abbrev s_lpattern : Stmt := topS 60
abbrev s_lclauses : Stmt := topS 61
abbrev s_lall_parts : Stmt := topS 62
abbrev s_lall_cells : Stmt := topS 63
abbrev s_lall : Stmt := topS 64
abbrev s_lrow_fits : Stmt := topS 65
abbrev s_lfits : Stmt := topS 66
abbrev s_ltaker : Stmt := topS 67
abbrev s_llabel : Stmt := topS 68
abbrev s_lvalue_right : Stmt := topS 69
abbrev s_llong_right : Stmt := topS 70
abbrev s_lfive_right : Stmt := topS 71
abbrev s_law : Stmt := topS 72
section
variable {K : PySem.W.Frag} {G : List (Option PyData)} {ta tb te : TE}
/-- enumerate(list), target (name, name) -/
theorem di_enum {ta : TA} {ds : List PyData} {j k : Nat} (h : DA K ta G [.list ds]) :
    DI K (iEnum K ta) (gTup K 2 (gCons (gName j) (gCons (gName k) gNil))) [j, k] G ds.length
      (fun i G2 => (G2.set j (some (.int i))).set k ds[i]?) := fun σ B H x en R q =>
  h σ B H x en _ fun vs B1 H1 g1 r1 => by
    cases r1 with
    | cons r1 r2 =>
      cases r2
      have r1 := r1.dp rfl
      cases r1 with
      | @lst a xs _ hs ha =>
        refine ⟨a, xs, rfl, ex_l g1.sub hs, ?_⟩
        have hl := dps_len ha
        refine q (Ite K a) B1 H1 (YPair (fun i => some (.int (i : Nat))) (fun i => xs[i]?)) g1 ?_ fun i hi B2 H2 σ2 G2 y H3 e1 e2 en2 hy Q kk => ?_
        · rw [← hl]
          exact walk_enum.mono (fun H2 e => ex_l e hs) fun _ _ _ _ _ _ y => y
        · obtain ⟨t, y1, y2, rfl, ht, rfl, h1, h2⟩ := hy
          have hd : ds[i]? = some ds[i] := List.getElem?_eq_getElem hi
          obtain ⟨z, h3, h4⟩ := dps_get ha hd
          have ez : y2 = z := Option.some.inj (h2.symm.trans h3)
          have e1' : y1 = .int (i : Nat) := (Option.some.inj h1).symm
          subst ez e1'
          have h4 := dp_ex e1 _ _ h4
          have gn : Go B2 H2 B2 (upd H2 t (.tup [.int (i : Nat), y2])) := Go.own e2 ht
          refine ⟨t, _, rfl, .inl (.inl upd_same), rfl, _, _, rfl, _, _, rfl, rfl, ?_⟩
          refine kk _ B2 _ gn ?_ fun vs hv => ?_
          · show En K _ _ ((G2.set j (some (.int i))).set k ds[i]?)
            rw [hd]
            exact (en2.set j (.d (.int _))).set k (.d h4)
          · rw [wipe_set (hv k (by simp)), wipe_set (hv j (by simp))]
def rLst (K : PySem.W.Frag) : List V → Hp → VK → Prop := fun xs H Q => ∃ p ys, xs = [.ref p] ∧ (SqL K H p ys ∨ SqT K H p ys) ∧ ∀ l, H l = none → Q (.ref l) (upd H l (.lst ys))
theorem cd_listT {ds : List PyData} : CD K (rLst K) [.tuple ds] (.list ds) := fun B H vs x r Q q => by
  cases r with
  | cons r1 r2 =>
    cases r2
    have r1 := r1.dp rfl
    cases r1 with
    | @tup a us _ hs ha => exact ⟨_, _, rfl, .inr (ex_t x hs), fun l nl => q _ (upd B l (.lst us)) _ (Go.new x nl) (.d (.lst (SqL.of upd_same) (dps_ex (Evl.Ex.new (sub_none x nl)) _ _ ha)))⟩
theorem flat_bools : ∀ bs : List Bool, (bs.map V.bl).all flatV = true
  | [] => rfl
  | _ :: bs => (Bool.true_and _).trans (flat_bools bs)
theorem inV_bools : ∀ bs : List Bool, inV (.bl true) (bs.map V.bl) = bs.any id
  | [] => rfl
  | b :: bs => by
    have h := inV_bools bs
    unfold inV at h ⊢
    rw [List.map_cons, List.any_cons, List.any_cons, h]
    cases b <;> rfl
theorem rd_inB {bs : List Bool} : RD K (rIn K false) (.bool true) (.list (bs.map .bool)) (.bool (bs.any id)) := fun B H v w x r1 r2 Q q => by
  cases rt_bool r1
  have r2 := r2.dp rfl
  cases r2 with
  | lst hs ha =>
    have e := bools_dp ha
    refine ⟨_, _, rfl, .inl (ex_l x hs), rfl, by rw [e]; exact flat_bools bs, ?_⟩
    show Q (.bl (inV _ _)) H
    rw [e, inV_bools]
    exact q _ B H (.refl x) (.d (.bl _))
theorem ds_par {i j : Nat} {a b : PyData} {ta : TA} (h : DA K ta G [a, b]) : DS K (tPar i j ta) G (.nx ((G.set i (some a)).set j (some b))) := fun D σ B H x en q =>
  h σ B H x en _ fun vs B1 H1 g1 r1 => by
    cases r1 with
    | cons r1 rr =>
    cases rr with
    | cons r2 rr =>
    cases rr
    exact ⟨_, _, rfl, q _ B1 H1 g1 (((en.ex g1.eb).set i r1).set j r2)⟩
theorem eqv_nil : ∀ ds : List PyData, PyData.eqv (.list ds) (.list []) = ds.isEmpty
  | [] => rfl
  | _ :: _ => rfl
theorem shaped_ints : ∀ ns : List PyData, (∀ d ∈ ns, ∃ i : Int, d = .int i) → SeqAt.shaped (.list ns) = true := by
  intro ns h
  have h1 : PyData.canLayAll0 ns = true := by
    induction ns with
    | nil => rfl
    | cons d ds ih =>
      obtain ⟨i, rfl⟩ := h d (List.mem_cons_self ..)
      simp [PyData.canLayAll0, PyData.canLay0, ih fun d hd => h d (List.mem_cons_of_mem _ hd)]
  have h2 : PyData.depthAll ns ≤ 1 := by
    clear h1
    induction ns with
    | nil => simp [PyData.depthAll]
    | cons d ds ih =>
      obtain ⟨i, rfl⟩ := h d (List.mem_cons_self ..)
      have := ih fun d hd => h d (List.mem_cons_of_mem _ hd)
      simp [PyData.depthAll, PyData.depth]
      omega
  unfold SeqAt.shaped
  simp [PyData.canLay0, h1, PyData.depth]
  omega
end
theorem zip_take {α β : Type} : ∀ (ps : List α) (xs : List β), ps.zip (xs.take ps.length) = ps.zip xs
  | [], _ => by simp
  | _ :: _, [] => by simp
  | p :: ps, x :: xs => by simp [zip_take ps xs]
def Rw_row_fits (n : Nat) : List PyData → PyData → Prop := fun ds o => ∃ (kvs : List (Str × PyData)) (m : Nat) (ps xs : List PyData), ds = [.list ps, .list xs] ∧ FormsOk kvs ∧ (∀ q ∈ ps.zip xs, Fit2 kvs n m q.1 q.2) ∧ ps.length ≤ 9 ∧ o = .bool (rowB (fitN n) ps xs)
def Rw_ltaker : List PyData → PyData → Prop := fun ds o => ∃ (kvs : List (Str × PyData)) (k : Str) (m : Nat) (cs : List (PyData × Str)) (v : PyData), ds = [.list (cs.map clauseD), v] ∧ FormsOk kvs ∧ ClausesOk kvs k cs ∧ OkVal kvs m k v ∧ o = takeN v cs
def Rw_llabel : List PyData → PyData → Prop := fun ds o => ∃ (kvs : List (Str × PyData)) (k : Str) (m : Nat) (cs : List (PyData × Str)) (v : PyData), ds = [.list (cs.map clauseD), v] ∧ FormsOk kvs ∧ ClausesOk kvs k cs ∧ OkVal kvs m k v ∧ o = labN v cs
section
variable {P : Program} {w : World} {K : PySem.W.Frag} {mg : Str → Option Value} {base : Heap} {f : Addr} {fd : FuncData} {G : List (Option PyData)}
theorem sc_lrow_fits : FnScope ["patterns", "cells", "at", "pattern"] ["patterns", "cells"] (defScope s_lrow_fits) := ⟨rfl, rfl, rfl, by decide +kernel, rfl, by decide +kernel, by decide +kernel⟩
theorem ok_lrow_fits {n k : Nat} (F : Fun K "_law_row_fits" "_law_row_fits" s_lrow_fits f fd) (M : Bl mg) (cp : CL P w K mg base k "_law_fits" (Rw_pattern_fits n)) : FnOk P w K mg base CX0 (k + 1) f fd ["patterns", "cells"] (spR K (Rw_row_fits n)) := by
  refine F.ok sc_lrow_fits (spR_len (by rintro _ _ ⟨_, _, _, _, rfl, _⟩; rfl)) (fun cdv A outer s H vs Q E hr h => ?_)
  obtain ⟨B, ds, o, x, r, ⟨kvs, m, ps, xs, rfl, fk, hq, hl, rfl⟩, q⟩ := h
  have hu64 : (A.deeper (envOfC "_law_row_fits" (defScope s_lrow_fits) s.heap.objs.size f cdv)).units + 64 < cLine := by have := hr.un; omega
  have nd := sc_lrow_fits.nd
  refine ⟨_, pss_cons (ps_if (pt_cmpR (op_neD hu64) (pe_callB call_lenR (by rfl) M.len PySem.boot_len (pa_cons (pv 0) pa_nil)) (pe_callB call_lenR (by rfl) M.len PySem.boot_len (pa_cons (pv 1) pa_nil)) (nomark _)) (pss_one (ps_ret pe_bl)) pss_nil)
    (pss_one (ps_ret (pe_cmpR (op_eqD hu64) (pe_lc (own := [("at", 2), ("pattern", 3)]) (g := gTup K 2 (gCons (gName 2) (gCons (gName 3) gNil))) (tt := tNot (tB (tCall (spR K (Rw_pattern_fits n)) [] E0 (tCons (tVar 3) (tCons (tOp (rIxL K) (tVar 1) (tVar 2)) tNil))))) rfl nd (pi_enum (by rfl) M.enum (pa_cons (pv 0) pa_nil)) (blkOk_by (N := ["patterns", "cells", "at", "pattern"]) (sc := defScope s_lrow_fits) (by decide +kernel)) (fun _ _ _ _ _ => pg_tup rfl (pgs_cons (pg_name (i := 2) nd rfl (Or.inl rfl)) (pgs_cons (pg_name (i := 3) nd rfl (Or.inl rfl)) pgs_nil)))
      (fun _ _ _ _ _ => pts_one (pt_not (pt_val (pe_cl cp hr (Nat.le_refl _) (by rfl) (pa_cons (pv 3) (pa_cons (pe_ix (r := rIxL K) ix_list (pv 1) (pv 2) (fun _ _ => rfl)) pa_nil)))))) (fun _ _ _ _ _ => pv 2)) (pe_lst pa_nil) (nomark _)))), ?_⟩
  refine fin_rt ?_ x r q
  show DS K _ [some (.list ps), some (.list xs), none, none] _
  have h0 : DE K (tVar 0) [some (.list ps), some (.list xs), none, none] (.list ps) := de_var rfl
  have h1 : DE K (tVar 1) [some (.list ps), some (.list xs), none, none] (.list xs) := de_var rfl
  unfold rowB
  refine ds_guard (b := !((ps.length : Int) == (xs.length : Int))) (dt_test (de_op (de_cb (da_cons h0 da_nil) cd_lenL) (de_cb (da_cons h1 da_nil) cd_lenL) (rd_ne (sh_int _) (sh_int _) rfl rfl))) (fun z => ds_ret (de_is de_bl (by
    have z : ((ps.length : Int) == (xs.length : Int)) = false := by simpa using z
    rw [z]; rfl))) fun z => ?_
  have z : ((ps.length : Int) == (xs.length : Int)) = true := by simpa using z
  have hlen : ps.length = xs.length := by
    have := eq_of_beq z
    omega
  rw [z]
  have mk : ∀ d ∈ madeG (fun i => !fitN n (ps.getD i .none) (xs.getD i .none)) (fun i => .int (i : Nat)) ps.length, ∃ i : Int, d = .int i := by
    intro d hd
    obtain ⟨i, _, rfl⟩ := List.mem_map.mp hd
    exact ⟨_, rfl⟩
  refine ds_ret (de_is (de_op (de_lc (fun i => !fitN n (ps.getD i .none) (xs.getD i .none)) (fun i => .int (i : Nat)) (di_enum (da_cons h0 da_nil)) (by decide) (fun i hi => ?_) (fun i hi _ => ?_) (fun _ _ _ => rfl) (by omega)) (de_lst da_nil rfl (by decide)) (rd_eq (shaped_ints _ mk) rfl rfl rfl)) ?_)
  · have hx : i < xs.length := by omega
    show DT K _ [some (.list ps), some (.list xs), some (.int i), ps[i]?] _
    rw [getD_at hi, getD_at hx, List.getElem?_eq_getElem hi]
    refine dt_not (dt_B (de_call' (da_cons (de_var rfl) (da_cons (de_op (de_var rfl) (de_var rfl) (rd_ixL (j := i) rfl (List.getElem?_eq_getElem hx))) da_nil)) ⟨kvs, m, ps[i], xs[i], rfl, fk, hq (ps[i], xs[i]) ?_, rfl⟩))
    have hz : i < (ps.zip xs).length := by rw [List.length_zip]; omega
    have : (ps.zip xs)[i] = (ps[i], xs[i]) := List.getElem_zip
    rw [← this]
    exact List.getElem_mem hz
  · show DE K _ [some (.list ps), some (.list xs), some (.int i), ps[i]?] _
    exact de_var rfl
  · rw [eqv_nil]
    congr 1
    have hz := zipAll_range (fitN n) ps xs
    rw [← hlen, Nat.min_self] at hz
    unfold zipAll madeG
    rw [Bool.true_and, List.isEmpty_map]
    have e2 : ((ps.zip xs).all fun q => fitN n q.1 q.2) = (((ps.zip xs).map fun q => fitN n q.1 q.2).all id) := by rw [List.all_map]; rfl
    rw [e2, ← hz, List.all_map, Bool.eq_iff_iff, List.isEmpty_iff, List.filter_eq_nil_iff, List.all_eq_true]
    constructor
    · intro h i hi
      have := h i hi
      simpa using this
    · intro h i hi
      have := h i hi
      simpa using this
end
end FP
namespace FP
open PySem PySem.Spec PyProof.Rows L2 FC FG
open Evl (Ex)
theorem eqv_strs (a b : Str) : (a == b) = (b == a) := by
  by_cases h : a = b
  · subst h
    rfl
  · rw [beq_eq_false_iff_ne.mpr h, beq_eq_false_iff_ne.mpr (Ne.symm h)]
section
variable {P : Program} {w : World} {K : PySem.W.Frag} {mg : Str → Option Value} {base : Heap} {f : Addr} {fd : FuncData} {G : List (Option PyData)}
theorem sc_lfits : FnScope ["pattern", "value", "left", "right", "part"] ["pattern", "value"] (defScope s_lfits) := ⟨rfl, rfl, rfl, by decide +kernel, rfl, by decide +kernel, by decide +kernel⟩
theorem lfits_main {n k : Nat} {R1 R2 : List PyData → PyData → Prop} (F : Fun K "_law_fits" "_law_fits" s_lfits f fd) (M : Bl mg) (c1 : CL P w K mg base k "_law_fits" R1) (c2 : CL P w K mg base k "_law_row_fits" R2)
    (hR : ∀ j, n = j + 1 → R1 = Rw_pattern_fits j ∧ R2 = Rw_row_fits j) : FnOk P w K mg base CX0 (k + 1) f fd ["pattern", "value"] (spR K (Rw_pattern_fits n)) := by
  refine F.ok sc_lfits (spR_len (by rintro _ _ ⟨_, _, _, _, rfl, _⟩; rfl)) (fun cdv A outer s H vs Q E hr h => ?_)
  obtain ⟨B, ds, o, x, r, ⟨kvs, m, p, v, rfl, fk, hf, rfl⟩, q⟩ := h
  have hu64 : (A.deeper (envOfC "_law_fits" (defScope s_lfits) s.heap.objs.size f cdv)).units + 64 < cLine := by have := hr.un; omega
  have nd := sc_lfits.nd
  refine ⟨_, pss_cons (ps_if (pt_cmp (pc_isN (pv 0))) (pss_one (ps_ret pe_bl)) pss_nil)
    (pss_cons (ps_if (pt_cmpR (op_eqD hu64) (pe_ix ix_tup (pv 0) pe_int (fun _ _ => rfl)) pe_str (nomark _)) (pss_one (ps_ret (pe_cmpR op_in_seq pe_bl (pe_lc (own := [("part", 4)]) (g := gName 4) (tt := tYes) rfl nd (pi_list (pe_ix ix_tup (pv 0) pe_int (fun _ _ => rfl))) (blkOk_by (N := ["pattern", "value", "left", "right", "part"]) (sc := defScope s_lfits) (by decide +kernel)) (fun _ _ _ _ _ => pg_name (i := 4) nd rfl (Or.inl rfl)) (fun _ _ _ _ _ => pts_nil)
      (fun _ _ _ _ _ => pe_cl c1 hr (Nat.le_refl _) (by rfl) (pa_cons (pv 4) (pa_cons (pv 1) pa_nil)))) (by rfl)))) pss_nil)
    (pss_cons (ps_if (pt_cmpR (op_eqD hu64) (pe_ix ix_tup (pv 0) pe_int (fun _ _ => rfl)) pe_str (nomark _)) (pss_cons (ps_if (pw_and (pt_cmp (pc_notN (pe_ix ix_tup (pv 0) pe_int (fun _ _ => rfl)))) (pw_and1 (pt_cmpR op_lt (pv 1) (pe_ix ix_tup (pv 0) pe_int (fun _ _ => rfl)) (nomark _)))).pt (pss_one (ps_ret pe_bl)) pss_nil)
      (pss_one (ps_ret (pe_or (pe_cmp (pc_isN (pe_ix ix_tup (pv 0) pe_int (fun _ _ => rfl)))) (pe_one (pe_cmpR op_le (pv 1) (pe_ix ix_tup (pv 0) pe_int (fun _ _ => rfl)) (nomark _))))))) pss_nil)
    (pss_cons (ps_if (pt_cmpR (op_eqD hu64) (pe_ix ix_tup (pv 0) pe_int (fun _ _ => rfl)) pe_str (nomark _)) (pss_one (ps_ret (pe_cmpR (op_eqD hu64) (pv 1) (pe_ix ix_tup (pv 0) pe_int (fun _ _ => rfl)) (nomark _)))) pss_nil)
    (pss_cons (ps_if (pt_cmpR (op_eqD hu64) (pe_ix ix_tup (pv 0) pe_int (fun _ _ => rfl)) pe_str (nomark _)) (pss_one (ps_ret (pe_and (pe_cmpR (op_eqD hu64) (pe_ix ix_tup (pv 1) pe_int (fun _ _ => rfl)) (pe_ix ix_tup (pv 0) pe_int (fun _ _ => rfl)) (nomark _)) (pe_one (pe_cl c2 hr (Nat.le_refl _) (by rfl) (pa_cons (pe_ix ix_tup (pv 0) pe_int (fun _ _ => rfl)) (pa_cons (pe_callTy (r := rLst K) call_list_of (by rfl) M.list PyProof.Rows.boot_list (pa_cons (pe_slice sl_tup (pv 1) (po_some pe_int) po_none) pa_nil)) pa_nil))))))) pss_nil)
    (pss_cons (ps_if (pt_cmpR (op_eqD hu64) (pe_ix ix_tup (pv 0) pe_int (fun _ _ => rfl)) pe_str (nomark _)) (pss_one (ps_ret (pe_cl c2 hr (Nat.le_refl _) (by rfl) (pa_cons (pe_ix ix_tup (pv 0) pe_int (fun _ _ => rfl)) (pa_cons (pv 1) pa_nil))))) pss_nil)
    (pss_cons (ps_par (i := 2) (j := 3) (by rfl) nd rfl rfl (by decide) rfl rfl (pa_cons (pe_callB call_lenR (by rfl) M.len PySem.boot_len (pa_cons (pe_ix ix_tup (pv 0) pe_int (fun _ _ => rfl)) pa_nil)) (pa_cons (pe_callB call_lenR (by rfl) M.len PySem.boot_len (pa_cons (pe_ix ix_tup (pv 0) pe_int (fun _ _ => rfl)) pa_nil)) pa_nil)) (by rfl))
    (pss_cons (ps_if (pt_cmpR op_lt (pe_callB call_lenR (by rfl) M.len PySem.boot_len (pa_cons (pv 1) pa_nil)) (pe_op op_add (pv 2) (pv 3)) (nomark _)) (pss_one (ps_ret pe_bl)) pss_nil)
    (pss_one (ps_ret (pe_and (pe_cl c2 hr (Nat.le_refl _) (by rfl) (pa_cons (pe_ix ix_tup (pv 0) pe_int (fun _ _ => rfl)) (pa_cons (pe_slice sl_list (pv 1) po_none (po_some (pv 2))) pa_nil)))
      (pe_one (pe_cl c2 hr (Nat.le_refl _) (by rfl) (pa_cons (pe_ix ix_tup (pv 0) pe_int (fun _ _ => rfl)) (pa_cons (pe_slice sl_list (pv 1) (po_some (pe_op op_sub (pe_callB call_lenR (by rfl) M.len PySem.boot_len (pa_cons (pv 1) pa_nil)) (pv 3))) po_none) pa_nil)))))))))))))), ?_⟩
  refine fin_rt ?_ x r q
  show DS K _ [some p, some v, none, none, none] _
  have h1 : ∀ {p v : PyData} {a b}, DE K (tVar 1) [some p, some v, a, b, none] v := de_var rfl
  cases meet_of fk hf with
  | any =>
    rw [fitN_any]
    exact ds_guard (b := true) (dt_is (dt_B (de_isN (de_var rfl))) rfl) (fun _ => ds_ret de_bl) (fun z => nomatch z)
  | @or j ps _ few m h =>
    obtain ⟨rfl, rfl⟩ := hR j rfl
    have h0 : DE K (tVar 0) [some (orD ps), some v, none, none, none] (.tuple [.str "or", .list ps]) := de_var rfl
    rw [fitN_or]
    refine ds_guard (b := false) (dt_is (dt_B (de_isN h0)) rfl) (fun z => nomatch z) fun _ => ?_
    refine ds_guard (b := true) (dt_is (dt_head h0) (by decide +kernel)) (fun _ => ds_ret ?_) (fun z => nomatch z)
    refine de_is (de_op de_bl (de_is (de_lc (fun _ => true) (fun i => .bool (fitN j (ps.getD i .none) v)) (di_list (ds := ps) (de_at (j := 1) h0 rfl rfl)) (by decide) (fun _ _ => dt_yes) (fun i hi _ => ?_) (fun _ _ _ => rfl) (by omega)) (congrArg PyData.list (madeG_bools (fun i => fitN j (ps.getD i .none) v) _))) rd_inB) ?_
    · show DE K _ [some (orD ps), some v, none, none, ps[i]?] _
      rw [getD_at hi, List.getElem?_eq_getElem hi]
      exact de_call' (da_cons (de_var rfl) (da_cons (de_var rfl) da_nil)) ⟨kvs, m, ps[i], v, rfl, fk, h _ (List.getElem_mem hi), rfl⟩
    · rw [range_map PyData.none (fun p => fitN j p v), List.any_map]
      rfl
  | @range _ a b i ha hb =>
    have h0 : DE K (tVar 0) [some (fromD a b), some (.int i), none, none, none] (.tuple [.str "from", a, b]) := de_var rfl
    rw [fitN_from n ha hb]
    refine ds_guard (b := false) (dt_is (dt_B (de_isN h0)) rfl) (fun z => nomatch z) fun _ => ?_
    refine ds_guard (b := false) (dt_is (dt_head h0) (by decide +kernel)) (fun z => nomatch z) fun _ => ?_
    refine ds_guard (b := true) (dt_is (dt_head h0) (by decide +kernel)) (fun _ => ?_) (fun z => nomatch z)
    have hlo : DT K (tAnd (tB (tNotN (tOp (rIxT K) (tVar 0) (tC (.int 1))))) (tTest (tOp (rI0 fun i j => .bl (decide (i < j))) (tVar 1) (tOp (rIxT K) (tVar 0) (tC (.int 1)))))) [some (fromD a b), some (.int i), none, none, none] (!loB a (.int i)) := by
      cases a with
      | none => exact dt_is (dt_and (c := true) (dt_B (de_notN (de_at (j := 1) h0 rfl rfl))) (fun z => nomatch z)) rfl
      | int a =>
        refine dt_is (dt_and (dt_B (de_notN (de_at (j := 1) h0 rfl rfl))) fun _ => dt_test (de_op h1 (de_at (j := 1) h0 rfl rfl) rd_lt)) ?_
        show (true && decide (i < a)) = !decide (a ≤ i)
        by_cases h : i < a
        · rw [decide_eq_true h, decide_eq_false (by omega)]; rfl
        · rw [decide_eq_false h, decide_eq_true (by omega)]; rfl
      | _ => cases ha
    refine ds_guard hlo (fun z => ds_ret (de_is de_bl (by
      have z : loB a (.int i) = false := by simpa using z
      rw [z]; rfl))) fun z => ds_ret ?_
    have z : loB a (.int i) = true := by simpa using z
    rw [z]
    cases b with
    | none => exact de_is (de_or (c := true) (de_isN (de_at (j := 2) h0 rfl rfl)) (fun z => nomatch z)) rfl
    | int b => exact de_is (de_or (de_isN (de_at (j := 2) h0 rfl rfl)) fun _ => de_op h1 (de_at (j := 2) h0 rfl rfl) rd_le) rfl
    | _ => cases hb
  | @word _ wd xd hw hx =>
    have h0 : DE K (tVar 0) [some (wordD wd), some (.str xd), none, none, none] (.tuple [.str "word", .str wd]) := de_var rfl
    rw [fitN_word]
    refine ds_guard (b := false) (dt_is (dt_B (de_isN h0)) rfl) (fun z => nomatch z) fun _ => ?_
    refine ds_guard (b := false) (dt_is (dt_head h0) (by decide +kernel)) (fun z => nomatch z) fun _ => ?_
    refine ds_guard (b := false) (dt_is (dt_head h0) (by decide +kernel)) (fun z => nomatch z) fun _ => ?_
    refine ds_guard (b := true) (dt_is (dt_head h0) (by decide +kernel)) (fun _ => ds_ret ?_) (fun z => nomatch z)
    rw [eqv_strs]
    exact de_op h1 (de_at (j := 1) h0 rfl rfl) (rd_eq (sh_str hx) (sh_str hw) rfl rfl)
  | @maker j a b ps xs ha hb few m h =>
    obtain ⟨rfl, rfl⟩ := hR j rfl
    have h0 : DE K (tVar 0) [some (mkrD a ps), some (.tuple (.str b :: xs)), none, none, none] (.tuple [.str "maker", .str a, .list ps]) := de_var rfl
    rw [fitN_maker]
    refine ds_guard (b := false) (dt_is (dt_B (de_isN h0)) rfl) (fun z => nomatch z) fun _ => ?_
    refine ds_guard (b := false) (dt_is (dt_head h0) (by decide +kernel)) (fun z => nomatch z) fun _ => ?_
    refine ds_guard (b := false) (dt_is (dt_head h0) (by decide +kernel)) (fun z => nomatch z) fun _ => ?_
    refine ds_guard (b := false) (dt_is (dt_head h0) (by decide +kernel)) (fun z => nomatch z) fun _ => ?_
    refine ds_guard (b := true) (dt_is (dt_head h0) (by decide +kernel)) (fun _ => ds_ret ?_) (fun z => nomatch z)
    rw [eqv_strs]
    refine de_and (de_op (de_at (j := 0) h1 rfl rfl) (de_at (j := 1) h0 rfl rfl) (rd_eq (sh_str hb) (sh_str ha) rfl rfl)) fun e => ?_
    have e : a = b := (eq_of_beq e).symm
    have hz : rowB (fitN j) ps xs = zipAll (fitN j) ps xs := by
      unfold rowB
      rw [(h e).1, beq_self_eq_true]
      rfl
    exact de_is (de_call' (da_cons (de_at (j := 2) h0 rfl rfl) (da_cons (de_cb (da_cons (de_tail h1) da_nil) cd_listT) da_nil)) ⟨kvs, m, ps, xs, rfl, fk, (h e).2, few, rfl⟩) (congrArg PyData.bool hz)
  | @row j ps xs few m h =>
    obtain ⟨rfl, rfl⟩ := hR j rfl
    have h0 : DE K (tVar 0) [some (rowD ps), some (.list xs), none, none, none] (.tuple [.str "row", .list ps]) := de_var rfl
    rw [fitN_row]
    refine ds_guard (b := false) (dt_is (dt_B (de_isN h0)) rfl) (fun z => nomatch z) fun _ => ?_
    refine ds_guard (b := false) (dt_is (dt_head h0) (by decide +kernel)) (fun z => nomatch z) fun _ => ?_
    refine ds_guard (b := false) (dt_is (dt_head h0) (by decide +kernel)) (fun z => nomatch z) fun _ => ?_
    refine ds_guard (b := false) (dt_is (dt_head h0) (by decide +kernel)) (fun z => nomatch z) fun _ => ?_
    refine ds_guard (b := false) (dt_is (dt_head h0) (by decide +kernel)) (fun z => nomatch z) fun _ => ?_
    refine ds_guard (b := true) (dt_is (dt_head h0) (by decide +kernel)) (fun _ => ds_ret ?_) (fun z => nomatch z)
    exact de_call' (da_cons (de_at (j := 1) h0 rfl rfl) (da_cons h1 da_nil)) ⟨kvs, m, ps, xs, rfl, fk, fun q hq => h _ (List.of_mem_zip hq).1 _ (List.of_mem_zip hq).2, few, rfl⟩
  | @gap j ps qs xs few m h =>
    obtain ⟨rfl, rfl⟩ := hR j rfl
    have h0 : ∀ {a b}, DE K (tVar 0) [some (gapD ps qs), some (.list xs), a, b, none] (.tuple [.str "gap", .list ps, .list qs]) := de_var rfl
    rw [fitN_gap]
    refine ds_guard (b := false) (dt_is (dt_B (de_isN h0)) rfl) (fun z => nomatch z) fun _ => ?_
    refine ds_guard (b := false) (dt_is (dt_head h0) (by decide +kernel)) (fun z => nomatch z) fun _ => ?_
    refine ds_guard (b := false) (dt_is (dt_head h0) (by decide +kernel)) (fun z => nomatch z) fun _ => ?_
    refine ds_guard (b := false) (dt_is (dt_head h0) (by decide +kernel)) (fun z => nomatch z) fun _ => ?_
    refine ds_guard (b := false) (dt_is (dt_head h0) (by decide +kernel)) (fun z => nomatch z) fun _ => ?_
    refine ds_guard (b := false) (dt_is (dt_head h0) (by decide +kernel)) (fun z => nomatch z) fun _ => ?_
    refine ds_seq (ds_par (da_cons (de_cb (da_cons (de_at (j := 1) h0 rfl rfl) da_nil) cd_lenL) (da_cons (de_cb (da_cons (de_at (j := 2) h0 rfl rfl) da_nil) cd_lenL) da_nil))) ?_
    show DS K _ [some (gapD ps qs), some (.list xs), some (.int (ps.length : Nat)), some (.int (qs.length : Nat)), none] _
    have h2 : DE K (tVar 2) [some (gapD ps qs), some (.list xs), some (.int (ps.length : Nat)), some (.int (qs.length : Nat)), none] (.int (ps.length : Nat)) := de_var rfl
    have h3 : DE K (tVar 3) [some (gapD ps qs), some (.list xs), some (.int (ps.length : Nat)), some (.int (qs.length : Nat)), none] (.int (qs.length : Nat)) := de_var rfl
    unfold gapB
    refine ds_guard (b := decide ((xs.length : Int) < (ps.length : Int) + (qs.length : Int))) (dt_test (de_op (de_cb (da_cons h1 da_nil) cd_lenL) (de_op h2 h3 rd_add) rd_lt)) (fun z => ds_ret (de_is de_bl (by rw [z]; rfl))) fun z => ds_ret ?_
    rw [z]
    have hle : ¬ ((xs.length : Int) < (ps.length : Int) + (qs.length : Int)) := of_decide_eq_false z
    have e1 : rowB (fitN j) ps (xs.take ps.length) = zipAll (fitN j) ps xs := by
      unfold rowB zipAll
      rw [List.length_take, Nat.min_eq_left (by omega), beq_self_eq_true, zip_take]
      rfl
    have e2 : rowB (fitN j) qs (xs.drop (xs.length - qs.length)) = zipAll (fitN j) qs (xs.drop (xs.length - qs.length)) := by
      unfold rowB
      rw [List.length_drop, show xs.length - (xs.length - qs.length) = qs.length by omega, beq_self_eq_true]
      rfl
    refine de_is (de_and (de_call' (da_cons (de_at (j := 1) h0 rfl rfl) (da_cons (de_ofX (de_to h1 h2 rfl)) da_nil)) ⟨kvs, m, ps, xs.take ps.length, rfl, fk, fun q hz => ?_, by omega, rfl⟩) fun _ => de_call' (da_cons (de_at (j := 2) h0 rfl rfl) (da_cons (de_ofX (de_from (n := xs.length - qs.length) h1 (de_op (de_cb (da_cons h1 da_nil) cd_lenL) h3 rd_sub) (by omega) (by omega))) da_nil)) ⟨kvs, m, qs, xs.drop (xs.length - qs.length), rfl, fk, fun q hz => ?_, by omega, rfl⟩) ?_
    · exact h _ (List.mem_append_left _ (List.of_mem_zip hz).1) _ (List.mem_of_mem_take (List.of_mem_zip hz).2)
    · exact h _ (List.mem_append_right _ (List.of_mem_zip hz).1) _ (List.mem_of_mem_drop (List.of_mem_zip hz).2)
    · rw [e1, e2]
      rfl
theorem ok_lfits {fr : Addr} {fdr : FuncData} (F : Fun K "_law_fits" "_law_fits" s_lfits f fd) (Fr : Fun K "_law_row_fits" "_law_row_fits" s_lrow_fits fr fdr) (M : Bl mg) (mf : mg "_law_fits" = some (.ref f)) (mr : mg "_law_row_fits" = some (.ref fr)) :
    ∀ n, FnOk P w K mg base CX0 (2 * n + 1) f fd ["pattern", "value"] (spR K (Rw_pattern_fits n)) := by
  have b1 : Binds K fd ["pattern", "value"] [] := F.binds (ps := ["pattern", "value"]) fun _ _ _ _ _ _ us hl => match us, hl with | [_, _], _ => rfl
  have b2 : Binds K fdr ["patterns", "cells"] [] := Fr.binds (ps := ["patterns", "cells"]) fun _ _ _ _ _ _ us hl => match us, hl with | [_, _], _ => rfl
  intro n
  induction n with
  | zero => exact lfits_main (R1 := fun _ _ => False) (R2 := fun _ _ => False) F M ⟨f, fd, _, fnok_false, mf, F.kp, b1⟩ ⟨fr, fdr, _, fnok_false, mr, Fr.kp, b2⟩ fun j z => nomatch z
  | succ n ih =>
    have c1 : CL P w K mg base (2 * n + 1) "_law_fits" (Rw_pattern_fits n) := ⟨f, fd, _, ih, mf, F.kp, b1⟩
    have c2 : CL P w K mg base (2 * n + 2) "_law_row_fits" (Rw_row_fits n) := ⟨fr, fdr, _, ok_lrow_fits Fr M c1, mr, Fr.kp, b2⟩
    exact lfits_main (k := 2 * n + 2) F M (cl_mono c1 (by omega)) c2 fun j z => by cases z; exact ⟨rfl, rfl⟩
end
end FP
namespace FP
open PySem PySem.Spec PyProof.Rows L2 FC FG
open Evl (Ex)
section
variable {P : Program} {w : World} {K : PySem.W.Frag} {mg : Str → Option Value} {base : Heap} {f : Addr} {fd : FuncData} {G : List (Option PyData)}
theorem sc_ltaker : FnScope ["clauses", "value", "at", "clause"] ["clauses", "value"] (defScope s_ltaker) := ⟨rfl, rfl, rfl, by decide +kernel, rfl, by decide +kernel, by decide +kernel⟩
theorem ok_ltaker (F : Fun K "_law_taker" "_law_taker" s_ltaker f fd) (M : Bl mg) (cp : CL P w K mg base 5 "_law_fits" (Rw_pattern_fits 2)) : FnOk P w K mg base CX0 6 f fd ["clauses", "value"] (spR K Rw_ltaker) := by
  refine F.ok sc_ltaker (spR_len (by rintro _ _ ⟨_, _, _, _, _, rfl, _⟩; rfl)) (fun cdv A outer s H vs Q E hr h => ?_)
  obtain ⟨B, ds, o, x, r, ⟨kvs, kk, m0, cs, v, rfl, fk, hc, hv, rfl⟩, q⟩ := h
  have nd := sc_ltaker.nd
  refine ⟨_, pss_cons (ps_for PassesOwn.never rfl (pi_enum (by rfl) M.enum (pa_cons (pv 0) pa_nil)) (pg_tup rfl (pgs_cons (pg_name (i := 2) nd rfl (.inl rfl)) (pgs_cons (pg_name (i := 3) nd rfl (.inl rfl)) pgs_nil)))
      (pss_one (ps_if (pt_val (pe_cl cp hr (by decide) (by rfl) (pa_cons (pe_ix ix_tup (pv 3) pe_int (fun _ _ => rfl)) (pa_cons (pv 1) pa_nil)))) (pss_one (ps_ret (pv 2))) pss_nil)))
    (pss_one (ps_ret pe_non)), ?_⟩
  refine fin_rt ?_ x r q
  show DS K _ [some (.list (cs.map clauseD)), some v, none, none] _
  have di := di_enum (K := K) (j := 2) (k := 3) (G := [some (.list (cs.map clauseD)), some v, none, none]) (ta := tCons (tVar 0) tNil) (ds := cs.map clauseD) (da_cons (de_var rfl) da_nil)
  have hpl : (cs.map clauseD).length = cs.length := List.length_map _
  let Gs : Nat → List (Option PyData) := fun m => match m with
    | 0 => [some (.list (cs.map clauseD)), some v, none, none]
    | m + 1 => [some (.list (cs.map clauseD)), some v, some (.int m), (cs.map clauseD)[m]?]
  have st : ∀ m (hm : m < cs.length), ((Gs m).set 2 (some (.int m))).set 3 (cs.map clauseD)[m]? = [some (.list (cs.map clauseD)), some v, some (.int m), some (clauseD cs[m])] := by
    intro m hm
    rw [get_map hm]
    cases m <;> rfl
  have test : ∀ m (hm : m < cs.length), DT K (tB (tCall (spR K (Rw_pattern_fits 2)) [] E0 (tCons (tOp (rIxT K) (tVar 3) (tC (.int 0))) (tCons (tVar 1) tNil)))) [some (.list (cs.map clauseD)), some v, some (.int m), some (clauseD cs[m])] (fitN 2 cs[m].1 v) := by
    intro m hm
    exact dt_B (de_call' (da_cons (de_at (j := 0) (de_var (d := .tuple [cs[m].1, .str cs[m].2]) rfl) rfl rfl) (da_cons (de_var rfl) da_nil)) ⟨kvs, m0, _, v, rfl, fk, ⟨kk, hc.pat _ (List.getElem_mem hm), hv⟩, rfl⟩)
  have go : ∀ m (hm : m < cs.length), fitN 2 cs[m].1 v = false → DS K (tIfS (tB (tCall (spR K (Rw_pattern_fits 2)) [] E0 (tCons (tOp (rIxT K) (tVar 3) (tC (.int 0))) (tCons (tVar 1) tNil)))) (tRet (tVar 2)) tNext) (((Gs m).set 2 (some (.int m))).set 3 (cs.map clauseD)[m]?) (.nx (Gs (m + 1))) := by
    intro m hm hf
    rw [st m hm]
    refine ds_is (ds_if (b := false) (dt_is (test m hm) hf) (fun z => nomatch z) fun _ => ds_next) ?_
    show Out.nx _ = Out.nx [some (.list (cs.map clauseD)), some v, some (.int m), (cs.map clauseD)[m]?]
    rw [get_map hm]
  unfold takeN
  cases ht : cs.findIdx? fun c => fitN 2 c.1 v with
  | some m =>
    obtain ⟨hml, hfit, hbef⟩ := List.findIdx?_eq_some_iff_getElem.mp ht
    refine ds_seqR (ds_forR m Gs di (by rw [hpl]; exact hml) rfl (fun j hj => ?_) ?_)
    · have hjl : j < cs.length := Nat.lt_trans hj hml
      exact go j hjl (Bool.eq_false_iff.mpr (hbef j hj))
    · rw [st m hml]
      exact ds_if (b := true) (dt_is (test m hml) hfit) (fun _ => ds_ret (de_var rfl)) (fun z => nomatch z)
  | none =>
    have hall := List.findIdx?_eq_none_iff.mp ht
    refine ds_seq (ds_for Gs di rfl fun j hj => ?_) (ds_ret de_non)
    rw [hpl] at hj
    exact go j hj (hall _ (List.getElem_mem hj))
theorem sc_llabel : FnScope ["clauses", "value", "at"] ["clauses", "value"] (defScope s_llabel) := ⟨rfl, rfl, rfl, by decide +kernel, rfl, by decide +kernel, by decide +kernel⟩
theorem ok_llabel (F : Fun K "_law_label" "_law_label" s_llabel f fd) (c1 : CL P w K mg base 6 "_law_taker" Rw_ltaker) : FnOk P w K mg base CX0 7 f fd ["clauses", "value"] (spR K Rw_llabel) := by
  refine F.ok sc_llabel (spR_len (by rintro _ _ ⟨_, _, _, _, _, rfl, _⟩; rfl)) (fun cdv A outer s H vs Q E hr h => ?_)
  obtain ⟨B, ds, o, x, r, ⟨kvs, k, m, cs, v, rfl, fk, hc, hv, rfl⟩, q⟩ := h
  refine ⟨_, pss_cons (ps_set (i := 2) sc_llabel.nd rfl (Or.inl rfl) (pe_cl c1 hr (by decide) (by rfl) (pa_cons (pv 0) (pa_cons (pv 1) pa_nil))))
    (pss_one (ps_ret (pe_ifExp (pt_cmp (pc_isN (pv 2))) pe_non (pe_ix ix_tup (pe_ix ix_list (pv 0) (pv 2) (fun _ _ => rfl)) pe_int (fun _ _ => rfl))))), ?_⟩
  refine fin_rt ?_ x r q
  show DS K _ [some (.list (cs.map clauseD)), some v, none] _
  refine ds_seq (ds_set (de_call' (da_cons (de_var rfl) (da_cons (de_var rfl) da_nil)) ⟨kvs, k, m, cs, v, rfl, fk, hc, hv, rfl⟩)) ?_
  show DS K _ [some (.list (cs.map clauseD)), some v, some (takeN v cs)] _
  unfold takeN labN
  cases ht : cs.findIdx? fun c => fitN 2 c.1 v with
  | some j =>
    obtain ⟨hj, _, _⟩ := List.findIdx?_eq_some_iff_getElem.mp ht
    refine ds_ret (de_if (b := false) (dt_is (dt_B (de_isN (de_var rfl))) rfl) (fun z => nomatch z) fun _ => ?_)
    have e : (cs.map clauseD)[j]? = some (clauseD (cs.getD j (.none, Str.empty))) := by rw [get_map hj, getD_at hj]
    exact de_op (de_op (de_var rfl) (de_var rfl) (rd_ixL (j := j) rfl e)) de_int (rd_ixT (j := 1) rfl rfl)
  | none => exact ds_ret (de_if (b := true) (dt_is (dt_B (de_isN (de_var rfl))) rfl) (fun _ => de_non) fun z => nomatch z)
end
end FP
namespace FP
open PySem PySem.Spec PyProof.Rows L2 FC FG
open Evl (Ex)
/-! ### repr where nothing is guarded around -/
mutual
theorem dp_nodict {K : PySem.W.Frag} {H : Hp} : ∀ (d : PyData) (v : V), Dp K H v d → d.hasDict = false
  | .none, _, _ => rfl
  | .bool b, _, _ => rfl
  | .int i, _, _ => rfl
  | .str s, _, _ => rfl
  | .list ds, _, h => by
    cases h with
    | lst hs ha => simp only [PyData.hasDict]; exact dps_nodict ds _ ha
  | .tuple ds, _, h => by
    cases h with
    | tup hs ha => simp only [PyData.hasDict]; exact dps_nodict ds _ ha
  | .dict _, _, h => by cases h
theorem dps_nodict {K : PySem.W.Frag} {H : Hp} : ∀ (ds : List PyData) (vs : List V), DpAll K H vs ds → PyData.hasDictAll ds = false
  | [], _, _ => rfl
  | d :: ds, _, h => by
    cases h with
    | cons h1 h2 => simp only [PyData.hasDictAll, dp_nodict d _ h1, dps_nodict ds _ h2, Bool.or_false]
end
def keysP (kvs : List (Str × PyData)) : List PyData := kvs.map fun q => .str q.1
def valsP (kvs : List (Str × PyData)) : List PyData := kvs.map (·.2)
theorem body_fst (kvs : List (Str × PyData)) : (bodyOf kvs).map (·.1) = keysP kvs := by
  unfold bodyOf keysP
  rw [List.map_map]
  rfl
theorem body_snd (kvs : List (Str × PyData)) : (bodyOf kvs).map (·.2) = valsP kvs := by
  unfold bodyOf valsP
  rw [List.map_map]
  rfl
theorem keys_nodict : ∀ kvs : List (Str × PyData), PyData.hasDictAll (keysP kvs) = false
  | [] => rfl
  | q :: kvs => by
    show PyData.hasDictAll (.str q.1 :: keysP kvs) = false
    simp only [PyData.hasDictAll, PyData.hasDict, keys_nodict kvs, Bool.or_false]
section
variable {X : Cx} {pins : List (Addr × Obj)} {σ : L2.St} {H : Hp} {s : Shared}
theorem kr_reads (I : Inv X pins σ H s) : ∀ {ks : List (Key × V)} {kvs : List (Str × PyData)} {vs : List (Key × Value)} {es : List DictEntry}, KR X.K H ks kvs → KV ks vs → Pairs (mixKind X.prog X.w) es vs →
    (∃ as, ReadsAll s.heap (es.map (·.key)) (keysP kvs) as) ∧ (∃ bs, ReadsAll s.heap (es.map (·.val)) (valsP kvs) bs) ∧ PyData.hasDictAll (valsP kvs) = false
  | _, _, _, _, .nil, .nil, .nil => ⟨⟨_, .nil⟩, ⟨_, .nil⟩, rfl⟩
  | _, _, _, _, .cons (a := p) (b := q) r t, .cons rv tv, .cons a1 a2 a3 => by
    obtain ⟨⟨as, h1⟩, ⟨bs, h2⟩, h3⟩ := kr_reads I t tv a3
    obtain ⟨r1, r2⟩ := r
    obtain ⟨e1, e2⟩ := rv
    obtain ⟨cs, q1⟩ := Dp.reads I _ _ _ r2 e2
    refine ⟨?_, ?_, ?_⟩
    · rcases keyIs_shape (show keyIs _ _ = true from a1) with ⟨i, t, z, _⟩ | ⟨y, t, z, z2⟩
      · rw [← e1, r1] at z
        cases z
      · rw [← e1, r1] at z
        cases z
        refine ⟨[] ++ as, ?_⟩
        rw [List.map_cons, z2]
        exact ReadsAll.cons (.str _ _) h1
    · refine ⟨cs ++ bs, ?_⟩
      rw [List.map_cons, a2]
      exact ReadsAll.cons q1 h2
    · show PyData.hasDictAll (_ :: valsP _) = false
      simp only [PyData.hasDictAll, dp_nodict _ _ r2, h3, Bool.or_false]
theorem dict_repr (I : Inv X pins σ H s) {a : Addr} {ks : List (Key × V)} {kvs : List (Str × PyData)} (e : H a = some (.dK ks)) (kr : KR X.K H ks kvs) (hs : (PyData.dict (bodyOf kvs)).showable = true) (hz : (PyData.dict (bodyOf kvs)).shown.length ≤ sizeLine) :
    ∃ as bs, Reads s.heap (.ref a) (.dict (bodyOf kvs)) as ∧ ReadAtMost s.heap (PyData.dict (bodyOf kvs)).depth bs ∧ ReprK X.prog X.w bs s.heap (PyData.dict (bodyOf kvs)).depth (.ref a) (PyData.dict (bodyOf kvs)).shown := by
  obtain ⟨_, hsm, vs, kv, o, es, ep, h1, h2, h3, h4, h5, h6⟩ := (show ObjOk X.prog X.w H s.heap a (.dK ks) from I.hok a _ e)
  obtain ⟨⟨as, ra⟩, ⟨bs, rb⟩, nd⟩ := kr_reads I kr kv h5
  rw [← body_fst] at ra
  rw [← body_snd] at rb
  have hz' : (dictText (PyData.shownKv (bodyOf kvs))).length ≤ sizeLine := by simpa only [PyData.shown] using hz
  obtain ⟨hs1, hs2⟩ := PyData.showableKv_split (bodyOf kvs) (by simpa [PyData.showable] using hs)
  obtain ⟨b1, hb1, k1⟩ := ReprAllK.of_readsAll (prog := X.prog) (w := X.w) ra hs1 (fun z => by rw [body_fst, keys_nodict] at z; cases z) (fun t ht => let ⟨p, hp, hl⟩ := PyData.shownKv_key_le _ t ht; Nat.le_trans hl (Nat.le_trans (dictText_mem_le hp) hz'))
  obtain ⟨b2, hb2, k2⟩ := ReprAllK.of_readsAll (prog := X.prog) (w := X.w) rb hs2 (fun z => by rw [body_snd, nd] at z; cases z) (fun t ht => let ⟨p, hp, hl⟩ := PyData.shownKv_val_le _ t ht; Nat.le_trans hl (Nat.le_trans (dictText_mem_le hp) hz'))
  have r : Reads s.heap (.ref a) (.dict (bodyOf kvs)) _ := .dict h1 h2.1 h3 ra rb
  have hb : ReadAtMost s.heap (PyData.depthKv (bodyOf kvs)) (b1 ++ b2) := (hb1.mono (PyData.depthAll_keys_le _)).append (hb2.mono (PyData.depthAll_vals_le _))
  have hna : a ∉ b1 ++ b2 := not_mem_of_deeper r (by simp only [PyData.depth]; omega) hb
  refine ⟨_, a :: (b1 ++ b2), r, ReadAtMost.cons r (by simp only [PyData.depth]; omega) hb, ?_⟩
  simp only [PyData.depth, PyData.shown, PyData.shownKv_eq]
  exact ReprK.dict h1 h2.1 h3 hsm hna (ReprEntriesK.of_two es.toList _ _
    (k1.more_le (fun b hb => List.mem_append_left _ hb) (PyData.depthAll_keys_le _)) (k2.more_le (fun b hb => List.mem_append_right _ hb) (PyData.depthAll_vals_le _)))
end
/-- the list that the law notes -/
def noteD (kvs : List (Str × PyData)) (d e : PyData) : PyData := .list [.dict (bodyOf kvs), d, e]
structure Shows (d : PyData) : Prop where
  sh : d.showable = true
  dp : d.depth ≤ 40
  ln : d.shown.length ≤ sizeLine
def rReprT (K : PySem.W.Frag) : List V → Hp → VK → Prop := fun xs H Q => ∃ (p a : Addr) (ks : List (Key × V)) (kvs : List (Str × PyData)) (v w : V) (d e : PyData), xs = [.ref p] ∧ H p = some (.lst [.ref a, v, w]) ∧ H a = some (.dK ks) ∧ KR K H ks kvs ∧ Dp K H v d ∧ Dp K H w e ∧ Shows (noteD kvs d e) ∧ Q (.str (noteD kvs d e).shown) H
theorem vals3 {a b c : V} {us : List Value} (h : Vals [a, b, c] us) : ∃ u1 u2 u3, us = [u1, u2, u3] ∧ RelV a u1 ∧ RelV b u2 ∧ RelV c u3 := by
  cases h with
  | cons r1 h =>
  cases h with
  | cons r2 h =>
  cases h with
  | cons r3 h =>
  cases h
  exact ⟨_, _, _, rfl, r1, r2, r3⟩
theorem call_reprT {X : Cx} (hg : X.A.guards = some []) (hu : X.A.units + 64 < cLine) : CallR X (.builtin "repr") (rReprT X.K) := by
  intro pins s σ H xs us Q I r h
  obtain ⟨p, a, ks, kvs, v, w, d, e, rfl, hp, ha, kr, hd, he, sm, q⟩ := h
  cases r with
  | cons rx rr =>
    cases rr
    cases rx
    obtain ⟨_, its, n, rv, ho⟩ := (show ObjOk X.prog X.w H s.heap p (.lst [.ref a, v, w]) from I.hok p _ hp)
    obtain ⟨u1, u2, u3, rfl, r1, r2, r3⟩ := vals3 rv
    obtain rfl : u1 = Value.ref a := r1
    have hs := sm.sh
    have hz := sm.ln
    have hdp := sm.dp
    unfold noteD at hs hz hdp
    simp only [PyData.showable, PyData.showableAll, Bool.and_eq_true] at hs
    have hz' : (listText (PyData.shownAll [.dict (bodyOf kvs), d, e])).length ≤ sizeLine := by simpa only [PyData.shown] using hz
    have hmem : ∀ t ∈ PyData.shownAll [.dict (bodyOf kvs), d, e], t.length ≤ sizeLine := fun t ht => Nat.le_trans (listText_mem_le ht) hz'
    obtain ⟨as1, b1, ra1, hb1, k1⟩ := dict_repr I ha kr (by simpa [PyData.showable] using hs.1) (hmem _ (by simp only [PyData.shownAll]; exact List.mem_cons_self ..))
    obtain ⟨as2, ra2⟩ := Dp.reads I d v u2 hd r2
    obtain ⟨as3, ra3⟩ := Dp.reads I e w u3 he r3
    have rest : ReadsAll s.heap [u2, u3] [d, e] _ := .cons ra2 (.cons ra3 .nil)
    obtain ⟨b2, hb2, k2⟩ := ReprAllK.of_readsAll (prog := X.prog) (w := X.w) rest (by simp only [PyData.showableAll, Bool.and_eq_true]; exact ⟨hs.2.1, hs.2.2.1, trivial⟩) (fun z => by
      simp only [PyData.hasDictAll, dp_nodict _ _ hd, dp_nodict _ _ he, Bool.or_false] at z
      cases z) (fun t ht => hmem t (by simp only [PyData.shownAll] at ht ⊢; exact List.mem_cons_of_mem _ ht))
    have ra : ReadsAll s.heap [.ref a, u2, u3] [.dict (bodyOf kvs), d, e] _ := .cons ra1 rest
    have rd : Reads s.heap (.ref p) (noteD kvs d e) (p :: _) := .list ho rfl rfl (by simpa using ra)
    have m1 : (PyData.dict (bodyOf kvs)).depth ≤ PyData.depthAll [.dict (bodyOf kvs), d, e] := by simp only [PyData.depthAll]; exact Nat.le_max_left _ _
    have m2 : PyData.depthAll [d, e] ≤ PyData.depthAll [.dict (bodyOf kvs), d, e] := by
      show _ ≤ max _ (PyData.depthAll [d, e])
      exact Nat.le_max_right _ _
    have hb : ReadAtMost s.heap (PyData.depthAll [.dict (bodyOf kvs), d, e]) (b1 ++ b2) := (hb1.mono m1).append (hb2.mono m2)
    have hk : ReprAllK X.prog X.w (b1 ++ b2) s.heap (PyData.depthAll [.dict (bodyOf kvs), d, e]) [.ref a, u2, u3] (PyData.shownAll [.dict (bodyOf kvs), d, e]) := by
      show ReprAllK X.prog X.w (b1 ++ b2) s.heap _ _ ((PyData.dict (bodyOf kvs)).shown :: PyData.shownAll [d, e])
      exact .cons ((k1.more fun b hb => List.mem_append_left _ hb).level_le m1) (k2.more_le (fun b hb => List.mem_append_right _ hb) m2)
    have hna : p ∉ b1 ++ b2 := not_mem_of_deeper rd (by unfold noteD; simp only [PyData.depth]; omega) hb
    have hdp' : PyData.depthAll [.dict (bodyOf kvs), d, e] + 1 ≤ 40 := by simpa only [PyData.depth] using hdp
    refine call_repr_slot (idr := "list.__repr__") (T := "list") (by omega) ⟨_, ho, rfl⟩ F.slot_list_repr.toG (call_list_reprK (x := .ref a) (l := [u2, u3]) ho rfl rfl hna (by simpa using hk.length_eq) (fun i y e => hk.item i y (by simpa using e)) hg (fun b _ => Clear.nil b) ?_ (fun b o e => e) (fun h' u tk k => ⟨_, _, rfl, ?_⟩) hz')
    · show X.A.units + 1 + (_ + 1) < cLine
      omega
    · exact ⟨.str _, H, I.kept (t' := tk) k, ⟨u, rfl⟩, q⟩
def flatD : PyData → Bool
  | .none | .bool _ | .str _ | .int _ => true
  | _ => false
def rReprD : List V → Hp → VK → Prop := fun xs H Q => ∃ v d, xs = [v] ∧ flatD d = true ∧ (match v, d with
  | .non, .none => True
  | .bl a, .bool b => a = b
  | .int i, .int j => i = j ∧ i.natAbs.log2 < 1920
  | .str x, .str y => x = y ∧ (reprText x).length ≤ sizeLine
  | _, _ => False) ∧ Q (.str d.shown) H
theorem call_reprD {X : Cx} : CallR X (.builtin "repr") rReprD := by
  intro pins s σ H xs us Q I r h
  obtain ⟨v, d, rfl, hf, hm, q⟩ := h
  cases r with
  | cons rx rr =>
    cases rr
    cases v <;> cases d <;> first | exact hm.elim | skip
    · cases rx
      exact P.repr_of_none ⟨.str _, H, I.tok _, ⟨_, rfl⟩, q⟩
    · cases rx
      obtain rfl := hm
      exact P.repr_of_bool ⟨.str _, H, I.tok _, ⟨_, rfl⟩, q⟩
    · obtain ⟨t, rfl⟩ := rx
      obtain ⟨rfl, h2⟩ := hm
      exact P.repr_of_int h2 ⟨.str _, H, I.tok _, ⟨_, rfl⟩, q⟩
    · obtain ⟨t, rfl⟩ := rx
      obtain ⟨rfl, h2⟩ := hm
      exact P.repr_of_str ⟨.str _, H, I.tok _, ⟨_, rfl⟩, q⟩ h2
end FP
/-! Defs that are called where nothing is guarded around. -/
namespace FP
open PySem PySem.Spec PyProof.Rows L2 FC FG
open Evl (Ex)
section
variable {P : Program} {w : World} {K : PySem.W.Frag} {mg : Str → Option Value} {base : Heap} {f : Addr} {fd : FuncData}
/-- a def run at one place of the stack -/
theorem run_at {x qual : Str} {st : Stmt} {N ps : List Str} {k : Nat} {A : Around} {outer : List Env} {s : Shared} {H : Hp} {args : Args} {us : List Value} {vs : List V} {Q : VK} {E : XK} (Fn : Fun K x qual st f fd) (S : FnScope N ps (defScope st)) (hl : vs.length = ps.length) (hr : Room (k + 1) A)
    (e0 : Env0 P w K mg base A outer s H) (hb : BindsTo s fd args (ps.zip us)) (r : Vals vs us)
    (body : ∀ cdv : Value, Room k (A.deeper (envOfC qual (defScope st) s.heap.objs.size f cdv)) → ∃ t, PSs (cxOf CX0 P w K mg base N qual (defScope st) f cdv A outer s H E).nox (defBody st) t ∧ t { nx := fun _ H' => Q .non H', rt := Q } (start N vs) H) :
    codeAny (model P w) A (.call (.ref f) args) (CR CX0 outer P w H s Q E) s := by
  obtain ⟨oc, od, kV, doc, pm, an, cdv, ct, osl, rfl, lk, hcd⟩ := Fn.ex
  have up : ∀ b o, base.get? b = some o → s.heap.get? b = some o := fun b o e => (e0.bs b o e).1
  have KX := e0.mod.kin.keeps up
  have lim := e0.mod.nolimit.keeps up
  have kinds : ∀ y ∈ ps.zip us, (defScope st).names.lookup y.1 = some .local ∨ ((defScope st).names.lookup y.1 = some .cell ∧ ((cellsFrom (s.heap.objs.size + 1) (defScope st).names []).lookup y.1).isSome = true) := by
    intro y hy
    have hm : y.1 ∈ ps := (List.of_mem_zip (a := y.1) (b := y.2) hy).1
    rcases S.par y.1 hm with z | z
    · exact Or.inl z
    · exact Or.inr ⟨z, PySem.W.cellsFrom_some _ _ _ (Or.inl z)⟩
  refine codeAny_call_function hr.depth (KX _ _ lk) rfl S.co S.gen rfl (PySem.W.codeRec_of KX hcd) (hb _ _ _ _ ?_)
  refine wpAny_newFunctionEnv_cells S.kind kinds fun en he s1 ic => ?_
  subst he
  refine ⟨lim.keeps ic.toInCall.keep, codeAny_func ?_⟩
  obtain ⟨t, ht, hq⟩ := body cdv (hr.deeper _)
  have I0 : Inv (cxOf CX0 P w K mg base N qual (defScope st) f cdv A outer s H E) [] (start N vs) H s1 := inv_start S hr.hd e0 hl r ic
  refine wpAny_mono (ht.nox.run [] s1 (start N vs) H _ I0 hq) (fun fl s' hs => ?_) fun _ _ z => z
  cases fl with
  | ret u =>
    obtain ⟨v, σ', H', J, rv, z⟩ := hs
    exact ⟨v, H', J.os, J.bare, J.base, J.hok, rv, z⟩
  | next =>
    obtain ⟨σ', H', J, z⟩ := hs
    exact ⟨.non, H', J.os, J.bare, J.base, J.hok, rfl, z⟩
  | brk =>
    obtain ⟨_, _, _, z⟩ := hs
    exact z.elim
  | cont =>
    obtain ⟨_, _, _, z⟩ := hs
    exact z.elim
end
structure GOk (P : Program) (w : World) (K : PySem.W.Frag) (mg : Str → Option Value) (base : Heap) (k : Nat) (f : Addr) (fd : FuncData) (ps : List Str) (sp : Sp) : Prop where
  len : ∀ vs H Q E, sp vs H Q E → vs.length = ps.length
  run : ∀ (A : Around) (outer : List Env) (s : Shared) (H : Hp) (args : Args) (us : List Value) (vs : List V) (Q : VK) (E : XK), A.guards = some [] → Room k A → Env0 P w K mg base A outer s H → BindsTo s fd args (ps.zip us) → Vals vs us → sp vs H Q E →
    codeAny (model P w) A (.call (.ref f) args) (CR CX0 outer P w H s Q E) s
structure ClG (P : Program) (w : World) (K : PySem.W.Frag) (mg : Str → Option Value) (base : Heap) (k : Nat) (x : Str) (sp : Sp) : Prop where
  ex : ∃ (f : Addr) (fd : FuncData) (ps : List Str), GOk P w K mg base k f fd ps sp ∧ mg x = some (.ref f) ∧ PySem.W.keepIn K (.ref f) = true ∧ Binds K fd ps []
theorem guards_deeper {A : Around} {env : Env} (h : A.guards = some []) : (A.deeper env).guards = some [] := h
section
variable {P : Program} {w : World} {K : PySem.W.Frag} {mg : Str → Option Value} {base : Heap} {f : Addr} {fd : FuncData}
theorem okG {x qual : Str} {st : Stmt} {N ps : List Str} {k : Nat} {sp : Sp} (F : Fun K x qual st f fd) (S : FnScope N ps (defScope st)) (len : ∀ vs H Q E, sp vs H Q E → vs.length = ps.length)
    (hbody : ∀ (cdv : Value) (A : Around) (outer : List Env) (s : Shared) (H : Hp) (vs : List V) (Q : VK) (E : XK), (A.deeper (envOfC qual (defScope st) s.heap.objs.size f cdv)).guards = some [] → Room k (A.deeper (envOfC qual (defScope st) s.heap.objs.size f cdv)) → sp vs H Q E →
      ∃ t, PSs (cxOf CX0 P w K mg base N qual (defScope st) f cdv A outer s H E).nox (defBody st) t ∧ t { nx := fun _ H' => Q .non H', rt := Q } (start N vs) H) : GOk P w K mg base (k + 1) f fd ps sp :=
  ⟨len, fun A outer s H args us vs Q E hg hr e0 hb r h => run_at F S (len _ _ _ _ h) hr e0 hb r fun cdv hr' => hbody cdv A outer s H vs Q E (guards_deeper hg) hr' h⟩
theorem GOk.mono {j k : Nat} {ps : List Str} {sp : Sp} (F : GOk P w K mg base j f fd ps sp) (h : j ≤ k) : GOk P w K mg base k f fd ps sp :=
  ⟨F.len, fun A outer s H args us vs Q E hg hr => F.run A outer s H args us vs Q E hg (hr.mono h)⟩
end
section
variable {X : Cx} {k j : Nat} {f : Addr} {fd : FuncData} {ps : List Str} {sp : Sp} {E : XK} {x : Str} {p pos : Pos} {e : Expr} {es : List Expr} {t : TA}
theorem run_fnG {pins : List (Addr × Obj)} {σ : L2.St} {H : Hp} {s : Shared} {Q : VK} {us : List Value} {vs : List V} (F : GOk X.prog X.w X.K X.mg X.base k f fd ps sp) (hg : X.A.guards = some []) (hr : Room k X.A) (hb : Binds X.K fd ps []) (hx : Passes CX0 X E)
    (I : Inv X pins σ H s) (r : Vals vs us) (h : sp vs H Q E) : wpAny (model X.prog X.w) X.A (call (.ref f) us) (EP X pins σ Q) X.xe s := by
  have hl : (us ++ []).length = ps.length := by rw [List.append_nil, ← r.length]; exact F.len _ _ _ _ h
  have hb' := hb s us I.kIn hl
  rw [List.append_nil] at hb'
  refine wpAny_call (codeAny_mono (F.run X.A X.stack s H ⟨us, []⟩ us vs Q E hg hr I.env0 hb' r h) fun r s' hq => ?_)
  cases r with
  | error e => exact hx pins σ H s e s' I hq
  | ok fl =>
    cases fl with
    | ret u => exact I.after hq
    | next => exact False.elim hq
    | brk => exact False.elim hq
    | cont => exact False.elim hq
theorem pe_clG (c : ClG X.prog X.w X.K X.mg X.base k x sp) (hgu : X.A.guards = some []) (hr : Room j X.A) (hk : k ≤ j) (hg : Gl X x) (ha : PA X (e :: es) t)
    (hdb : (x == ("__debug__" : Str)) = false := by decide) (he : starEach (e :: es) X.env = (false, eval e X.env) :: starEach es X.env := by rfl) (hpl : (backTo pos (starEach es X.env)).any (·.1) = false := by rfl) :
    PE X (.Call (.Name x p) (e :: es) [] pos) (tCall sp [] E0 t) := by
  obtain ⟨f, fd, ps, F, hm, kp, b⟩ := c.ex
  refine ⟨fun pins s σ H Q I h => ?_⟩
  refine wpAny_Call_Name_kw (ld_glob I hg hm ?_ hdb)
  refine PySem.W.callWith_K (h₀ := X.base) I.ok.mod.kin kp (thn (ha.run pos pins s σ H _ I h) fun us s1 ⟨vs, H1, I1, r, q⟩ => ⟨I1.kIn, ?_⟩) he hpl
  have q : sp (vs ++ []) H1 Q E0 := q
  rw [List.append_nil] at q
  exact run_fnG F hgu (hr.mono hk) b pass0 I1 r q
end
end FP
namespace FP
open PySem PySem.Spec PyProof.Rows L2 FC FG
open Evl (Ex)
theorem labN_cons (v : PyData) (c : PyData × Str) (cs : List (PyData × Str)) : labN v (c :: cs) = if fitN 2 c.1 v = true then .str c.2 else labN v cs := by
  unfold labN
  rw [List.findIdx?_cons]
  by_cases h : fitN 2 c.1 v = true
  · rw [if_pos h, if_pos h]
    rfl
  · rw [if_neg h, if_neg h]
    cases e : cs.findIdx? fun c => fitN 2 c.1 v with
    | none => rfl
    | some m => rfl
theorem labN_append (v : PyData) (b : List (PyData × Str)) : ∀ a : List (PyData × Str), labN v (a ++ b) = if isNon (labN v a) = true then labN v b else labN v a
  | [] => rfl
  | c :: a => by
    rw [List.cons_append, labN_cons, labN_cons, labN_append v b a]
    by_cases h : fitN 2 c.1 v = true
    · rw [if_pos h, if_pos h]
      rfl
    · rw [if_neg h, if_neg h]
theorem labN_shape (v : PyData) {cs : List (PyData × Str)} (h : ∀ c ∈ cs, isNameS c.2 = true) : labN v cs = .none ∨ ∃ s, labN v cs = .str s ∧ isNameS s = true := by
  unfold labN
  cases e : cs.findIdx? fun c => fitN 2 c.1 v with
  | none => exact .inl rfl
  | some m =>
    obtain ⟨hj, _, _⟩ := List.findIdx?_eq_some_iff_getElem.mp e
    refine .inr ⟨_, rfl, ?_⟩
    rw [getD_at hj]
    exact h _ (List.getElem_mem hj)
theorem takeN_shape (v : PyData) {cs : List (PyData × Str)} (h : cs.length ≤ 1000) : takeN v cs = .none ∨ ∃ m : Nat, takeN v cs = .int (m : Nat) ∧ m ≤ 1000 := by
  unfold takeN
  cases e : cs.findIdx? fun c => fitN 2 c.1 v with
  | none => exact .inl rfl
  | some m =>
    obtain ⟨hj, _, _⟩ := List.findIdx?_eq_some_iff_getElem.mp e
    exact .inr ⟨m, rfl, by omega⟩
theorem ClausesOk.sub {kvs : List (Str × PyData)} {k : Str} {cs ds : List (PyData × Str)} (h : ClausesOk kvs k cs) (hs : ∀ c ∈ ds, c ∈ cs) (hl : ds.length ≤ cs.length) : ClausesOk kvs k ds :=
  ⟨fun c hc => h.pat c (hs c hc), fun c hc => h.nm c (hs c hc), Nat.le_trans hl h.few⟩
/-- flat data whose repr is told -/
inductive RepF : PyData → Prop where
  | non : RepF .none
  | bl (b : Bool) : RepF (.bool b)
  | int {i : Int} (h : i.natAbs.log2 < 1920) : RepF (.int i)
  | str {s : Str} (h : (reprText s).length ≤ sizeLine) : RepF (.str s)
theorem name_rep {s : Str} (h : isNameS s = true) : RepF (.str s) := by
  refine .str (Nat.le_trans (StrLaws.reprText_len s fun c hc => ?_) ?_)
  · have h1 := name_strOk h
    unfold PyData.strOk at h1
    rw [Array.all_eq_true'] at h1
    have h2 := of_decide_eq_true (h1 c (Array.mem_def.mpr hc))
    exact Nat.lt_trans h2 (by decide +kernel)
  · unfold isNameS at h
    rw [Bool.and_eq_true, Bool.and_eq_true] at h
    have h1 := of_decide_eq_true h.1.2
    have : s.length ≤ 10 := by omega
    exact Nat.le_trans (Nat.add_le_add_right (Nat.mul_le_mul_left 10 this) 2) (by decide)
section
variable {K : PySem.W.Frag} {G : List (Option PyData)} {ta tb te : TE}
theorem cd_reprD {d : PyData} (h : RepF d) : CD K rReprD [d] (.str d.shown) := fun B H vs x r Q q => by
  cases r with
  | cons r1 r2 =>
    cases r2
    cases h with
    | non =>
      have r1 := r1.dp rfl
      cases r1
      exact ⟨.non, .none, rfl, rfl, trivial, q _ B H (.refl x) (.d (.str _))⟩
    | bl b =>
      cases rt_bool r1
      exact ⟨.bl b, .bool b, rfl, rfl, rfl, q _ B H (.refl x) (.d (.str _))⟩
    | @int i h =>
      cases rt_int r1
      exact ⟨.int i, .int i, rfl, rfl, ⟨rfl, h⟩, q _ B H (.refl x) (.d (.str _))⟩
    | @str s h =>
      cases rt_str r1
      exact ⟨.str s, .str s, rfl, rfl, ⟨rfl, h⟩, q _ B H (.refl x) (.d (.str _))⟩
theorem rt_flat {B : Hp} {v w : V} {d : PyData} (hf : flatD d = true) (h1 : Rt K B v d) (h2 : Rt K B w d) : v = w ∧ scal v w = true := by
  cases d with
  | none =>
    have h1 := h1.dp rfl
    have h2 := h2.dp rfl
    cases h1
    cases h2
    exact ⟨rfl, rfl⟩
  | bool b => cases rt_bool h1; cases rt_bool h2; exact ⟨rfl, rfl⟩
  | int i => cases rt_int h1; cases rt_int h2; exact ⟨rfl, rfl⟩
  | str s => cases rt_str h1; cases rt_str h2; exact ⟨rfl, rfl⟩
  | _ => cases hf
theorem rd_neS {d : PyData} (hf : flatD d = true) : RD K rNe d d (.bool false) := fun B H v w x r1 r2 Q q => by
  obtain ⟨e, hs⟩ := rt_flat hf r1 r2
  subst e
  refine ⟨hs, ?_⟩
  rw [decide_eq_true rfl]
  exact q _ B H (.refl x) (.d (.bl _))
theorem rd_eqS {d : PyData} (hf : flatD d = true) : RD K rEq d d (.bool true) := fun B H v w x r1 r2 Q q => by
  obtain ⟨e, hs⟩ := rt_flat hf r1 r2
  subst e
  refine ⟨hs, ?_⟩
  rw [decide_eq_true rfl]
  exact q _ B H (.refl x) (.d (.bl _))
theorem de_note {t0 t1 t2 : TE} {kvs : List (Str × PyData)} {d e : PyData} (h0 : DE K t0 G (dictU kvs)) (h1 : DE K t1 G d) (h2 : DE K t2 G e) (pd : plain d = true) (pe : plain e = true) (sh : Shows (noteD kvs d e)) :
    DE K (tCB (rReprT K) (tCons (tLst (tCons t0 (tCons t1 (tCons t2 tNil)))) tNil)) G (.str (noteD kvs d e).shown) := fun σ B H x en Q q =>
  h0 σ B H x en _ fun v0 B1 H1 g1 r0 => h1 σ B1 H1 g1.sub (en.ex g1.eb) _ fun v1 B2 H2 g2 r1 => h2 σ B2 H2 g2.sub ((en.ex g1.eb).ex g2.eb) _ fun v2 B3 H3 g3 r2 => by
    refine ⟨by show 3 ≤ sizeLine; decide, fun p hp => ?_⟩
    obtain ⟨a, ks, rfl, ea, kr, nd⟩ := rt_dictU ((r0.ex g2.eb).ex g3.eb)
    have g4 := Go.new g3.sub hp (o := .lst [.ref a, v1, v2])
    have e4 : Ex B3 (upd H3 p (.lst [.ref a, v1, v2])) := g3.sub.trans g4.eh
    exact ⟨p, a, ks, kvs, v1, v2, d, e, rfl, upd_same, e4 _ _ ea, kr_ex e4 kr, dp_ex e4 _ _ ((r1.ex g3.eb).dp pd), dp_ex e4 _ _ (r2.dp pe), sh, q _ B3 _ (g1.trans (g2.trans (g3.trans (Go.own g3.sub hp)))) (.d (.str _))⟩
end
def Rw_value_right : List PyData → PyData → Prop := fun ds o => ∃ (kvs : List (Str × PyData)) (k : Str) (cs : List (PyData × Str)) (m : Nat) (v : PyData), ds = [dictU kvs, .str k, .list (cs.map clauseD), v] ∧ KindsOk kvs ∧ ClausesOk kvs k cs ∧ OkVal kvs m k v ∧ m ≤ 4 ∧ Shows (noteD kvs (.list (cs.map clauseD)) v) ∧ o = .bool true
section
variable {P : Program} {w : World} {K : PySem.W.Frag} {mg : Str → Option Value} {base : Heap} {f : Addr} {fd : FuncData} {G : List (Option PyData)}
theorem sc_lvalue_right : FnScope ["kinds", "kind", "clauses", "value", "noted", "pattern", "word", "at", "cut", "first"] ["kinds", "kind", "clauses", "value"] (defScope s_lvalue_right) := ⟨rfl, rfl, rfl, by decide +kernel, rfl, by decide +kernel, by decide +kernel⟩
theorem ok_lvalue_right (hrepr : mg "repr" = none) (F : Fun K "_law_value_right" "_law_value_right" s_lvalue_right f fd) (M : Bl mg) (cf2 : CL P w K mg base 11 "fits" (Rw_fits 2)) (cf3 : CL P w K mg base 11 "fits" (Rw_fits 3)) (cl : CL P w K mg base 5 "_law_fits" (Rw_pattern_fits 2)) (ct : CL P w K mg base 11 "taker" Rw_taker) (clt : CL P w K mg base 6 "_law_taker" Rw_ltaker) (cb : CL P w K mg base 12 "label" Rw_label) (clb : CL P w K mg base 7 "_law_label" Rw_llabel) : GOk P w K mg base 13 f fd ["kinds", "kind", "clauses", "value"] (spR K Rw_value_right) := by
  refine okG F sc_lvalue_right (spR_len (by rintro _ _ ⟨_, _, _, _, _, rfl, _⟩; rfl)) (fun cdv A outer s H vs Q E hgu hr h => ?_)
  obtain ⟨B, ds, o, x, r, ⟨kvs, k, cs, m, v, rfl, ok, hc, hv, hm, sh, rfl⟩, q⟩ := h
  have hu64 : (A.deeper (envOfC "_law_value_right" (defScope s_lvalue_right) s.heap.objs.size f cdv)).units + 64 < cLine := by have := hr.un; omega
  have nd := sc_lvalue_right.nd
  refine ⟨_, pss_cons (ps_set (i := 4) nd rfl (Or.inl rfl) (pe_callB (call_reprT hgu hu64) (by rfl) hrepr PyProof.Rows.boot_repr (pa_cons (pe_lst (pa_cons (pv 0) (pa_cons (pv 2) (pa_cons (pv 3) pa_nil)))) pa_nil)))
    (pss_cons (ps_for PassesOwn.never rfl (pi_list (pv 2)) (pg_tup rfl (pgs_cons (pg_name (i := 5) nd rfl (.inl rfl)) (pgs_cons (pg_name (i := 6) nd rfl (.inl rfl)) pgs_nil)))
      (pss_cons (ps_if (pt_cmpR op_ne (pe_callB call_reprD (by rfl) hrepr PyProof.Rows.boot_repr (pa_cons (pe_cl cf2 hr (by decide) (by rfl) (pa_cons (pv 0) (pa_cons (pv 1) (pa_cons (pv 5) (pa_cons (pv 3) pa_nil))))) pa_nil)) (pe_callB call_reprD (by rfl) hrepr PyProof.Rows.boot_repr (pa_cons (pe_cl cl hr (by decide) (by rfl) (pa_cons (pv 5) (pa_cons (pv 3) pa_nil))) pa_nil)) (nomark _)) pss_never pss_nil)
      (pss_one (ps_if (pt_cmpR op_ne (pe_cl cf3 hr (by decide) (by rfl) (pa_cons (pv 0) (pa_cons (pv 1) (pa_cons (pe_tup (pa_cons pe_str (pa_cons (pe_lst (pa_cons (pv 5) pa_nil)) pa_nil))) (pa_cons (pv 3) pa_nil))))) (pe_cl cl hr (by decide) (by rfl) (pa_cons (pv 5) (pa_cons (pv 3) pa_nil))) (nomark _)) pss_never pss_nil))))
    (pss_cons (ps_set (i := 7) nd rfl (Or.inl rfl) (pe_cl clt hr (by decide) (by rfl) (pa_cons (pv 2) (pa_cons (pv 3) pa_nil))))
    (pss_cons (ps_if (pw_or (pt_cmpR op_ne (pe_callB call_reprD (by rfl) hrepr PyProof.Rows.boot_repr (pa_cons (pe_cl ct hr (by decide) (by rfl) (pa_cons (pv 0) (pa_cons (pv 1) (pa_cons (pv 2) (pa_cons (pv 3) pa_nil))))) pa_nil)) (pe_callB call_reprD (by rfl) hrepr PyProof.Rows.boot_repr (pa_cons (pv 7) pa_nil)) (nomark _)) (pw_or1 (pt_not (pt_val (pe_cl cf2 hr (by decide) (by rfl) (pa_cons (pv 0) (pa_cons (pv 1) (pa_cons pe_non (pa_cons (pv 3) pa_nil))))))))).pt pss_never pss_nil)
    (pss_cons (ps_if (pt_cmpR op_ne (pe_callB call_reprD (by rfl) hrepr PyProof.Rows.boot_repr (pa_cons (pe_cl cb hr (by decide) (by rfl) (pa_cons (pv 0) (pa_cons (pv 1) (pa_cons (pv 2) (pa_cons (pv 3) pa_nil))))) pa_nil)) (pe_callB call_reprD (by rfl) hrepr PyProof.Rows.boot_repr (pa_cons (pe_cl clb hr (by decide) (by rfl) (pa_cons (pv 2) (pa_cons (pv 3) pa_nil))) pa_nil)) (nomark _)) pss_never pss_nil)
    (pss_cons (ps_for PassesOwn.never rfl (pi_range1 (by rfl) M.range (pa_cons (pe_op op_add (pe_callB call_lenR (by rfl) M.len PySem.boot_len (pa_cons (pv 2) pa_nil)) pe_int) pa_nil)) (pg_name (i := 8) nd rfl (Or.inl rfl))
      (pss_cons (ps_set (i := 9) nd rfl (Or.inl rfl) (pe_cl cb hr (by decide) (by rfl) (pa_cons (pv 0) (pa_cons (pv 1) (pa_cons (pe_slice sl_list (pv 2) po_none (po_some (pv 8))) (pa_cons (pv 3) pa_nil))))))
      (pss_one (ps_if (pt_cmpR op_ne (pe_ifExp (pt_cmp (pc_isN (pv 9))) (pe_cl cb hr (by decide) (by rfl) (pa_cons (pv 0) (pa_cons (pv 1) (pa_cons (pe_slice sl_list (pv 2) (po_some (pv 8)) po_none) (pa_cons (pv 3) pa_nil))))) (pv 9)) (pe_cl clb hr (by decide) (by rfl) (pa_cons (pv 2) (pa_cons (pv 3) pa_nil))) (nomark _)) pss_never pss_nil))))
    (pss_one (ps_ret (pe_cmpR op_eq (pe_callB (call_reprT hgu hu64) (by rfl) hrepr PyProof.Rows.boot_repr (pa_cons (pe_lst (pa_cons (pv 0) (pa_cons (pv 2) (pa_cons (pv 3) pa_nil)))) pa_nil)) (pv 4) (nomark _))))))))), ?_⟩
  refine fin_rt ?_ x r q
  let N : Str := (noteD kvs (.list (cs.map clauseD)) v).shown
  let st : Option PyData → Option PyData → Option PyData → Option PyData → Option PyData → List (Option PyData) := fun a b t c g => [some (dictU kvs), some (.str k), some (.list (cs.map clauseD)), some v, some (.str N), a, b, t, c, g]
  have v0 : ∀ {a b t c g}, DE K (tVar 0) (st a b t c g) (dictU kvs) := de_var rfl
  have v1 : ∀ {a b t c g}, DE K (tVar 1) (st a b t c g) (.str k) := de_var rfl
  have v2 : ∀ {a b t c g}, DE K (tVar 2) (st a b t c g) (.list (cs.map clauseD)) := de_var rfl
  have v3 : ∀ {a b t c g}, DE K (tVar 3) (st a b t c g) v := de_var rfl
  show DS K _ [some (dictU kvs), some (.str k), some (.list (cs.map clauseD)), some v, none, none, none, none, none, none] _
  refine ds_seq (ds_set (de_note (de_var rfl) (de_var rfl) (de_var rfl) rfl hv.plain sh)) ?_
  show DS K _ (st none none none none none) _
  let ps : List (PyData × PyData) := cs.map fun c => (c.1, .str c.2)
  have hps : ps.map pairT = cs.map clauseD := by
    show (cs.map _).map _ = _
    rw [List.map_map]
    rfl
  have hpl : ps.length = cs.length := List.length_map _
  have hpe : ∀ i (hi : i < cs.length), ps[i]? = some (cs[i].1, .str cs[i].2) := fun i hi => by
    show (cs.map _)[i]? = _
    rw [List.getElem?_map, List.getElem?_eq_getElem hi]
    rfl
  let Gs : Nat → List (Option PyData) := fun i => match i with
    | 0 => st none none none none none
    | i + 1 => st (ps[i]?.map (·.1)) (ps[i]?.map (·.2)) none none none
  have hg1 : ∃ a b, Gs cs.length = st a b none none none := by
    cases cs.length with
    | zero => exact ⟨_, _, rfl⟩
    | succ n => exact ⟨_, _, rfl⟩
  obtain ⟨a, b, hg1⟩ := hg1
  refine ds_seq (G1 := st a b none none none) (ds_is (ds_for Gs (di_listP (ps := ps) (de_is v2 (congrArg PyData.list hps.symm))) rfl fun i hi => ?_) (by rw [hpl, hg1])) ?_
  · have hi : i < cs.length := by rw [← hpl]; exact hi
    have e : ((Gs i).set 5 (ps[i]?.map (·.1))).set 6 (ps[i]?.map (·.2)) = st (some cs[i].1) (some (.str cs[i].2)) none none none := by
      rw [hpe i hi]
      cases i <;> rfl
    have e2 : Gs (i + 1) = st (some cs[i].1) (some (.str cs[i].2)) none none none := by
      show st (ps[i]?.map (·.1)) (ps[i]?.map (·.2)) none none none = _
      rw [hpe i hi]
      rfl
    show DS K _ (((Gs i).set 5 (ps[i]?.map (·.1))).set 6 (ps[i]?.map (·.2))) _
    rw [e, e2]
    have hp := hc.pat _ (List.getElem_mem hi)
    have v5 : DE K (tVar 5) (st (some cs[i].1) (some (.str cs[i].2)) none none none) cs[i].1 := de_var rfl
    have lf := de_call' (K := K) (E := E0) (R := Rw_pattern_fits 2) (da_cons v5 (da_cons v3 da_nil)) ⟨kvs, m, cs[i].1, v, rfl, ok.forms, ⟨k, hp, hv⟩, rfl⟩
    refine ds_seq (ds_if (b := false) (dt_test (de_op (de_cb (da_cons (de_call' (da_cons v0 (da_cons v1 (da_cons v5 (da_cons v3 da_nil)))) ⟨kvs, k, cs[i].1, m, v, rfl, ok, hp, hv, hm, rfl⟩) da_nil) (cd_reprD (.bl _))) (de_cb (da_cons lf da_nil) (cd_reprD (.bl _))) (rd_neS rfl))) (fun z => nomatch z) fun _ => ds_next) ?_
    refine ds_if (b := false) (dt_test (de_op (de_is (de_call' (da_cons v0 (da_cons v1 (da_cons (de_tup (da_cons de_str (da_cons (de_lst (da_cons v5 da_nil) (by simp [hp.plain]) (by show 1 ≤ 1000; decide)) da_nil)) rfl (by show 2 ≤ 1000; decide)) (da_cons v3 da_nil)))) ⟨kvs, k, orD [cs[i].1], m, v, rfl, ok, .or (by simp) (by show 1 ≤ 9; decide) (fun p h => by rw [List.mem_singleton.mp h]; exact hp), hv, hm, rfl⟩) (e := .bool (fitN 2 cs[i].1 v)) (by rw [fitN_or]; simp)) lf (rd_neS rfl))) (fun z => nomatch z) fun _ => ds_next
  refine ds_seq (ds_set (de_call' (da_cons v2 (da_cons v3 da_nil)) ⟨kvs, k, m, cs, v, rfl, ok.forms, hc, hv, rfl⟩)) ?_
  show DS K _ (st a b (some (takeN v cs)) none none) _
  have rt : RepF (takeN v cs) := by
    rcases takeN_shape v hc.few with h | ⟨j, h, hj⟩
    · rw [h]; exact .non
    · rw [h]
      refine .int ?_
      have : ((j : Nat) : Int).natAbs = j := Int.natAbs_natCast j
      rw [this]
      exact Nat.lt_of_le_of_lt (Nat.log2_le_self j) (by omega)
  have rl : RepF (labN v cs) := by
    rcases labN_shape v hc.nm with h | ⟨j, h, hj⟩
    · rw [h]; exact .non
    · rw [h]; exact name_rep hj
  have fl : flatD (labN v cs) = true := by
    rcases labN_shape v hc.nm with h | ⟨j, h, hj⟩ <;> rw [h] <;> rfl
  refine ds_guard (b := false) (dt_is (dt_or (b := false) (dt_test (de_op (de_cb (da_cons (de_call' (da_cons v0 (da_cons v1 (da_cons v2 (da_cons v3 da_nil)))) ⟨kvs, k, cs, m, v, rfl, ok, hc, hv, hm, rfl⟩) da_nil) (cd_reprD rt)) (de_cb (da_cons (de_var (d := takeN v cs) rfl) da_nil) (cd_reprD rt)) (rd_neS rfl))) fun _ => dt_not (dt_B (de_call' (da_cons v0 (da_cons v1 (da_cons de_non (da_cons v3 da_nil)))) ⟨kvs, k, .none, m, v, rfl, ok, .any 2 k, hv, hm, rfl⟩))) (by rw [fitN_any]; rfl)) (fun z => nomatch z) fun _ => ?_
  have ll : ∀ {a b t c g}, DE K (tCall (spR K Rw_llabel) [] E0 (tCons (tVar 2) (tCons (tVar 3) tNil))) (st a b t c g) (labN v cs) := de_call' (da_cons v2 (da_cons v3 da_nil)) ⟨kvs, k, m, cs, v, rfl, ok.forms, hc, hv, rfl⟩
  refine ds_guard (b := false) (dt_test (de_op (de_cb (da_cons (de_call' (da_cons v0 (da_cons v1 (da_cons v2 (da_cons v3 da_nil)))) ⟨kvs, k, cs, m, v, rfl, ok, hc, hv, hm, rfl⟩) da_nil) (cd_reprD rl)) (de_cb (da_cons ll da_nil) (cd_reprD rl)) (rd_neS rfl))) (fun z => nomatch z) fun _ => ?_
  let Hs : Nat → List (Option PyData) := fun i => match i with
    | 0 => st a b (some (takeN v cs)) none none
    | i + 1 => st a b (some (takeN v cs)) (some (.int (i : Nat))) (some (labN v (cs.take i)))
  refine ds_seq (G1 := Hs (cs.length + 1)) (ds_is (ds_for Hs (di_range (m := (cs.length : Int) + 1) (da_cons (de_op (de_cb (da_cons v2 da_nil) cd_lenL) de_int (by rw [List.length_map]; exact rd_add)) da_nil) (by omega) (by have := hc.few; omega)) rfl fun i hi => ?_) (by rw [show ((cs.length : Int) + 1).toNat = cs.length + 1 by omega])) (ds_ret (de_op (de_note v0 v2 v3 rfl hv.plain sh) (de_var rfl) (rd_eqS rfl)))
  have hi : i ≤ cs.length := by omega
  have e : (Hs i).set 8 (some (.int (i : Nat))) = st a b (some (takeN v cs)) (some (.int (i : Nat))) (match i with | 0 => none | j + 1 => some (labN v (cs.take j))) := by
    cases i <;> rfl
  show DS K _ ((Hs i).set 8 (some (.int (i : Nat)))) _
  rw [e]
  have v8 : ∀ {g}, DE K (tVar 8) (st a b (some (takeN v cs)) (some (.int (i : Nat))) g) (.int (i : Nat)) := de_var rfl
  refine ds_seq (ds_set (d := labN v (cs.take i)) (de_call' (da_cons v0 (da_cons v1 (da_cons (de_is (de_ofX (de_to (n := i) v2 v8 rfl)) (by rw [← List.map_take])) (da_cons v3 da_nil)))) ⟨kvs, k, cs.take i, m, v, rfl, ok, hc.sub (fun c h => List.mem_of_mem_take h) (List.length_take_le' _ _), hv, hm, rfl⟩)) ?_
  show DS K _ (st a b (some (takeN v cs)) (some (.int (i : Nat))) (some (labN v (cs.take i)))) _
  have v9 : DE K (tVar 9) (st a b (some (takeN v cs)) (some (.int (i : Nat))) (some (labN v (cs.take i)))) (labN v (cs.take i)) := de_var rfl
  have happ := labN_append v (cs.drop i) (cs.take i)
  rw [List.take_append_drop] at happ
  refine ds_if (b := false) (dt_test (de_op (d := labN v cs) (de_if (b := isNon (labN v (cs.take i))) (dt_B (de_isN v9)) (fun z => ?_) (fun z => ?_)) ll (rd_neS fl))) (fun z => nomatch z) fun _ => ds_next
  · rw [happ, if_pos z]
    exact de_call' (da_cons v0 (da_cons v1 (da_cons (de_is (de_ofX (de_from (n := i) v2 v8 rfl (by rw [List.length_map]; exact hi))) (by rw [← List.map_drop])) (da_cons v3 da_nil)))) ⟨kvs, k, cs.drop i, m, v, rfl, ok, hc.sub (fun c h => List.mem_of_mem_drop h) (by rw [List.length_drop]; omega), hv, hm, rfl⟩
  · rw [happ, if_neg (by rw [z]; exact Bool.false_ne_true)]
    exact v9
end
end FP
/-! Data logic with a purse: an object outside of the data, in slot 0, that every draw changes. -/
namespace FJ
open PySem PySem.Spec PyProof.Rows L2 FC FG FP
open Evl (Ex)
def LIM : Int := 9000000
def purseV (a b c : Int) : List V := [.int a, .int b, .int c]
def Purse (H : Hp) (n : Int) (p : Addr) : Prop := ∃ a b c : Int, H p = some (.lst (purseV a b c)) ∧ 0 ≤ a ∧ 0 ≤ b ∧ b < 2147483629 ∧ 0 ≤ c ∧ c ≤ n
theorem Purse.up {H : Hp} {n m : Int} {p : Addr} (h : Purse H n p) (e : n ≤ m) : Purse H m p := by
  obtain ⟨a, b, c, hp, r1, r2, r3, r4, r5⟩ := h
  exact ⟨a, b, c, hp, r1, r2, r3, r4, Int.le_trans r5 e⟩
theorem Purse.ex {H H' : Hp} {n : Int} {p : Addr} (h : Purse H n p) (e : Ex H H') : Purse H' n p := by
  obtain ⟨a, b, c, hp, r⟩ := h
  exact ⟨a, b, c, e _ _ hp, r⟩
theorem Purse.some {H : Hp} {n : Int} {p : Addr} (h : Purse H n p) : ∃ o, H p = some o := by
  obtain ⟨a, b, c, hp, _⟩ := h
  exact ⟨_, hp⟩
structure GoP (p : Addr) (B H B' H' : Hp) : Prop where
  eb : Ex B B'
  eh : ∀ q o, q ≠ p → H q = some o → H' q = some o
  sub : Ex B' H'
  np : B' p = none
  fr : ∀ a o, H a = some o → B a = none → B' a = none
theorem GoP.of {p : Addr} {B H B' H' : Hp} {n : Int} (g : Go B H B' H') (nb : B p = none) (hp : Purse H n p) : GoP p B H B' H' := by
  obtain ⟨o, h⟩ := hp.some
  exact ⟨g.eb, fun q o _ h => g.eh q o h, g.sub, g.fr p o h nb, g.fr⟩
theorem GoP.refl {p : Addr} {B H : Hp} (e : Ex B H) (nb : B p = none) : GoP p B H B H := ⟨Evl.Ex.refl _, fun _ _ _ h => h, e, nb, fun _ _ _ n => n⟩
theorem GoP.trans {p : Addr} {B H B1 H1 B2 H2 : Hp} {n : Int} (a : GoP p B H B1 H1) (b : GoP p B1 H1 B2 H2) (h1 : Purse H1 n p) (nb : B p = none) : GoP p B H B2 H2 :=
  ⟨a.eb.trans b.eb, fun q o hq h => b.eh q o hq (a.eh q o hq h), b.sub, b.np, fun c o h n => by
    by_cases hc : c = p
    · rw [hc]; exact b.np
    · exact b.fr c o (a.eh c o hc h) (a.fr c o h n)⟩
structure StP (K : PySem.W.Frag) (p : Addr) (B H : Hp) (σ : L2.St) (G : List (Option PyData)) (n : Int) : Prop where
  x : Ex B H
  nb : B p = none
  en : En K B σ G
  pu : Purse H n p
  sl : σ[0]? = some (some (V.ref p))
section
variable {K : PySem.W.Frag} {p : Addr} {B H B1 H1 : Hp} {σ : L2.St} {G : List (Option PyData)} {n m : Int}
theorem StP.go (s : StP K p B H σ G n) (g : GoP p B H B1 H1) (pu : Purse H1 m p) : StP K p B1 H1 σ G m := ⟨g.sub, g.np, s.en.ex g.eb, pu, s.sl⟩
theorem StP.set {v : V} {d : PyData} {i : Nat} (s : StP K p B H σ G n) (hi : i ≠ 0) (r : Rt K B v d) : StP K p B H (σ.set i (some v)) (G.set i (some d)) n := ⟨s.x, s.nb, s.en.set i r, s.pu, by rw [List.getElem?_set_ne hi]; exact s.sl⟩
end
section
variable (K : PySem.W.Frag) (p : Addr)
def DP (te : TE) (G : List (Option PyData)) (k : Int) (φ : PyData → Prop) : Prop :=
  ∀ σ B H n, StP K p B H σ G n → n + k ≤ LIM → ∀ Q : VK, (∀ v B' H' d, GoP p B H B' H' → Rt K B' v d → φ d → Purse H' (n + k) p → Q v H') → te σ H Q
def DPT (tt : TT) (G : List (Option PyData)) (k : Int) (φ : Bool → Prop) : Prop :=
  ∀ σ B H n, StP K p B H σ G n → n + k ≤ LIM → ∀ Q : Bool → Hp → Prop, (∀ b B' H', GoP p B H B' H' → φ b → Purse H' (n + k) p → Q b H') → tt σ H Q
def DPA (ta : TA) (G : List (Option PyData)) (k : Int) (φ : List PyData → Prop) : Prop :=
  ∀ σ B H n, StP K p B H σ G n → n + k ≤ LIM → ∀ Q : List V → Hp → Prop, (∀ vs B' H' ds, GoP p B H B' H' → RtA K B' vs ds → φ ds → Purse H' (n + k) p → Q vs H') → ta σ H Q
/-- a block that hands back -/
def DPS (ts : TS) (G : List (Option PyData)) (k : Int) (φ : PyData → Prop) : Prop :=
  ∀ D σ B H n, StP K p B H σ G n → n + k ≤ LIM → (∀ v B' H' d, GoP p B H B' H' → Rt K B' v d → φ d → Purse H' (n + k) p → D.rt v H') → ts D σ H
/-- a block that goes on -/
def DPN (ts : TS) (G : List (Option PyData)) (k : Int) (ψ : List (Option PyData) → Prop) : Prop :=
  ∀ D σ B H n, StP K p B H σ G n → n + k ≤ LIM → (∀ σ' B' H' G', GoP p B H B' H' → ψ G' → StP K p B' H' σ' G' (n + k) → D.nx σ' H') → ts D σ H
def spP (pre : List PyData → Prop) (R : List PyData → PyData → Prop) (k : Int) : Sp := fun vs H Q _ => ∃ (p : Addr) (us : List V) (B : Hp) (ds : List PyData) (n : Int), vs = V.ref p :: us ∧ Ex B H ∧ B p = none ∧ RtA K B us ds ∧ Purse H n p ∧ 0 ≤ n ∧ n + k ≤ LIM ∧ pre ds ∧
  ∀ v B' H' d, GoP p B H B' H' → Rt K B' v d → R ds d → Purse H' (n + k) p → Q v H'
end
section
variable {K : PySem.W.Frag} {p : Addr} {G : List (Option PyData)} {ta tb te : TE} {tt tu : TT} {k k1 k2 : Int} {φ φ1 φ2 : PyData → Prop}
theorem dp_of {d : PyData} (h : DE K te G d) : DP K p te G 0 (fun e => e = d) := fun σ B H n s _ Q q => h σ B H s.x s.en Q fun v B' H' g r => q v B' H' d (.of g s.nb s.pu) r rfl (by rw [Int.add_zero]; exact s.pu.ex g.eh)
theorem dp_up (h : DP K p te G k1 φ) (e : k1 ≤ k) : DP K p te G k φ := fun σ B H n s l Q q => h σ B H n s (by omega) Q fun v B' H' d g r f pu => q v B' H' d g r f (pu.up (by omega))
theorem dp_imp (h : DP K p te G k φ1) (e : ∀ d, φ1 d → φ d) : DP K p te G k φ := fun σ B H n s l Q q => h σ B H n s l Q fun v B' H' d g r f pu => q v B' H' d g r (e d f) pu
theorem dpt_of {b : Bool} (h : DT K tt G b) : DPT K p tt G 0 (fun e => e = b) := fun σ B H n s _ Q q => h σ B H s.x s.en Q fun B' H' g => q b B' H' (.of g s.nb s.pu) rfl (by rw [Int.add_zero]; exact s.pu.ex g.eh)
theorem dpt_test {β : Bool → Prop} (h : DP K p te G k (fun d => ∃ b, d = .bool b ∧ β b)) : DPT K p (tTest te) G k β := fun σ B H n s l Q q => h σ B H n s l _ fun v B' H' d g r ⟨b, e, hb⟩ pu => by
  subst e
  exact ⟨b, rt_bool r, q b B' H' g hb pu⟩
theorem dpa_nil : DPA K p tNil G 0 (fun ds => ds = []) := fun σ B H n s _ Q q => q [] B H [] (.refl s.x s.nb) .nil rfl (by rw [Int.add_zero]; exact s.pu)
theorem dpa_cons {tr : TA} {Φ : List PyData → Prop} (h : DP K p te G k1 φ) (hr : DPA K p tr G k2 Φ) (p1 : 0 ≤ k1) (p2 : 0 ≤ k2) : DPA K p (tCons te tr) G (k1 + k2) (fun ds => ∃ d es, ds = d :: es ∧ φ d ∧ Φ es) := fun σ B H n s l Q q =>
  h σ B H n s (by omega) _ fun v B1 H1 d g1 r1 f1 pu1 => hr σ B1 H1 (n + k1) (s.go g1 pu1) (by omega) _ fun vs B2 H2 ds g2 r2 f2 pu2 => q (v :: vs) B2 H2 (d :: ds) (g1.trans g2 pu1 s.nb) (.cons (r1.ex g2.eb) r2) ⟨d, ds, rfl, f1, f2⟩ (by rw [← Int.add_assoc]; exact pu2)
theorem dpa_of {ta : TA} {ds : List PyData} (h : DA K ta G ds) : DPA K p ta G 0 (fun e => e = ds) := fun σ B H n s _ Q q => h σ B H s.x s.en Q fun v B' H' g r => q v B' H' ds (.of g s.nb s.pu) r rfl (by rw [Int.add_zero]; exact s.pu.ex g.eh)
theorem dpa_imp {tr : TA} {Φ Ψ : List PyData → Prop} (h : DPA K p tr G k Φ) (e : ∀ ds, Φ ds → Ψ ds) : DPA K p tr G k Ψ := fun σ B H n s l Q q => h σ B H n s l Q fun v B' H' d g r f pu => q v B' H' d g r (e d f) pu
theorem dp_op {r : R2} {f : PyData → PyData → PyData} (h1 : DP K p ta G k1 φ1) (h2 : DP K p tb G k2 φ2) (p1 : 0 ≤ k1) (p2 : 0 ≤ k2) (hr : ∀ d e, φ1 d → φ2 e → RD K r d e (f d e)) : DP K p (tOp r ta tb) G (k1 + k2) (fun z => ∃ d e, φ1 d ∧ φ2 e ∧ z = f d e) := fun σ B H n s l Q q =>
  h1 σ B H n s (by omega) _ fun v B1 H1 d g1 r1 f1 pu1 => h2 σ B1 H1 (n + k1) (s.go g1 pu1) (by omega) _ fun w B2 H2 e g2 r2 f2 pu2 =>
    hr d e f1 f2 B2 H2 v w g2.sub (r1.ex g2.eb) r2 _ fun z B3 H3 g3 r3 => q z B3 H3 (f d e) ((g1.trans g2 pu1 s.nb).trans (.of g3 g2.np pu2) pu2 s.nb) r3 ⟨d, e, f1, f2, rfl⟩ (by rw [← Int.add_assoc]; exact pu2.ex g3.eh)
theorem dp_cb {r : List V → Hp → VK → Prop} {tr : TA} {Φ : List PyData → Prop} {f : List PyData → PyData} (h : DPA K p tr G k Φ) (hr : ∀ ds, Φ ds → CD K r ds (f ds)) : DP K p (tCB r tr) G k (fun z => ∃ ds, Φ ds ∧ z = f ds) := fun σ B H n s l Q q =>
  h σ B H n s l _ fun vs B1 H1 ds g1 r1 f1 pu1 => hr ds f1 B1 H1 vs g1.sub r1 _ fun z B2 H2 g2 r2 => q z B2 H2 (f ds) (g1.trans (.of g2 g1.np pu1) pu1 s.nb) r2 ⟨ds, f1, rfl⟩ (pu1.ex g2.eh)
/-- a call that is given the purse first -/
theorem dp_call {tr : TA} {Φ pre : List PyData → Prop} {R : List PyData → PyData → Prop} {E : XK} (h : DPA K p tr G k1 Φ) (hp : ∀ ds, Φ ds → pre ds) (p1 : 0 ≤ k1) (p2 : 0 ≤ k2) : DP K p (tCall (spP K pre R k2) [] E (tCons (tVar 0) tr)) G (k1 + k2) (fun z => ∃ ds, Φ ds ∧ R ds z) := fun σ B H n s l Q q => by
  refine ⟨V.ref p, s.sl, ?_⟩
  refine h σ B H n s (by omega) _ fun vs B1 H1 ds g1 r1 f1 pu1 => ?_
  show spP K pre R k2 ((V.ref p :: vs) ++ []) H1 Q E
  rw [List.append_nil]
  have n0 : 0 ≤ n := by
    obtain ⟨_, _, c, _, _, _, _, c0, c1⟩ := s.pu
    omega
  exact ⟨p, vs, B1, ds, n + k1, rfl, g1.sub, g1.np, r1, pu1, by omega, by omega, hp ds f1, fun v B' H' d g r hR pu => q v B' H' d (g1.trans g pu1 s.nb) r ⟨ds, f1, hR⟩ (by rw [← Int.add_assoc]; exact pu)⟩
theorem dp_tup {tr : TA} {Φ : List PyData → Prop} (h : DPA K p tr G k Φ) (hp : ∀ ds, Φ ds → ds.all plain = true ∧ ds.length ≤ 1000) : DP K p (tTup tr) G k (fun z => ∃ ds, Φ ds ∧ z = .tuple ds) := fun σ B H n s l Q q =>
  h σ B H n s l _ fun vs B1 H1 ds g1 r1 f1 pu1 => ⟨by rw [Paired.length r1]; exact Nat.le_trans (hp ds f1).2 (by decide), fun a hn => by
    have g2 : Go B1 H1 (upd B1 a (.tup vs)) (upd H1 a (.tup vs)) := Go.new g1.sub hn
    exact q _ _ _ (.tuple ds) (g1.trans (.of g2 g1.np pu1) pu1 s.nb) (.d (.tup (.inl (.inl upd_same)) ((RtA.ex g2.eb r1).dps (hp ds f1).1))) ⟨ds, f1, rfl⟩ (pu1.ex g2.eh)⟩
theorem dp_lst {tr : TA} {Φ : List PyData → Prop} (h : DPA K p tr G k Φ) (hp : ∀ ds, Φ ds → ds.all plain = true ∧ ds.length ≤ 1000) : DP K p (tLst tr) G k (fun z => ∃ ds, Φ ds ∧ z = .list ds) := fun σ B H n s l Q q =>
  h σ B H n s l _ fun vs B1 H1 ds g1 r1 f1 pu1 => ⟨by rw [Paired.length r1]; exact Nat.le_trans (hp ds f1).2 (by decide), fun a hn => by
    have g2 : Go B1 H1 (upd B1 a (.lst vs)) (upd H1 a (.lst vs)) := Go.new g1.sub hn
    exact q _ _ _ (.list ds) (g1.trans (.of g2 g1.np pu1) pu1 s.nb) (.d (.lst (.inl (.inl upd_same)) ((RtA.ex g2.eb r1).dps (hp ds f1).1))) ⟨ds, f1, rfl⟩ (pu1.ex g2.eh)⟩
theorem dp_if {β : Bool → Prop} (h : DPT K p tt G k1 β) (h1 : β true → DP K p ta G k2 φ) (h2 : β false → DP K p tb G k2 φ) (p2 : 0 ≤ k2) : DP K p (tIf tt ta tb) G (k1 + k2) φ := fun σ B H n s l Q q =>
  h σ B H n s (by omega) _ fun b B1 H1 g1 f1 pu1 => by
    cases b with
    | true =>
      rw [if_pos rfl]
      exact h1 f1 σ B1 H1 (n + k1) (s.go g1 pu1) (by omega) _ fun v B2 H2 d g2 r2 f2 pu2 => q v B2 H2 d (g1.trans g2 pu1 s.nb) r2 f2 (by rw [← Int.add_assoc]; exact pu2)
    | false =>
      rw [if_neg Bool.false_ne_true]
      exact h2 f1 σ B1 H1 (n + k1) (s.go g1 pu1) (by omega) _ fun v B2 H2 d g2 r2 f2 pu2 => q v B2 H2 d (g1.trans g2 pu1 s.nb) r2 f2 (by rw [← Int.add_assoc]; exact pu2)
/-! ### lines -/
variable {t1 t2 ts : TS}
theorem dps_ret (h : DP K p te G k φ) : DPS K p (tRet te) G k φ := fun D σ B H n s l q => h σ B H n s l _ q
theorem dps_up (h : DPS K p ts G k1 φ) (e : k1 ≤ k) : DPS K p ts G k φ := fun D σ B H n s l q => h D σ B H n s (by omega) fun v B' H' d g r f pu => q v B' H' d g r f (pu.up (by omega))
theorem dps_imp (h : DPS K p ts G k φ1) (e : ∀ d, φ1 d → φ d) : DPS K p ts G k φ := fun D σ B H n s l q => h D σ B H n s l fun v B' H' d g r f pu => q v B' H' d g r (e d f) pu
theorem dps_set {i : Nat} (hi : i ≠ 0) (h : DP K p te G k1 φ1) (hr : ∀ d, φ1 d → DPS K p ts (G.set i (some d)) k2 φ) (p2 : 0 ≤ k2) : DPS K p (tSeq (tAsg te (gName i)) ts) G (k1 + k2) φ := fun D σ B H n s l q =>
  h σ B H n s (by omega) _ fun v B1 H1 d g1 r1 f1 pu1 => hr d f1 D _ B1 H1 (n + k1) ((s.go g1 pu1).set hi r1) (by omega) fun v B2 H2 e g2 r2 f2 pu2 => q v B2 H2 e (g1.trans g2 pu1 s.nb) r2 f2 (by rw [← Int.add_assoc]; exact pu2)
theorem dps_guard {β : Bool → Prop} (h : DPT K p tt G k1 β) (h1 : β true → DPS K p t1 G k2 φ) (h2 : β false → DPS K p t2 G k2 φ) (p2 : 0 ≤ k2) : DPS K p (tSeq (tIfS tt t1 tNext) t2) G (k1 + k2) φ := fun D σ B H n s l q =>
  h σ B H n s (by omega) _ fun b B1 H1 g1 f1 pu1 => by
    cases b with
    | true =>
      rw [if_pos rfl]
      exact h1 f1 _ σ B1 H1 (n + k1) (s.go g1 pu1) (by omega) fun v B2 H2 d g2 r2 f2 pu2 => q v B2 H2 d (g1.trans g2 pu1 s.nb) r2 f2 (by rw [← Int.add_assoc]; exact pu2)
    | false =>
      rw [if_neg Bool.false_ne_true]
      exact h2 f1 _ σ B1 H1 (n + k1) (s.go g1 pu1) (by omega) fun v B2 H2 d g2 r2 f2 pu2 => q v B2 H2 d (g1.trans g2 pu1 s.nb) r2 f2 (by rw [← Int.add_assoc]; exact pu2)
theorem dps_seq {ψ : List (Option PyData) → Prop} (h : DPN K p t1 G k1 ψ) (hr : ∀ G', ψ G' → DPS K p t2 G' k2 φ) (p2 : 0 ≤ k2) : DPS K p (tSeq t1 t2) G (k1 + k2) φ := fun D σ B H n s l q =>
  h _ σ B H n s (by omega) fun σ1 B1 H1 G1 g1 f1 s1 => hr G1 f1 D σ1 B1 H1 (n + k1) s1 (by omega) fun v B2 H2 d g2 r2 f2 pu2 => q v B2 H2 d (g1.trans g2 s1.pu s.nb) r2 f2 (by rw [← Int.add_assoc]; exact pu2)
theorem dpn_set {i : Nat} (hi : i ≠ 0) (h : DP K p te G k φ) : DPN K p (tAsg te (gName i)) G k (fun G' => ∃ d, φ d ∧ G' = G.set i (some d)) := fun D σ B H n s l q =>
  h σ B H n s l _ fun v B1 H1 d g1 r1 f1 pu1 => q _ B1 H1 _ g1 ⟨d, f1, rfl⟩ ((s.go g1 pu1).set hi r1)
theorem dpn_seq {ψ1 ψ2 : List (Option PyData) → Prop} (h : DPN K p t1 G k1 ψ1) (hr : ∀ G', ψ1 G' → DPN K p t2 G' k2 ψ2) (p2 : 0 ≤ k2) : DPN K p (tSeq t1 t2) G (k1 + k2) ψ2 := fun D σ B H n s l q =>
  h _ σ B H n s (by omega) fun σ1 B1 H1 G1 g1 f1 s1 => hr G1 f1 D σ1 B1 H1 (n + k1) s1 (by omega) fun σ2 B2 H2 G2 g2 f2 s2 => q σ2 B2 H2 G2 (g1.trans g2 s1.pu s.nb) f2 (by rw [← Int.add_assoc]; exact s2)
theorem dpn_up {ψ : List (Option PyData) → Prop} (h : DPN K p ts G k1 ψ) (e : k1 ≤ k) : DPN K p ts G k ψ := fun D σ B H n s l q => h D σ B H n s (by omega) fun σ' B' H' G' g f s' => q σ' B' H' G' g f ⟨s'.x, s'.nb, s'.en, s'.pu.up (by omega), s'.sl⟩
theorem dpn_imp {ψ1 ψ2 : List (Option PyData) → Prop} (h : DPN K p ts G k ψ1) (e : ∀ G', ψ1 G' → ψ2 G') : DPN K p ts G k ψ2 := fun D σ B H n s l q => h D σ B H n s l fun σ' B' H' G' g f s' => q σ' B' H' G' g (e G' f) s'
theorem dpn_if {β : Bool → Prop} {ψ : List (Option PyData) → Prop} (h : DPT K p tt G k1 β) (h1 : β true → DPN K p t1 G k2 ψ) (h2 : β false → DPN K p t2 G k2 ψ) (p2 : 0 ≤ k2) : DPN K p (tIfS tt t1 t2) G (k1 + k2) ψ := fun D σ B H n s l q =>
  h σ B H n s (by omega) _ fun b B1 H1 g1 f1 pu1 => by
    cases b with
    | true =>
      rw [if_pos rfl]
      exact h1 f1 D σ B1 H1 (n + k1) (s.go g1 pu1) (by omega) fun σ2 B2 H2 G2 g2 f2 s2 => q σ2 B2 H2 G2 (g1.trans g2 pu1 s.nb) f2 (by rw [← Int.add_assoc]; exact s2)
    | false =>
      rw [if_neg Bool.false_ne_true]
      exact h2 f1 D σ B1 H1 (n + k1) (s.go g1 pu1) (by omega) fun σ2 B2 H2 G2 g2 f2 s2 => q σ2 B2 H2 G2 (g1.trans g2 pu1 s.nb) f2 (by rw [← Int.add_assoc]; exact s2)
theorem dpn_next : DPN K p tNext G 0 (fun G' => G' = G) := fun D σ B H n s _ q => q σ B H G (.refl s.x s.nb) rfl (by rw [Int.add_zero]; exact s)
end
/-! ### walks -/
/-- what is walked, n turns; turn i sets the slots as ff i says -/
def TurnsP (K : PySem.W.Frag) (g : TG) (T : List Nat) (J : It) (B1 : Hp) (n : Nat) (ff : Nat → List (Option PyData) → List (Option PyData)) : Prop :=
  ∃ Y, Walk J n (fun H2 => Ex B1 H2) Y ∧ ∀ i, i < n → ∀ B2 H2 σ2 G2 x H3, Ex B1 B2 → Ex B2 H2 → En K B2 σ2 G2 → Y i H2 x H3 → ∀ Q : L2.St → Hp → Prop, (∀ σ' B' H4, Go B2 H2 B' H4 → En K B' σ' (ff i G2) → (∀ vs, (∀ j ∈ T, j ∈ vs) → wipe σ' vs = wipe σ2 vs) → Q σ' H4) → g x σ2 H3 Q
def DPI (K : PySem.W.Frag) (p : Addr) (wi : TI) (g : TG) (T : List Nat) (G : List (Option PyData)) (k : Int) (χ : Nat → (Nat → List (Option PyData) → List (Option PyData)) → Prop) : Prop :=
  ∀ σ B H n, StP K p B H σ G n → n + k ≤ LIM → ∀ R : It → Hp → Prop, (∀ J B1 H1 m ff, GoP p B H B1 H1 → Purse H1 (n + k) p → χ m ff → TurnsP K g T J B1 m ff → R J H1) → wi σ H R
theorem wipe_get {vs : List Nat} {σ : L2.St} {j : Nat} (h : j ∉ vs) : (wipe σ vs)[j]? = σ[j]? := by
  induction vs with
  | nil => rfl
  | cons v vs ih =>
    show ((wipe σ vs).set v none)[j]? = _
    rw [List.getElem?_set_ne (fun e => h (by rw [e]; exact List.mem_cons_self ..)), ih fun z => h (List.mem_cons_of_mem _ z)]
section
variable {K : PySem.W.Frag} {p : Addr} {G : List (Option PyData)} {te td : TE} {tt : TT} {g : TG} {T : List Nat} {wi : TI} {k k1 k2 : Int}
theorem dpi_of {m : Nat} {ff : Nat → List (Option PyData) → List (Option PyData)} (h : DI K wi g T G m ff) : DPI K p wi g T G 0 (fun a b => a = m ∧ b = ff) := fun σ B H n s l R q =>
  h σ B H s.x s.en R fun J B1 H1 Y g1 w t => q J B1 H1 m ff (.of g1 s.nb s.pu) (by rw [Int.add_zero]; exact s.pu.ex g1.eh) ⟨rfl, rfl⟩ ⟨Y, w, t⟩
theorem dpi_list {j : Nat} {φ : PyData → Prop} (h : DP K p te G k (fun d => ∃ ds, d = .list ds ∧ φ d)) : DPI K p (iList K te) (gName j) [j] G k (fun m ff => ∃ ds, φ (.list ds) ∧ m = ds.length ∧ ff = fun i G2 => G2.set j ds[i]?) := fun σ B H n s l R q =>
  h σ B H n s l _ fun v B1 H1 d g1 r1 ⟨ds, e, f⟩ pu => by
    subst e
    have r1 := r1.dp rfl
    cases r1 with
    | @lst a xs _ hs ha =>
      refine ⟨a, rfl, ⟨xs, ex_l g1.sub hs⟩, ?_⟩
      have hl := dps_len ha
      refine q (Itl K a) B1 H1 ds.length _ g1 pu ⟨ds, f, rfl, rfl⟩ ⟨YAt xs, ?_, fun i hi B2 H2 σ2 G2 y H3 e1 e2 en2 hy Q k => ?_⟩
      · rw [← hl]
        exact walk_list.mono (fun H2 e => ex_l e hs) fun _ _ _ _ _ _ y => y
      · obtain ⟨rfl, hy⟩ := hy
        have hd : ds[i]? = some ds[i] := List.getElem?_eq_getElem hi
        obtain ⟨y', h1, h2⟩ := dps_get ha hd
        obtain rfl : y = y' := Option.some.inj (hy.symm.trans h1)
        refine k _ B2 H3 (.refl e2) ?_ fun vs hv => wipe_set (hv j (List.mem_singleton.mpr rfl))
        show En K B2 _ (G2.set j ds[i]?)
        rw [hd]
        exact en2.set j (.d (dp_ex e1 _ _ h2))
theorem dpi_range {ta : TA} {j : Nat} {φ : Int → Prop} (h : DPA K p ta G k (fun ds => ∃ m : Int, ds = [.int m] ∧ 0 ≤ m ∧ m ≤ 100000 ∧ φ m)) : DPI K p (iRng1 ta) (gName j) [j] G k (fun m ff => φ (m : Nat) ∧ ff = fun i G2 => G2.set j (some (.int (i : Nat)))) := fun σ B H n s l R q =>
  h σ B H n s l _ fun vs B1 H1 ds g1 r1 ⟨m, e, h0, h1, f⟩ pu => by
    subst e
    cases r1 with
    | cons r1 r2 =>
      cases r2
      have e := rt_int r1
      subst e
      refine ⟨m, rfl, by omega, by omega, ?_⟩
      refine q (Itr 0 m.toNat) B1 H1 m.toNat _ g1 pu ⟨by rw [Int.toNat_of_nonneg h0]; exact f, rfl⟩ ⟨YFn fun i => .int (0 + (i : Nat)), ?_, fun i hi B2 H2 σ2 G2 y H3 e1 e2 en2 hy Q k => ?_⟩
      · exact walk_range.mono (fun _ _ => trivial) fun _ _ _ _ _ _ y => y
      · obtain ⟨rfl, rfl⟩ := hy
        show gName j (V.int (0 + (i : Int))) σ2 H3 Q
        rw [Int.zero_add]
        exact k _ B2 H3 (.refl e2) (en2.set j (.d (.int _))) fun vs hv => wipe_set (hv j (List.mem_singleton.mpr rfl))
end
end FJ
namespace FJ
open PySem PySem.Spec PyProof.Rows L2 FC FG FP
open Evl (Ex)
section
variable {K : PySem.W.Frag} {p : Addr} {G : List (Option PyData)} {te td : TE} {g : TG} {T : List Nat} {wi : TI} {k k1 k2 : Int}
theorem StP.wipe {B H : Hp} {σ : L2.St} {n : Int} {vs : List Nat} (s : StP K p B H σ G n) (h : 0 ∉ vs) : StP K p B H (L2.wipe σ vs) (wipeG G vs) n := ⟨s.x, s.nb, s.en.wipe vs, s.pu, by rw [wipe_get h]; exact s.sl⟩
theorem StP.same {B H B' H' : Hp} {σ σ' : L2.St} {G' : List (Option PyData)} {n : Int} {vs : List Nat} (s : StP K p B H σ G n) (g : Go B H B' H') (en : En K B' σ' G') (h : 0 ∉ vs) (hw : L2.wipe σ' vs = L2.wipe σ vs) : StP K p B' H' σ' G' n := by
  have gp : GoP p B H B' H' := .of g s.nb s.pu
  exact ⟨gp.sub, gp.np, en, s.pu.ex g.eh, by rw [← wipe_get (vs := vs) h, hw, wipe_get h]; exact s.sl⟩
theorem n_pos {H : Hp} {n : Int} (h : Purse H n p) : 0 ≤ n := by
  obtain ⟨_, _, c, _, _, _, _, c0, c1⟩ := h
  omega
/-- [te for .. in ..], with draws -/
theorem dp_lc {vs : List Nat} {χ : Nat → (Nat → List (Option PyData) → List (Option PyData)) → Prop} {nm : Nat} {ψ : Nat → (Nat → List (Option PyData) → List (Option PyData)) → Nat → PyData → Prop}
    (hi : DPI K p wi g T G k χ) (hT : ∀ j ∈ T, j ∈ vs) (h0 : 0 ∉ vs) (p2 : 0 ≤ k2) (hn : ∀ n ff, χ n ff → n ≤ nm) (hm : nm ≤ 1000)
    (he : ∀ n ff i, χ n ff → i < n → DP K p te (ff i (wipeG G vs)) k2 (fun d => plain d = true ∧ ψ n ff i d)) :
    DP K p (tLc wi g tYes te vs) G (k + nm * k2) (fun z => ∃ n ff ds, χ n ff ∧ z = .list ds ∧ ds.length = n ∧ ∀ i d, ds[i]? = some d → ψ n ff i d) := fun σ B H n s l Q q => by
  have pn := n_pos s.pu
  have km : 0 ≤ (nm : Int) * k2 := Int.mul_nonneg (by omega) p2
  refine hi σ B H n s (by omega) _ fun J B1 H1 m ff g1 pu1 hχ ⟨Y, W, turn⟩ => fun D hD => ?_
  have hmn := hn m ff hχ
  have s1 := s.go g1 pu1
  have hDp : D ≠ p := by
    intro e
    obtain ⟨o, ho⟩ := pu1.some
    rw [e, ho] at hD
    cases hD
  refine lc_it W (fun i H' => ∃ B' ds vs', GoP p B1 H1 B' H' ∧ B' D = none ∧ H' D = some (.lst vs') ∧ DpAll K B' vs' ds ∧ ds.length = i ∧ (∀ j d, ds[j]? = some d → ψ m ff j d) ∧ Purse H' (n + k + i * k2) p)
    ⟨B1, [], [], ?_, sub_none g1.sub hD, upd_same, .nil, rfl, fun j d z => by simp at z, ?_⟩ (fun i H' _ ⟨B', _, _, p', _⟩ => p'.eb.trans p'.sub) (fun i y H2 H3 hil ⟨B2, ds, vs', p2', nD, hl, da, hlen, hψ, pu2⟩ hy => ?_) (fun H2 ⟨B2, ds, vs', p2', nD, hl, da, hlen, hψ, pu2⟩ => ?_)
  · have gn : Go B1 H1 B1 (upd H1 D (.lst [])) := Go.own g1.sub hD
    exact .of gn g1.np pu1
  · have : n + k + ((0 : Nat) : Int) * k2 = n + k := by simp
    rw [this]
    exact pu1.ex (Evl.Ex.new hD)
  · have s2 : StP K p B2 H2 (wipe σ vs) (wipeG G vs) (n + k + i * k2) := ((s1.wipe h0).go p2' pu2)
    refine turn i hil B2 H2 (wipe σ vs) (wipeG G vs) y H3 p2'.eb p2'.sub s2.en hy _ fun σ' B3 H4 g3 en3 hw => ⟨?_, ?_⟩
    · exact (hw vs hT).trans (wipe_wipe fun _ h => h)
    · dsimp only [tYes]
      rw [if_pos rfl]
      have s3 := s2.same g3 en3 h0 (hw vs hT)
      have lim : n + k + (i : Int) * k2 + k2 ≤ LIM := by
        have h1 : ((i : Int) + 1) * k2 ≤ (nm : Int) * k2 := Int.mul_le_mul_of_nonneg_right (by omega) p2
        rw [Int.add_mul, Int.one_mul] at h1
        omega
      refine he m ff i hχ hil σ' B3 H4 _ s3 lim _ fun z B4 H5 d g4 r4 ⟨hpl, hd⟩ pu4 => ?_
      have gp3 : GoP p B2 H2 B3 H4 := .of g3 s2.nb s2.pu
      have l4 : H4 D = some (.lst vs') := g3.eh D _ hl
      have l5 : H5 D = some (.lst vs') := g4.eh D _ hDp l4
      have n3 : B3 D = none := g3.fr D _ hl nD
      have n4 : B4 D = none := g4.fr D _ l4 n3
      have da4 := dps_ex g4.eb _ _ (dps_ex g3.eb _ _ da)
      have hvl := dps_len da
      refine ⟨vs', l5, Nat.lt_of_le_of_lt (show vs'.length ≤ 1000 by omega) (by decide), B4, ds ++ [d], vs' ++ [z], ?_, n4, upd_same, dps_snoc (r4.dp hpl) da4, by rw [List.length_append, hlen]; rfl, ?_, ?_⟩
      · have ga := (p2'.trans gp3 s2.pu g1.np).trans g4 s3.pu g1.np
        exact ⟨ga.eb, fun q o hq h => by
          have hqD : q ≠ D := fun e => by rw [e, hD] at h; cases h
          rw [upd_ne hqD]
          exact ga.eh q o hq h, fun a o h => by
          have haD : a ≠ D := fun e => by rw [e, n4] at h; cases h
          rw [upd_ne haD]
          exact ga.sub a o h, ga.np, ga.fr⟩
      · intro j e hj
        rw [List.getElem?_append] at hj
        split at hj
        · exact hψ j e hj
        · rename_i hh
          have : j - ds.length = 0 := by
            cases hx : j - ds.length with
            | zero => rfl
            | succ w => rw [hx] at hj; simp at hj
          rw [this] at hj
          have hj2 : j = i := by omega
          simp at hj
          subst hj hj2
          exact hd
      · have e : n + k + ((i + 1 : Nat) : Int) * k2 = n + k + (i : Int) * k2 + k2 := by
          rw [Int.natCast_add, Int.add_mul]
          simp
          omega
        rw [e]
        obtain ⟨a, b, c, hp, r⟩ := pu4
        exact ⟨a, b, c, by rw [upd_ne (Ne.symm hDp)]; exact hp, r⟩
  · have e2 : n + k + (m : Int) * k2 ≤ n + (k + nm * k2) := by
      have h1 : (m : Int) * k2 ≤ (nm : Int) * k2 := Int.mul_le_mul_of_nonneg_right (by omega) p2
      omega
    have ga := g1.trans p2' pu1 s.nb
    refine q (.ref D) (upd B2 D (.lst vs')) H2 (.list ds) ?_ (.d (.lst (.inl (.inl upd_same)) (dps_ex (Evl.Ex.new nD) _ _ da))) ⟨m, ff, ds, hχ, rfl, hlen, hψ⟩ (pu2.up e2)
    refine ⟨ga.eb.trans (Evl.Ex.new nD), ga.eh, fun a o h => ?_, by rw [upd_ne (Ne.symm hDp)]; exact ga.np, fun a o h nb => ?_⟩
    · by_cases e : a = D
      · subst e
        rw [upd_same] at h
        rw [← h]
        exact hl
      · rw [upd_ne e] at h
        exact ga.sub a o h
    · by_cases e : a = D
      · subst e
        by_cases hDH : a = p
        · exact absurd hDH hDp
        · have := g1.eh a o hDH h
          rw [hD] at this
          cases this
      · rw [upd_ne e]
        exact ga.fr a o h nb
/-- a for over what is walked, with draws -/
theorem dpn_for {tb : TS} {χ : Nat → (Nat → List (Option PyData) → List (Option PyData)) → Prop} {nm : Nat} (I : Nat → (Nat → List (Option PyData) → List (Option PyData)) → Nat → List (Option PyData) → Prop)
    (hi : DPI K p wi g T G k χ) (h0 : 0 ∉ T) (p2 : 0 ≤ k2) (hn : ∀ n ff, χ n ff → n ≤ nm) (hI0 : ∀ n ff, χ n ff → I n ff 0 G)
    (hs : ∀ n ff i G', χ n ff → i < n → I n ff i G' → DPN K p tb (ff i G') k2 (I n ff (i + 1))) :
    DPN K p (tFor wi g tb) G (k + nm * k2) (fun G' => ∃ n ff, χ n ff ∧ I n ff n G') := fun D σ B H n s l q => by
  have pn := n_pos s.pu
  have km : 0 ≤ (nm : Int) * k2 := Int.mul_nonneg (by omega) p2
  refine hi σ B H n s (by omega) _ fun J B1 H1 m ff g1 pu1 hχ ⟨Y, W, turn⟩ => ?_
  have hmn := hn m ff hχ
  have s1 := s.go g1 pu1
  refine for_it W (fun i σ' H' => ∃ B' G', GoP p B1 H1 B' H' ∧ I m ff i G' ∧ StP K p B' H' σ' G' (n + k + i * k2)) ⟨B1, G, .refl g1.sub g1.np, hI0 m ff hχ, ?_⟩ (fun i σ' H' _ ⟨B', G', p', _, _⟩ => p'.eb.trans p'.sub) (fun i y σ2 H2 H3 hil ⟨B2, G2, p2', hI, s2⟩ hy => ?_) (fun σ2 H2 ⟨B2, G2, p2', hI, s2⟩ => ?_)
  · have : n + k + ((0 : Nat) : Int) * k2 = n + k := by simp
    rw [this]
    exact s1
  · refine turn i hil B2 H2 σ2 G2 y H3 p2'.eb p2'.sub s2.en hy _ fun σ' B3 H4 g3 en3 hw => ?_
    have s3 := s2.same g3 en3 h0 (hw T fun _ h => h)
    have lim : n + k + (i : Int) * k2 + k2 ≤ LIM := by
      have h1 : ((i : Int) + 1) * k2 ≤ (nm : Int) * k2 := Int.mul_le_mul_of_nonneg_right (by omega) p2
      rw [Int.add_mul, Int.one_mul] at h1
      omega
    have e : n + k + ((i + 1 : Nat) : Int) * k2 = n + k + (i : Int) * k2 + k2 := by
      rw [Int.natCast_add, Int.add_mul]
      simp
      omega
    refine hs m ff i G2 hχ hil hI _ σ' B3 H4 _ s3 lim fun σ5 B5 H5 G5 g5 hI5 s5 => ?_
    have gp3 : GoP p B2 H2 B3 H4 := .of g3 s2.nb s2.pu
    exact ⟨B5, G5, (p2'.trans gp3 s2.pu g1.np).trans g5 s3.pu g1.np, hI5, by rw [e]; exact s5⟩
  · have e2 : n + k + (m : Int) * k2 ≤ n + (k + nm * k2) := by
      have h1 : (m : Int) * k2 ≤ (nm : Int) * k2 := Int.mul_le_mul_of_nonneg_right (by omega) p2
      omega
    exact q σ2 B2 H2 G2 (g1.trans p2' pu1 s.nb) ⟨m, ff, hχ, hI⟩ ⟨s2.x, s2.nb, s2.en, s2.pu.up e2, s2.sl⟩
/-- the body of a def that is given the purse first -/
theorem fin_P {N : List Str} {ts : TS} {us : List V} {ds : List PyData} {φ : PyData → Prop} {B H : Hp} {n : Int} {Q : VK} (h : DPS K p ts (none :: (ds.map some ++ List.replicate (N.length - (ds.length + 1)) none)) k φ)
    (x : Ex B H) (nb : B p = none) (r : RtA K B us ds) (pu : Purse H n p) (l : n + k ≤ LIM) (q : ∀ v B' H' d, GoP p B H B' H' → Rt K B' v d → φ d → Purse H' (n + k) p → Q v H') :
    ts { nx := fun _ H' => Q .non H', rt := Q } (L2.start N (V.ref p :: us)) H := by
  have hl := Paired.length r
  have en := En.start (N := List.replicate us.length Str.empty) r
  refine h _ _ B H n ⟨x, nb, ?_, pu, ?_⟩ l q
  · unfold L2.start
    refine ⟨by simp [hl], fun i d hq => ?_⟩
    cases i with
    | zero => simp at hq
    | succ i =>
      have hq : (ds.map some ++ List.replicate (N.length - (ds.length + 1)) (none : Option PyData))[i]? = some (some d) := by simpa using hq
      have hi : i < ds.length := by
        by_cases hc : i < ds.length
        · exact hc
        · rw [List.getElem?_append_right (by simpa using hc), List.getElem?_replicate] at hq
          split at hq <;> simp at hq
      have e1 : (startG (List.replicate us.length Str.empty) ds)[i]? = some (some d) := by
        unfold startG
        rw [List.getElem?_append_left (by simpa using hi)] at hq ⊢
        exact hq
      obtain ⟨v, h1, h2⟩ := en.get i d e1
      refine ⟨v, ?_, h2⟩
      unfold L2.start at h1
      have hiu : i < us.length := by omega
      rw [List.getElem?_append_left (by simpa using hiu)] at h1
      show ((V.ref p :: us).map some ++ _)[i + 1]? = _
      rw [List.map_cons, List.cons_append, List.getElem?_cons_succ, List.getElem?_append_left (by simpa using hiu)]
      exact h1
  · unfold L2.start
    rfl
end
end FJ
namespace FJ
open PySem PySem.Spec PyProof.Rows L2 FC FG FP
open Evl (Ex)
section
variable {X : Cx}
def CBig (i j : Int) : Prop := 0 ≤ j ∧ (Builtin.Int.intBits i : Int) * j ≤ 2 ^ 27
theorem big18 : CBig 10 18 := by unfold CBig; decide +kernel
theorem big60 : CBig 10 60 := by unfold CBig; decide +kernel
theorem big8 : CBig (10 ^ Int.toNat 60) 8 := by unfold CBig; decide +kernel
theorem pos8 : (0 : Int) < (10 ^ Int.toNat 60) ^ Int.toNat 8 := by decide +kernel
theorem op_powW : OpR X (binaryOp .Pow) (rI CBig fun i j => .int (i ^ j.toNat)) := opI fun _ _ _ _ _ _ _ hc q => PyProof.Rows.pow_int hc.1 hc.2 q
end
section
variable {P : Program} {w : World} {K : PySem.W.Frag} {mg : Str → Option Value} {base : Heap} {f : Addr} {fd : FuncData} {G : List (Option PyData)}
def spMixed : Sp := fun vs H Q _ => ∃ s t : Int, vs = [.int s, .int t] ∧ 0 ≤ s ∧ s < 2 ^ 32 ∧ 0 ≤ t ∧ t ≤ 10000000 ∧ ∀ r : Int, 0 ≤ r → r < 2147483587 → Q (.int r) H
theorem sc_lmixed : FnScope ["seed", "step", "found"] ["seed", "step"] (defScope s_lmixed) := ⟨rfl, rfl, rfl, by decide +kernel, rfl, by decide +kernel, by decide +kernel⟩
theorem ok_lmixed (F : Fun K "_law_mixed" "_law_mixed" s_lmixed f fd) : FnOk P w K mg base CX0 1 f fd ["seed", "step"] spMixed := by
  refine F.ok sc_lmixed (by rintro vs H Q E ⟨s, t, rfl, _⟩; rfl) (fun cdv A outer s H vs Q E hr h => ?_)
  obtain ⟨sd, t, rfl, h1, h2, h3, h4, q⟩ := h
  refine ⟨_, pss_cons (ps_set (i := 2) sc_lmixed.nd rfl (Or.inl rfl) (pe_op op_mod (pe_op op_add (pe_op op_add (pe_op op_mul (pv 0) pe_int) (pe_op op_mul (pe_op op_mul pe_int (pv 1)) (pv 1))) (pv 1)) pe_int))
    (pss_cons (ps_set (i := 2) sc_lmixed.nd rfl (Or.inl rfl) (pe_op op_mod (pe_op op_add (pe_op op_mul (pv 2) (pv 2)) pe_int) pe_int))
    (pss_one (ps_ret (pe_op op_mod (pe_op op_mul (pv 2) pe_int) pe_int)))), ?_⟩
  refine ⟨_, rfl, _, _, rfl, rfl, .inr (by decide), _, rfl, _, _, rfl, rfl, .inl (by decide), _, rfl, _, _, rfl, rfl, .inr ⟨by omega, by omega⟩, _, _, rfl, rfl, _, rfl, _, _, rfl, rfl, _, _, rfl, rfl, (by show (0 : Int) < 2147483647; decide), ?_⟩
  generalize he : (sd * 69069 + 104729 * t * t + t) % 2147483647 = e
  have e0 : 0 ≤ e := by rw [← he]; exact Int.emod_nonneg _ (by decide)
  have e1 : e < 2147483647 := by rw [← he]; exact Int.emod_lt_of_pos _ (by decide)
  refine ⟨_, rfl, _, rfl, _, _, rfl, rfl, .inl ⟨by omega, by omega⟩, _, _, rfl, rfl, _, _, rfl, rfl, (by show (0 : Int) < 2147483629; decide), ?_⟩
  generalize (e * e + 40503) % 2147483629 = e2
  refine ⟨_, rfl, _, _, rfl, rfl, .inr (by decide), _, _, rfl, rfl, (by show (0 : Int) < 2147483587; decide), ?_⟩
  exact q _ (Int.emod_nonneg _ (by decide)) (Int.emod_lt_of_pos _ (by decide))
def spPurse (K : PySem.W.Frag) : Sp := fun vs H Q _ => ∃ (a : Addr) (ns : List Int) (i : Int), vs = [.ref a, .int i] ∧ SqL K H a (ns.map V.int) ∧ 0 ≤ i ∧ i ≤ 1000 ∧
  ∀ p H', Ex H H' → H p = none → Purse H' (1000 * i) p → Q (.ref p) H'
theorem sc_lpurse : FnScope ["script", "at", "cell"] ["script", "at"] (defScope s_lpurse) := ⟨rfl, rfl, rfl, by decide +kernel, rfl, by decide +kernel, by decide +kernel⟩
theorem ok_lpurse (F : Fun K "_law_purse" "_law_purse" s_lpurse f fd) (M : Bl mg) : FnOk P w K mg base CX0 1 f fd ["script", "at"] (spPurse K) := by
  refine F.ok sc_lpurse (by rintro vs H Q E ⟨s, t, i, rfl, _⟩; rfl) (fun cdv A outer s H vs Q E hr h => ?_)
  obtain ⟨a, ns, i, rfl, hS, h1, h2, q⟩ := h
  refine ⟨_, pss_cons (ps_set (i := 2) sc_lpurse.nd rfl (Or.inl rfl) (pe_callB (cr_sum rfl) (by rfl) M.sum PyProof.Rows.boot_sum (pa_cons (pe_slice sl_list (pv 0) (po_some (pv 1)) (po_some (pe_op op_add (pv 1) pe_int))) pa_nil)))
    (pss_one (ps_ret (pe_lst (pa_cons (pe_op op_mod (pe_callB (call_max2 rfl) (by rfl) M.max PyProof.Rows.boot_max (pa_cons (pe_op op_sub (pv 2) (pe_op op_powW pe_int pe_int)) (pa_cons pe_int pa_nil))) (pe_op op_powW (pe_op op_powW pe_int pe_int) pe_int))
      (pa_cons (pe_op op_mod (pv 2) pe_int) (pa_cons (pe_op op_mul pe_int (pv 1)) pa_nil)))))), ?_⟩
  refine ⟨.ref a, rfl, .int i, rfl, i, rfl, .int i, rfl, i, 1, rfl, rfl, i + 1, rfl, a, ns.map V.int, rfl, hS, fun c hc => ?_⟩
  have ec : ∃ ms : List Int, cutV (ns.map V.int) (some i) (some (i + 1)) = ms.map V.int := by
    unfold cutV
    rw [← List.map_drop, ← List.map_take]
    exact ⟨_, rfl⟩
  obtain ⟨ms, ec⟩ := ec
  rw [ec]
  refine ⟨c, ms, rfl, .inl (.inl upd_same), ?_⟩
  refine ⟨_, rfl, _, _, rfl, rfl, big18, _, _, rfl, rfl, _, _, rfl, ?_⟩
  generalize (if (0 : Int) > ms.sum - 10 ^ (18 : Int).toNat then (0 : Int) else ms.sum - 10 ^ (18 : Int).toNat) = mx
  refine ⟨_, _, rfl, rfl, big60, _, _, rfl, rfl, big8, _, _, rfl, rfl, pos8, ?_⟩
  refine ⟨_, rfl, _, _, rfl, rfl, (by show (0 : Int) < 2147483629; decide), _, rfl, _, _, rfl, rfl, .inl (by decide), (by show 3 ≤ sizeLine; decide), fun p hp => ?_⟩
  have e1 : Ex H (upd H c (.lst (ms.map V.int))) := Evl.Ex.new hc
  exact q p _ (e1.trans (Evl.Ex.new hp)) (Evl.fresh_back e1 hp) ⟨_, _, 1000 * i, upd_same, Int.emod_nonneg _ (Int.ne_of_gt pos8), Int.emod_nonneg _ (by decide), Int.emod_lt_of_pos _ (by decide), by omega, Int.le_refl _⟩
def pre_draw : List PyData → Prop := fun ds => ∃ m : Int, ds = [.int m] ∧ 1 ≤ m ∧ m ≤ 1000
def R_draw : List PyData → PyData → Prop := fun ds d => ∃ m r : Int, ds = [.int m] ∧ d = .int r ∧ 0 ≤ r ∧ r < m
theorem bits28 {m : Int} (h1 : 1 ≤ m) (h2 : m ≤ 1000) : ((Builtin.Int.intBits m : Nat) : Int) / 28 = 0 := by
  have key : ∀ n : Nat, n ≤ 1000 → Builtin.Int.intBits (n : Int) ≤ 10 := by
    intro n hn
    have := (by decide +kernel : ∀ n : Fin 1001, Builtin.Int.intBits ((n.val : Nat) : Int) ≤ 10)
    exact this ⟨n, by omega⟩
  have h := key m.toNat (by omega)
  rw [Int.toNat_of_nonneg (by omega)] at h
  omega
theorem gop_mut {p : Addr} {B H : Hp} {o : HO} (x : Ex B H) (nb : B p = none) : GoP p B H B (upd H p o) := by
  refine ⟨Evl.Ex.refl _, fun q u hq h => by rw [upd_ne hq]; exact h, fun a u h => ?_, nb, fun _ _ _ h => h⟩
  have ha : a ≠ p := fun e => by rw [e, nb] at h; cases h
  rw [upd_ne ha]
  exact x a u h
theorem sc_ldraw : FnScope ["purse", "many", "drawn", "found", "piece"] ["purse", "many"] (defScope s_ldraw) := ⟨rfl, rfl, rfl, by decide +kernel, rfl, by decide +kernel, by decide +kernel⟩
theorem spP_len {pre : List PyData → Prop} {R : List PyData → PyData → Prop} {k : Int} {j : Nat} (h : ∀ ds, pre ds → ds.length = j) : ∀ vs H Q E, spP K pre R k vs H Q E → vs.length = j + 1 := by
  rintro vs H Q E ⟨p, us, B, ds, n, rfl, _, _, r, _, _, _, hp, _⟩
  rw [List.length_cons, Paired.length r, h ds hp]
theorem ok_ldraw (F : Fun K "_law_draw" "_law_draw" s_ldraw f fd) (M : Bl mg) (cm : Cl P w K mg base 1 "_law_mixed" spMixed) : FnOk P w K mg base CX0 2 f fd ["purse", "many"] (spP K pre_draw R_draw 1) := by
  refine F.ok sc_ldraw (spP_len (by rintro _ ⟨_, rfl, _⟩; rfl)) (fun cdv A outer s H vs Q E hr h => ?_)
  obtain ⟨p, us, B, ds, n, rfl, x, nb, rr, ⟨a, b, c, hp, a0, b0, b1, c0, c1⟩, n0, hn, ⟨m, rfl, m1, m2⟩, q⟩ := h
  obtain ⟨u, rfl, ru⟩ : ∃ u, us = [u] ∧ Rt K B u (.int m) := by
    cases rr with
    | cons r1 r2 => cases r2; exact ⟨_, rfl, r1⟩
  cases rt_int ru
  have q : ∀ (r : Int) (o : HO), 0 ≤ r → r < m → Purse (upd H p o) (n + 1) p → Q (.int r) (upd H p o) := fun r o h1 h2 h3 => q _ B _ (.int r) (gop_mut x nb) (.d (.int r)) ⟨m, r, rfl, rfl, h1, h2⟩ h3
  have hn : n + 1 ≤ 9000000 := hn
  have nd := sc_ldraw.nd
  refine ⟨_, pss_cons (ps_if (pt_cmpR op_gt (pe_ix ix_list (pv 0) pe_int (fun _ _ => rfl)) pe_int (nomark _))
      (pss_cons (ps_set (i := 2) nd rfl (Or.inl rfl) (pe_op op_mod (pe_ix ix_list (pv 0) pe_int (fun _ _ => rfl)) (pv 1)))
      (pss_cons (ps_asg (pe_op op_fdiv (pe_ix ix_list (pv 0) pe_int (fun _ _ => rfl)) (pv 1)) (pg_sub (pv 0) pe_int set_list))
      (pss_one (ps_ret (pv 2))))) pss_nil)
    (pss_cons (ps_set (i := 3) nd rfl (Or.inl rfl) pe_int)
    (pss_cons (ps_for PassesOwn.never rfl (pi_range1 (by rfl) M.range (pa_cons (pe_op op_add pe_int (pe_op op_fdiv (pe_bits (pv 1)) pe_int)) pa_nil)) (pg_name (i := 4) nd rfl (Or.inl rfl))
      (pss_cons (ps_asg (pe_op op_add (pe_ix ix_list (pv 0) pe_int (fun _ _ => rfl)) pe_int) (pg_sub (pv 0) pe_int set_list))
      (pss_one (ps_set (i := 3) nd rfl (Or.inl rfl) (pe_op op_add (pe_op op_mul (pv 3) pe_int) (pe_cl cm hr (by decide) (by rfl) (pa_cons (pe_ix ix_list (pv 0) pe_int (fun _ _ => rfl)) (pa_cons (pe_ix ix_list (pv 0) pe_int (fun _ _ => rfl)) pa_nil))))))))
    (pss_one (ps_ret (pe_op op_mod (pv 3) (pv 1)))))), ?_⟩
  have hL : ∀ H', H' p = some (.lst (purseV a b c)) → SqL K H' p (purseV a b c) := fun H' h => .inl (.inl h)
  refine ⟨.ref p, rfl, p, _, 0, .int a, rfl, rfl, hL _ hp, atI_nat (j := 0) rfl, a, 0, rfl, rfl, _, rfl, ite2 (fun ha => ?_) (fun ha => ?_)⟩
  · refine ⟨.ref p, rfl, p, _, 0, .int a, rfl, rfl, hL _ hp, atI_nat (j := 0) rfl, .int m, rfl, a, m, rfl, rfl, (by show (0 : Int) < m; omega), ?_⟩
    refine ⟨.ref p, rfl, p, _, 0, .int a, rfl, rfl, hL _ hp, atI_nat (j := 0) rfl, .int m, rfl, a, m, rfl, rfl, ⟨by omega, by omega⟩, .ref p, rfl, p, purseV a b c, 0, 0, rfl, rfl, hp, rfl, ?_⟩
    refine ⟨_, rfl, ?_⟩
    exact q _ _ (Int.emod_nonneg _ (by omega)) (Int.emod_lt_of_pos _ (by omega)) ⟨a / m, b, c, upd_same, Int.ediv_nonneg a0 (by omega), b0, b1, c0, by omega⟩
  · refine ⟨.int m, rfl, m, rfl, _, _, rfl, rfl, ⟨by decide, by decide⟩, 1, _, rfl, rfl, 1 + ((Builtin.Int.intBits m : Nat) : Int) / 28, rfl, ?_, ?_, ?_⟩
    · rw [bits28 m1 m2]; decide
    · rw [bits28 m1 m2]; decide
    · rw [bits28 m1 m2]
      refine for_range (lo := 0) (n := 1) (fun i σ H' => (i = 0 ∧ σ = [some (.ref p), some (.int m), none, some (.int 0), none] ∧ H' = H) ∨ (i = 1 ∧ ∃ (e : Int) (x4 : Option V), σ = [some (.ref p), some (.int m), none, some (.int e), x4] ∧ H' = upd H p (.lst (purseV a b (c + 1))))) (.inl ⟨rfl, rfl, rfl⟩) ?_ ?_
      · rintro i σ H' hi (⟨rfl, rfl, rfl⟩ | ⟨rfl, _⟩)
        · refine ⟨.ref p, rfl, p, _, 2, .int c, rfl, rfl, hL _ hp, atI_nat (j := 2) rfl, c, 1, rfl, rfl, .ref p, rfl, p, purseV a b c, 2, 2, rfl, rfl, hp, rfl, ?_⟩
          have hp2 : (upd H' p (.lst (purseV a b (c + 1)))) p = some (.lst (purseV a b (c + 1))) := upd_same
          refine ⟨.int 0, rfl, 0, 2147483587, rfl, rfl, .inl (by decide), .ref p, rfl, p, _, 1, .int b, rfl, rfl, .inl (.inl hp2), atI_nat (j := 1) rfl, .ref p, rfl, p, _, 2, .int (c + 1), rfl, rfl, .inl (.inl hp2), atI_nat (j := 2) rfl, b, c + 1, rfl, b0, by omega, by omega, by omega, fun r r0 r1 => ?_⟩
          exact ⟨_, r, rfl, rfl, .inr ⟨rfl, _, _, rfl, rfl⟩⟩
        · omega
      · rintro σ H' (⟨h, _⟩ | ⟨_, e, x4, rfl, rfl⟩)
        · omega
        · refine ⟨.int e, rfl, .int m, rfl, e, m, rfl, rfl, (by show (0 : Int) < m; omega), ?_⟩
          exact q _ _ (Int.emod_nonneg _ (by omega)) (Int.emod_lt_of_pos _ (by omega)) ⟨a, b, c + 1, upd_same, a0, b0, b1, by omega, by omega⟩
/-- _law_draw(purse, m) -/
theorem dp_draw {p : Addr} {te : TE} {k : Int} {E : XK} {m : Int} (h : DP K p te G k (fun d => d = .int m)) (pk : 0 ≤ k) (m1 : 1 ≤ m) (m2 : m ≤ 1000) : DP K p (tCall (spP K pre_draw R_draw 1) [] E (tCons (tVar 0) (tCons te tNil))) G (k + 1) (fun z => ∃ r : Int, z = .int r ∧ 0 ≤ r ∧ r < m) := by
  refine dp_imp (dp_up (dp_call (dpa_cons h dpa_nil pk (Int.le_refl 0)) (fun ds ⟨d, es, e, e1, e2⟩ => ⟨m, by rw [e, e1, e2], m1, m2⟩) (by omega) (by decide)) (by omega)) ?_
  rintro z ⟨ds, ⟨d, es, rfl, rfl, rfl⟩, m', r, e, rfl, h1, h2⟩
  cases e
  exact ⟨r, rfl, h1, h2⟩
def pre_one : List PyData → Prop := fun ds => ∃ xs, ds = [.list xs] ∧ 1 ≤ xs.length ∧ xs.length ≤ 1000
def R_one : List PyData → PyData → Prop := fun ds d => ∃ xs, ds = [.list xs] ∧ d ∈ xs
theorem sc_lone_of : FnScope ["purse", "some"] ["purse", "some"] (defScope s_lone_of) := ⟨rfl, rfl, rfl, by decide +kernel, rfl, by decide +kernel, by decide +kernel⟩
theorem ok_lone_of (F : Fun K "_law_one_of" "_law_one_of" s_lone_of f fd) (M : Bl mg) (cd : Cl P w K mg base 2 "_law_draw" (spP K pre_draw R_draw 1)) : FnOk P w K mg base CX0 3 f fd ["purse", "some"] (spP K pre_one R_one 1) := by
  refine F.ok sc_lone_of (spP_len (by rintro _ ⟨_, rfl, _⟩; rfl)) (fun cdv A outer s H vs Q E hr h => ?_)
  obtain ⟨p, us, B, ds, n, rfl, x, nb, rr, pu, n0, hn, ⟨xs, rfl, l1, l2⟩, q⟩ := h
  refine ⟨_, pss_one (ps_ret (pe_ix ix_list (pv 1) (pe_cl cd hr (by decide) (by rfl) (pa_cons (pv 0) (pa_cons (pe_callB call_lenR (by rfl) M.len PySem.boot_len (pa_cons (pv 1) pa_nil)) pa_nil))) (fun _ _ => rfl))), ?_⟩
  refine fin_P (φ := R_one [.list xs]) ?_ x nb rr pu hn q
  show DPS K p _ [none, some (.list xs)] 1 _
  have h1 : DE K (tVar 1) [none, some (.list xs)] (.list xs) := de_var rfl
  refine dps_ret (dp_imp (dp_op (f := fun d e => match e with | .int r => xs.getD r.toNat .none | _ => .none) (dp_of h1) (dp_draw (dp_of (de_cb (da_cons h1 da_nil) cd_lenL)) (Int.le_refl 0) (by omega) (by omega)) (Int.le_refl 0) (by decide) ?_) ?_)
  · rintro d e rfl ⟨r, rfl, h1, h2⟩
    have hr' : r.toNat < xs.length := by omega
    exact rd_ixL (j := r.toNat) (Int.toNat_of_nonneg h1).symm (by show _ = some (xs.getD r.toNat .none); rw [getD_at hr', List.getElem?_eq_getElem hr'])
  · rintro z ⟨d, e, rfl, ⟨r, rfl, h1, h2⟩, rfl⟩
    have hr' : r.toNat < xs.length := by omega
    refine ⟨xs, rfl, ?_⟩
    show xs.getD r.toNat .none ∈ xs
    rw [getD_at hr']
    exact List.getElem_mem hr'
theorem dp_one {p : Addr} {te : TE} {k : Int} {E : XK} {φ : List PyData → Prop} (h : DP K p te G k (fun d => ∃ xs, d = .list xs ∧ 1 ≤ xs.length ∧ xs.length ≤ 1000 ∧ φ xs)) (pk : 0 ≤ k) : DP K p (tCall (spP K pre_one R_one 1) [] E (tCons (tVar 0) (tCons te tNil))) G (k + 1) (fun z => ∃ xs, φ xs ∧ z ∈ xs) := by
  refine dp_imp (dp_up (dp_call (dpa_cons h dpa_nil pk (Int.le_refl 0)) (fun ds ⟨d, es, e, ⟨xs, e1, l1, l2, _⟩, e2⟩ => ⟨xs, by rw [e, e1, e2], l1, l2⟩) (by omega) (by decide)) (by omega)) ?_
  rintro z ⟨ds, ⟨d, es, rfl, ⟨xs, rfl, l1, l2, f⟩, rfl⟩, xs', e, hz⟩
  cases e
  exact ⟨xs, f, hz⟩
end
end FJ
namespace FJ
open PySem PySem.Spec PyProof.Rows L2 FC FG FP
open Evl (Ex)
def pre_shuf : List PyData → Prop := fun ds => ∃ xs, ds = [.list xs] ∧ xs.length ≤ 20
def R_shuf : List PyData → PyData → Prop := fun ds d => ∃ xs ys, ds = [.list xs] ∧ d = .list ys ∧ ys.Perm xs
theorem insert_perm {α : Type} (x : α) (j : Nat) (ys : List α) : (ys.take j ++ [x] ++ ys.drop j).Perm (x :: ys) := by
  have h := List.perm_middle (a := x) (l₁ := ys.take j) (l₂ := ys.drop j)
  rw [List.append_assoc, List.singleton_append]
  rw [List.take_append_drop] at h
  exact h
section
variable {P : Program} {w : World} {K : PySem.W.Frag} {mg : Str → Option Value} {base : Heap} {f : Addr} {fd : FuncData} {G : List (Option PyData)}
theorem sc_lshuffled : FnScope ["purse", "some", "found", "item"] ["purse", "some"] (defScope s_lshuffled) := ⟨rfl, rfl, rfl, by decide +kernel, rfl, by decide +kernel, by decide +kernel⟩
theorem ok_lshuffled (F : Fun K "_law_shuffled" "_law_shuffled" s_lshuffled f fd) (M : Bl mg) (cd : Cl P w K mg base 2 "_law_draw" (spP K pre_draw R_draw 1)) : FnOk P w K mg base CX0 3 f fd ["purse", "some"] (spP K pre_shuf R_shuf 20) := by
  refine F.ok sc_lshuffled (spP_len (by rintro _ ⟨_, rfl, _⟩; rfl)) (fun cdv A outer s H vs Q E hr h => ?_)
  obtain ⟨p, us, B, ds, n, rfl, x, nb, rr, pu, n0, hn, ⟨xs, rfl, l1⟩, q⟩ := h
  obtain ⟨u, rfl, ru⟩ : ∃ u, us = [u] ∧ Rt K B u (.list xs) := by
    cases rr with
    | cons r1 r2 => cases r2; exact ⟨_, rfl, r1⟩
  have nd := sc_lshuffled.nd
  refine ⟨_, pss_cons (ps_set (i := 2) nd rfl (Or.inl rfl) (pe_lst pa_nil))
    (pss_cons (ps_for PassesOwn.never rfl (pi_list (pv 1)) (pg_name (i := 3) nd rfl (Or.inl rfl))
      (pss_one (ps_expr (pe_bm PySem.F.plainAttrs_list PySem.F.slot_list_insert PySem.F.type_list_insert mt_insert (pv 2) (pa_cons (pe_cl cd hr (by decide) (by rfl) (pa_cons (pv 0) (pa_cons (pe_op op_add (pe_callB call_lenR (by rfl) M.len PySem.boot_len (pa_cons (pv 2) pa_nil)) pe_int) pa_nil))) (pa_cons (pv 3) pa_nil))))))
    (pss_one (ps_ret (pv 2)))), ?_⟩
  have ru := ru.dp rfl
  cases ru with
  | @lst a vs _ hs ha =>
  have hlen := dps_len ha
  refine ⟨by show 0 ≤ sizeLine; decide, fun l hl => ?_⟩
  have hlB : B l = none := sub_none x hl
  have hlp : l ≠ p := by
    intro e
    obtain ⟨o, ho⟩ := pu.some
    rw [e, ho] at hl
    cases hl
  have x1 : Ex B (upd H l (.lst [])) := x.trans (Evl.Ex.new hl)
  refine ⟨.ref a, rfl, a, rfl, ⟨vs, ex_l x1 hs⟩, ?_⟩
  refine for_it (n := vs.length) ((walk_list (xs := vs)).mono (G' := fun H2 => Ex B H2) (Y' := YAt vs) (fun H2 e => ex_l e hs) fun _ _ _ _ _ _ y => y)
    (fun i σ H' => ∃ (ys : List PyData) (ws : List V) (x3 : Option V), σ = [some (.ref p), some (.ref a), some (.ref l), x3] ∧ H' l = some (.lst ws) ∧ DpAll K B ws ys ∧ ys.Perm (xs.take i) ∧ (∀ q o, q ≠ p → H q = some o → H' q = some o) ∧ Ex B H' ∧ Purse H' (n + i) p)
    ⟨[], [], none, rfl, upd_same, .nil, List.Perm.refl _, fun q o hq h => by
      have hql : q ≠ l := fun e => by rw [e, hl] at h; cases h
      rw [upd_ne hql]; exact h, x1, by
      have e : n + ((0 : Nat) : Int) = n := by simp
      rw [e]; exact pu.ex (Evl.Ex.new hl)⟩ (fun i σ H' _ ⟨_, _, _, _, _, _, _, _, e, _⟩ => e) ?_ ?_
  · rintro i y σ H' H2 hi ⟨ys, ws, x3, rfl, hl', da, pm, fr, xe, pu'⟩ ⟨rfl, hy⟩
    have hix : i < xs.length := by omega
    have hyl : ys.length = i := by
      rw [pm.length_eq, List.length_take]
      omega
    have hwl := dps_len da
    obtain ⟨y', h1, h2⟩ := dps_get ha (List.getElem?_eq_getElem hix)
    obtain rfl : y = y' := Option.some.inj (hy.symm.trans h1)
    refine ⟨.ref l, rfl, .inl ⟨rfl, _, .inl (.inl hl')⟩, .ref p, rfl, .ref l, rfl, _, _, rfl, .inl ⟨ws, .inl (.inl hl'), rfl⟩, _, _, rfl, rfl, ?_⟩
    have hn : n + 20 ≤ 9000000 := hn
    refine ⟨p, [.int ((ws.length : Int) + 1)], B, [.int ((ws.length : Int) + 1)], n + i, rfl, xe, nb, .cons (.d (.int _)) .nil, pu', by omega, by show n + i + 1 ≤ 9000000; omega, ⟨_, rfl, by omega, by omega⟩, ?_⟩
    rintro v B5 H5 d g5 r5 ⟨m, r, e, rfl, r0, r1⟩ pu5
    cases e
    cases rt_int r5
    have h5 := g5.eh l _ hlp hl'
    refine ⟨y, rfl, l, ws, r, y, rfl, rfl, h5, Nat.lt_of_le_of_lt (show ws.length ≤ 1000 by omega) (by decide), r0, by omega, ?_⟩
    have dr : r.toNat ≤ ws.length := by omega
    refine ⟨ys.take r.toNat ++ [xs[i]] ++ ys.drop r.toNat, _, _, rfl, upd_same, dps_append (dps_drop _ da) (dps_snoc h2 (dps_take _ da)), ?_, fun q o hq h => ?_, fun b o h => ?_, ?_⟩
    · refine (insert_perm _ _ _).trans ?_
      rw [List.take_succ, List.getElem?_eq_getElem hix]
      exact (List.Perm.cons _ pm).trans (List.perm_append_singleton _ _).symm
    · have hql : q ≠ l := fun e => by rw [e, hl] at h; cases h
      rw [upd_ne hql]
      exact g5.eh q o hq (fr q o hq h)
    · have hbl : b ≠ l := fun e => by rw [e, hlB] at h; cases h
      rw [upd_ne hbl]
      exact (g5.eb.trans g5.sub) b o h
    · have e : n + ((i + 1 : Nat) : Int) = n + i + 1 := by
        rw [Int.natCast_add]
        simp
        omega
      rw [e]
      obtain ⟨a1, b1, c1, hp, r'⟩ := pu5
      exact ⟨a1, b1, c1, by rw [upd_ne (Ne.symm hlp)]; exact hp, r'⟩
  · rintro σ H' ⟨ys, ws, x3, rfl, hl', da, pm, fr, xe, pu'⟩
    rw [hlen, List.take_length] at pm
    refine ⟨.ref l, rfl, ?_⟩
    refine q (.ref l) (upd B l (.lst ws)) H' (.list ys) ⟨Evl.Ex.new hlB, fr, fun b o h => ?_, by rw [upd_ne (Ne.symm hlp)]; exact nb, fun b o h hb => ?_⟩ (.d (.lst (.inl (.inl upd_same)) (dps_ex (Evl.Ex.new hlB) _ _ da))) ⟨xs, ys, rfl, rfl, pm⟩ (pu'.up (by omega))
    · by_cases e : b = l
      · subst e
        rw [upd_same] at h
        rw [← h]
        exact hl'
      · rw [upd_ne e] at h
        exact xe b o h
    · have hbl : b ≠ l := fun e => by rw [e, hl] at h; cases h
      rw [upd_ne hbl]
      exact hb
theorem dp_shuf {p : Addr} {te : TE} {k : Int} {E : XK} {φ : List PyData → Prop} (h : DP K p te G k (fun d => ∃ xs, d = .list xs ∧ xs.length ≤ 20 ∧ φ xs)) (pk : 0 ≤ k) : DP K p (tCall (spP K pre_shuf R_shuf 20) [] E (tCons (tVar 0) (tCons te tNil))) G (k + 20) (fun z => ∃ xs ys, φ xs ∧ z = .list ys ∧ ys.Perm xs) := by
  refine dp_imp (dp_up (dp_call (dpa_cons h dpa_nil pk (Int.le_refl 0)) (fun ds ⟨d, es, e, ⟨xs, e1, l1, _⟩, e2⟩ => ⟨xs, by rw [e, e1, e2], l1⟩) (by omega) (by decide)) (by omega)) ?_
  rintro z ⟨ds, ⟨d, es, rfl, ⟨xs, rfl, l1, f⟩, rfl⟩, xs', ys, e, hz, pm⟩
  cases e
  exact ⟨xs, ys, f, hz, pm⟩
end
end FJ
namespace FJ
open PySem PySem.Spec PyProof.Rows L2 FC FG FP
open Evl (Ex)
section
variable {K : PySem.W.Frag} {p : Addr} {G : List (Option PyData)} {ta tb te : TE} {k k1 k2 : Int}
theorem rd_rI0 {g : Int → Int → Int} {i j : Int} : RD K (rI0 fun i j => .int (g i j)) (.int i) (.int j) (.int (g i j)) := fun B H v w x r1 r2 Q q => ⟨i, j, rt_int r1, rt_int r2, q _ B H (.refl x) (.d (.int _))⟩
/-- an operation of whole numbers -/
theorem dp_opI {g : Int → Int → Int} {φ1 φ2 : Int → Prop} (h1 : DP K p ta G k1 (fun d => ∃ i : Int, d = .int i ∧ φ1 i)) (h2 : DP K p tb G k2 (fun d => ∃ i : Int, d = .int i ∧ φ2 i)) (p1 : 0 ≤ k1) (p2 : 0 ≤ k2) :
    DP K p (tOp (rI0 fun i j => .int (g i j)) ta tb) G (k1 + k2) (fun z => ∃ i : Int, z = .int i ∧ ∃ a b, φ1 a ∧ φ2 b ∧ i = g a b) := by
  refine dp_imp (dp_op (f := fun d e => match d, e with | .int i, .int j => .int (g i j) | _, _ => .none) h1 h2 p1 p2 ?_) ?_
  · rintro d e ⟨i, rfl, _⟩ ⟨j, rfl, _⟩
    exact rd_rI0
  · rintro z ⟨d, e, ⟨i, rfl, a⟩, ⟨j, rfl, b⟩, rfl⟩
    exact ⟨_, rfl, i, j, a, b, rfl⟩
theorem dp_int {i : Int} : DP K p (tC (.int i)) G 0 (fun d => ∃ j : Int, d = .int j ∧ j = i) := dp_imp (dp_of de_int) fun d e => ⟨i, e, rfl⟩
theorem dpt_eqI {φ : Int → Prop} {c : Int} (h : DP K p te G k (fun d => ∃ i : Int, d = .int i ∧ φ i)) (pk : 0 ≤ k) : DPT K p (tTest (tOp (rEqD K) te (tC (.int c)))) G k (fun b => ∃ i, φ i ∧ b = (i == c)) := by
  refine dpt_test (dp_up (dp_imp (dp_op (f := fun d e => .bool (PyData.eqv d e)) h (dp_of de_int) pk (Int.le_refl 0) ?_) ?_) (by omega))
  · rintro d e ⟨i, rfl, _⟩ rfl
    exact rd_eq (sh_int _) (sh_int _) rfl rfl
  · rintro z ⟨d, e, ⟨i, rfl, a⟩, rfl, rfl⟩
    exact ⟨_, rfl, i, a, rfl⟩
/-- a[:i] -/
theorem dp_to {φ : List PyData → Prop} {ψ : Int → Prop} (h : DP K p te G k1 (fun d => ∃ ds, d = .list ds ∧ φ ds)) (hb : DP K p tb G k2 (fun d => ∃ i : Int, d = .int i ∧ ψ i)) (p1 : 0 ≤ k1) (p2 : 0 ≤ k2) (hi : ∀ i, ψ i → 0 ≤ i) :
    DP K p (tSl (rSlL K) te tNoPart (tPart tb)) G (k1 + k2) (fun z => ∃ ds i, φ ds ∧ ψ i ∧ z = .list (ds.take i.toNat)) := fun σ B H n s l Q q =>
  h σ B H n s (by omega) _ fun v B1 H1 d g1 r1 ⟨ds, e, f⟩ pu1 => hb σ B1 H1 (n + k1) (s.go g1 pu1) (by omega) _ fun w B2 H2 e2 g2 r2 ⟨i, e3, f2⟩ pu2 => by
    subst e e3
    have r1 := (r1.ex g2.eb).dp rfl
    cases r1 with
    | @lst a xs _ hs ha =>
    refine ⟨i, rt_int r2, a, xs, rfl, ex_l g2.sub hs, fun c hc => ?_⟩
    rw [cut_to (n := i.toNat) (Int.toNat_of_nonneg (hi i f2)).symm]
    have g3 := Go.new g2.sub hc (o := .lst (xs.take i.toNat))
    exact q _ _ _ _ ((g1.trans g2 pu1 s.nb).trans (.of g3 g2.np pu2) pu2 s.nb) (.d (.lst (.inl (.inl upd_same)) (dps_ex g3.eb _ _ (dps_take _ ha)))) ⟨ds, i, f, f2, rfl⟩ (by rw [← Int.add_assoc]; exact pu2.ex g3.eh)
theorem perm_map {α β : Type} {f : α → β} {a b : List β} (h : a.Perm b) : ∀ {ms : List α}, b = ms.map f → ∃ ms' : List α, a = ms'.map f ∧ ms'.Perm ms := by
  induction h with
  | nil =>
    intro ms e
    cases ms with
    | nil => exact ⟨[], rfl, List.Perm.refl _⟩
    | cons => cases e
  | cons x _ ih =>
    intro ms e
    cases ms with
    | nil => cases e
    | cons m ms =>
      rw [List.map_cons] at e
      obtain ⟨e1, e2⟩ := List.cons.inj e
      obtain ⟨ms', h1, h2⟩ := ih e2
      exact ⟨m :: ms', by rw [List.map_cons, ← e1, ← h1], h2.cons m⟩
  | swap x y l =>
    intro ms e
    cases ms with
    | nil => cases e
    | cons m ms =>
      cases ms with
      | nil => cases e
      | cons m2 ms =>
        rw [List.map_cons, List.map_cons] at e
        obtain ⟨e1, e2⟩ := List.cons.inj e
        obtain ⟨e3, e4⟩ := List.cons.inj e2
        exact ⟨m2 :: m :: ms, by rw [List.map_cons, List.map_cons, ← e1, ← e3, ← e4], List.Perm.swap ..⟩
  | trans _ _ ih1 ih2 =>
    intro ms e
    obtain ⟨m1, h1, h2⟩ := ih2 e
    obtain ⟨m2, h3, h4⟩ := ih1 h1
    exact ⟨m2, h3, h4.trans h2⟩
end
/-! ### the first kind -/
def BaseOk (d : PyData) : Prop := (∃ ws : List Str, d = wordsD ws ∧ ws ≠ [] ∧ ws.Nodup ∧ ws.length ≤ 3 ∧ ∀ w ∈ ws, isNameS w = true) ∨ ∃ lo hi : Int, d = numsD lo hi ∧ lo ≤ hi ∧ -3 ≤ lo ∧ hi ≤ 5 ∧ hi ≤ lo + 2
def R_base : List PyData → PyData → Prop := fun _ d => BaseOk d
def W3 : List Str := ["x", "xy", "or"]
theorem w3_names : ∀ w ∈ W3, isNameS w = true := by decide +kernel
theorem w3_nodup : W3.Nodup := by decide +kernel
section
variable {P : Program} {w : World} {K : PySem.W.Frag} {mg : Str → Option Value} {base : Heap} {f : Addr} {fd : FuncData} {G : List (Option PyData)}
abbrev CD1 (P : Program) (w : World) (K : PySem.W.Frag) (mg : Str → Option Value) (base : Heap) : Prop := Cl P w K mg base 2 "_law_draw" (spP K pre_draw R_draw 1)
theorem dp_drawI {p : Addr} {te : TE} {k : Int} {E : XK} {m : Int} (h : DP K p te G k (fun d => d = .int m)) (pk : 0 ≤ k) (m1 : 1 ≤ m) (m2 : m ≤ 1000) : DP K p (tCall (spP K pre_draw R_draw 1) [] E (tCons (tVar 0) (tCons te tNil))) G (k + 1) (fun z => ∃ r : Int, z = .int r ∧ (0 ≤ r ∧ r < m)) := dp_draw h pk m1 m2
theorem sc_lbase : FnScope ["purse", "low"] ["purse"] (defScope s_lbase) := ⟨rfl, rfl, rfl, by decide +kernel, rfl, by decide +kernel, by decide +kernel⟩
theorem ok_lbase (F : Fun K "_law_base" "_law_base" s_lbase f fd) (M : Bl mg) (cd : CD1 P w K mg base) (cs : Cl P w K mg base 3 "_law_shuffled" (spP K pre_shuf R_shuf 20)) : FnOk P w K mg base CX0 4 f fd ["purse"] (spP K (fun ds => ds = []) R_base 25) := by
  refine F.ok sc_lbase (spP_len (by rintro _ rfl; rfl)) (fun cdv A outer s H vs Q E hr h => ?_)
  obtain ⟨p, us, B, ds, n, rfl, x, nb, rr, pu, n0, hn, rfl, q⟩ := h
  have hu64 : (A.deeper (envOfC "_law_base" (defScope s_lbase) s.heap.objs.size f cdv)).units + 64 < cLine := by have := hr.un; omega
  have nd := sc_lbase.nd
  refine ⟨_, pss_cons (ps_if (pt_cmpR (op_eqD hu64) (pe_cl cd hr (by decide) (by rfl) (pa_cons (pv 0) (pa_cons pe_int pa_nil))) pe_int (nomark _))
      (pss_one (ps_ret (pe_tup (pa_cons pe_str (pa_cons (pe_slice sl_list (pe_cl cs hr (by decide) (by rfl) (pa_cons (pv 0) (pa_cons (pe_lst (pa_cons pe_str (pa_cons pe_str (pa_cons pe_str pa_nil)))) pa_nil))) po_none (po_some (pe_op op_add pe_int (pe_cl cd hr (by decide) (by rfl) (pa_cons (pv 0) (pa_cons pe_int pa_nil)))))) pa_nil))))) pss_nil)
    (pss_cons (ps_set (i := 1) nd rfl (Or.inl rfl) (pe_op op_sub (pe_cl cd hr (by decide) (by rfl) (pa_cons (pv 0) (pa_cons pe_int pa_nil))) pe_int))
    (pss_one (ps_ret (pe_tup (pa_cons pe_str (pa_cons (pv 1) (pa_cons (pe_op op_add (pv 1) (pe_cl cd hr (by decide) (by rfl) (pa_cons (pv 0) (pa_cons pe_int pa_nil)))) pa_nil))))))), ?_⟩
  refine fin_P (φ := BaseOk) (k := 25) ?_ x nb rr pu hn q
  show DPS K p _ [none, none] 25 _
  refine dps_up (dps_guard (k2 := 22) (dpt_eqI (dp_drawI (dp_of de_int) (Int.le_refl 0) (by decide) (by decide)) (by decide)) (fun _ => ?_) (fun _ => ?_) (by decide)) (by decide)
  · refine dps_up (dps_ret (dp_imp (dp_tup (dpa_cons (dp_of de_str) (dpa_cons (dp_to (φ := fun ys => ys.Perm (W3.map .str)) (dp_imp (dp_shuf (φ := fun xs => xs = W3.map .str) (dp_imp (dp_of (de_lst (da_cons de_str (da_cons de_str (da_cons de_str da_nil))) rfl (by show 3 ≤ 1000; decide))) ?_) (Int.le_refl 0)) ?_) (dp_opI dp_int (dp_drawI (dp_of de_int) (Int.le_refl 0) (by decide) (by decide)) (Int.le_refl 0) (by decide)) (by decide) (by decide) ?_) dpa_nil (by decide) (by decide)) (by decide) (by decide)) ?_) ?_)) (by decide)
    · rintro d rfl
      exact ⟨_, rfl, by show 3 ≤ 20; decide, rfl⟩
    · exact fun d h => by
        obtain ⟨xs, ys, rfl, rfl, pm⟩ := h
        exact ⟨ys, rfl, pm⟩
    · rintro i ⟨a, b, rfl, ⟨b0, b1⟩, rfl⟩
      omega
    · rintro ds ⟨d, es, rfl, rfl, e, es', rfl, ⟨ys, i, pm, _, rfl⟩, rfl⟩
      exact ⟨rfl, by show 2 ≤ 1000; decide⟩
    · rintro z ⟨ds, ⟨d, es, rfl, rfl, e, es', rfl, ⟨ys, i, pm, ⟨a, b, rfl, ⟨b0, b1⟩, rfl⟩, rfl⟩, rfl⟩, rfl⟩
      obtain ⟨ws, rfl, pw⟩ := perm_map pm rfl
      have hl : ws.length = 3 := pw.length_eq
      refine .inl ⟨ws.take (1 + b).toNat, ?_, ?_, ?_, ?_, ?_⟩
      · rw [← List.map_take]
        rfl
      · intro z
        have := congrArg List.length z
        rw [List.length_take, hl, List.length_nil] at this
        omega
      · exact (List.take_sublist _ _).nodup (pw.nodup_iff.mpr w3_nodup)
      · rw [List.length_take]
        omega
      · intro y hy
        exact w3_names y (pw.mem_iff.mp (List.mem_of_mem_take hy))
  · refine dps_up (dps_set (by decide) (dp_opI (dp_drawI (dp_of de_int) (Int.le_refl 0) (by decide) (by decide)) dp_int (by decide) (Int.le_refl 0)) (fun d ⟨lo, e, a, b, ⟨a0, a1⟩, e2, e3⟩ => ?_) (k2 := 2) (by decide)) (by decide)
    subst e e2
    show DPS K p _ [none, some (.int lo)] 2 _
    have h1 : DE K (tVar 1) [none, some (.int lo)] (.int lo) := de_var rfl
    refine dps_up (dps_ret (dp_imp (dp_tup (dpa_cons (dp_of de_str) (dpa_cons (dp_of h1) (dpa_cons (dp_opI (φ1 := fun i => i = lo) (dp_imp (dp_of h1) fun d e => ⟨lo, e, rfl⟩) (dp_drawI (dp_of de_int) (Int.le_refl 0) (by decide) (by decide)) (Int.le_refl 0) (by decide)) dpa_nil (by decide) (by decide)) (by decide) (by decide)) (by decide) (by decide)) ?_) ?_)) (by decide)
    · rintro ds ⟨d, es, rfl, rfl, e, es', rfl, rfl, e2, es2, rfl, ⟨i, rfl, _⟩, rfl⟩
      exact ⟨rfl, by show 3 ≤ 1000; decide⟩
    · rintro z ⟨ds, ⟨d, es, rfl, rfl, e, es', rfl, rfl, e2, es2, rfl, ⟨i, rfl, a', b', rfl, ⟨b0, b1⟩, rfl⟩, rfl⟩, rfl⟩
      exact .inr ⟨_, _, rfl, by omega, by omega, by omega, by omega⟩
end
end FJ
namespace FJ
open PySem PySem.Spec PyProof.Rows L2 FC FG FP
open Evl (Ex)
theorem strs_shaped {ws : List Str} (h : ∀ w ∈ ws, isNameS w = true) : PyData.canLayAll0 (ws.map .str) = true ∧ PyData.depthAll (ws.map .str) ≤ 1 := by
  induction ws with
  | nil => simp [PyData.canLayAll0, PyData.depthAll]
  | cons w ws ih =>
    obtain ⟨h1, h2⟩ := ih fun x hx => h x (List.mem_cons_of_mem _ hx)
    simp only [List.map_cons, PyData.canLayAll0, PyData.canLay0, PyData.depthAll, PyData.depth, name_strOk (h w (List.mem_cons_self ..)), h1, Bool.and_self, true_and]
    omega
theorem makers_shaped {ms : List (Str × List Str)} (h : ∀ m ∈ ms, isNameS m.1 = true ∧ ∀ x ∈ m.2, isNameS x = true) : SeqAt.shaped (.list (ms.map makerD)) = true := by
  have key : PyData.canLayAll0 (ms.map makerD) = true ∧ PyData.depthAll (ms.map makerD) ≤ 4 := by
    induction ms with
    | nil => simp [PyData.canLayAll0, PyData.depthAll]
    | cons m ms ih =>
      obtain ⟨h1, h2⟩ := ih fun x hx => h x (List.mem_cons_of_mem _ hx)
      obtain ⟨a1, a2⟩ := h m (List.mem_cons_self ..)
      obtain ⟨b1, b2⟩ := strs_shaped a2
      have c1 : (makerD m).canLay0 = true := by
        unfold makerD strL
        simp only [PyData.canLay0, PyData.canLayAll0, name_strOk a1, b1, Bool.and_self]
      have c2 : (makerD m).depth ≤ 4 := by
        unfold makerD strL
        simp only [PyData.depth, PyData.depthAll]
        omega
      simp only [List.map_cons, PyData.canLayAll0, PyData.depthAll, c1, h1, Bool.and_self, true_and]
      omega
  unfold SeqAt.shaped
  rw [Bool.and_eq_true]
  refine ⟨by simp only [PyData.canLay0]; exact key.1, decide_eq_true ?_⟩
  simp only [PyData.depth]
  omega
theorem eqv_nilB (ds : List PyData) : PyData.eqv (.list ds) (.list []) = ds.isEmpty := eqv_nil ds
def M4 : List Str := ["leaf", "lea", "or", "end"]
theorem m4_names : ∀ w ∈ M4, isNameS w = true := by decide +kernel
theorem m4_nodup : M4.Nodup := by decide +kernel
/-- makers over names and a base that can be built -/
structure MkOk (nms : List Str) (b : Str) (ms : List (Str × List Str)) : Prop where
  ne : ms ≠ []
  nd : (ms.map (·.1)).Nodup
  nm : ∀ m ∈ ms, isNameS m.1 = true
  few : ms.length ≤ 3
  parts : ∀ m ∈ ms, m.2.length ≤ 2 ∧ ∀ x ∈ m.2, x ∈ nms ++ [b]
  built : ∃ m ∈ ms, ∀ x ∈ m.2, x = b
def pre_makers : List PyData → Prop := fun ds => ∃ (nms : List Str) (b : Str), ds = [strL nms, .str b] ∧ nms.length ≤ 9 ∧ (∀ x ∈ nms, isNameS x = true) ∧ isNameS b = true
def R_makers : List PyData → PyData → Prop := fun ds d => ∃ (nms : List Str) (b : Str) (ms : List (Str × List Str)), ds = [strL nms, .str b] ∧ d = makersD ms ∧ MkOk nms b ms
section
variable {K : PySem.W.Frag} {p : Addr} {G : List (Option PyData)}
/-- the parts that are drawn -/
theorem dp_parts {E E' : XK} {nms : List Str} {b : Str} {x4 x5 : Option PyData} (hl : nms.length ≤ 9) :
    DP K p (tLc (iRng1 (tCons (tCall (spP K pre_draw R_draw 1) [] E (tCons (tVar 0) (tCons (tC (.int 3)) tNil))) tNil)) (gName 6) tYes (tCall (spP K pre_one R_one 1) [] E' (tCons (tVar 0) (tCons (tOp (rCatL K) (tVar 1) (tLst (tCons (tVar 2) tNil))) tNil))) [6]) [none, some (strL nms), some (.str b), none, x4, x5, none] 3
      (fun d => ∃ xs : List Str, d = strL xs ∧ xs.length ≤ 2 ∧ ∀ x ∈ xs, x ∈ nms ++ [b]) := by
  refine dp_up (dp_imp (dp_lc (nm := 2) (k2 := 1) (ψ := fun _ _ _ d => ∃ x : Str, d = .str x ∧ x ∈ nms ++ [b]) (dpi_range (φ := fun m => m ≤ 2) (dpa_imp (dpa_cons (dp_drawI (dp_of de_int) (Int.le_refl 0) (by decide) (by decide)) dpa_nil (by decide) (by decide)) ?_)) (by decide) (by decide) (by decide) ?_ (by decide) ?_) ?_) (by decide)
  · rintro ds ⟨d, es, rfl, ⟨r, rfl, r0, r1⟩, rfl⟩
    exact ⟨r, rfl, r0, by omega, by omega⟩
  · rintro n ff ⟨h, _⟩
    omega
  · rintro n ff i ⟨h, rfl⟩ hi
    show DP K p _ [none, some (strL nms), some (.str b), none, x4, x5, some (.int (i : Nat))] 1 _
    refine dp_up (dp_imp (dp_one (φ := fun xs => xs = (nms ++ [b]).map .str) (dp_imp (dp_of (de_ofX (de_cat (de_var (d := .list (nms.map .str)) rfl) (de_lst (da_cons (de_var (d := .str b) rfl) da_nil) rfl (by show 1 ≤ 1000; decide)) (by rw [List.length_map]; show _ + 1 ≤ _; omega)))) ?_) (Int.le_refl 0)) ?_) (by decide)
    · rintro d rfl
      refine ⟨_, rfl, ?_, ?_, ?_⟩
      · rw [List.length_append]; show 1 ≤ _ + 1; omega
      · rw [List.length_append, List.length_map]; show _ + 1 ≤ 1000; omega
      · rw [List.map_append]; rfl
    · rintro z ⟨xs, rfl, hz⟩
      obtain ⟨y, hy, rfl⟩ := List.mem_map.mp hz
      exact ⟨rfl, y, rfl, hy⟩
  · rintro z ⟨n, ff, ds, ⟨h, _⟩, rfl, hlen, hψ⟩
    have key : ∀ ds : List PyData, (∀ (i : Nat) d, ds[i]? = some d → ∃ x : Str, d = .str x ∧ x ∈ nms ++ [b]) → ∃ xs : List Str, ds = xs.map .str ∧ ∀ x ∈ xs, x ∈ nms ++ [b] := by
      intro ds
      induction ds with
      | nil => intro _; exact ⟨[], rfl, fun _ h => nomatch h⟩
      | cons d ds ih =>
        intro hh
        obtain ⟨x, rfl, hx⟩ := hh 0 d rfl
        obtain ⟨xs, rfl, h2⟩ := ih fun i e he => hh (i + 1) e (by simpa using he)
        exact ⟨x :: xs, rfl, fun y hy => by
          rcases List.mem_cons.mp hy with rfl | hy
          · exact hx
          · exact h2 y hy⟩
    obtain ⟨xs, rfl, h2⟩ := key ds hψ
    refine ⟨xs, rfl, ?_, h2⟩
    rw [List.length_map] at hlen
    omega
end
end FJ
namespace FJ
open PySem PySem.Spec PyProof.Rows L2 FC FG FP
open Evl (Ex)
section
variable {P : Program} {w : World} {K : PySem.W.Frag} {mg : Str → Option Value} {base : Heap} {f : Addr} {fd : FuncData} {G : List (Option PyData)}
/-- an own list becomes data -/
theorem gop_take {p l : Addr} {B H : Hp} {vs : List V} (x : Ex B H) (nb : B p = none) (hl : H l = some (.lst vs)) (nl : B l = none) (hlp : l ≠ p) : Ex B (upd B l (.lst vs)) ∧ Ex (upd B l (.lst vs)) H ∧ upd B l (.lst vs) p = none := by
  refine ⟨Evl.Ex.new nl, fun b o h => ?_, by rw [upd_ne (Ne.symm hlp)]; exact nb⟩
  by_cases e : b = l
  · subst e
    rw [upd_same] at h
    rw [← h]
    exact hl
  · rw [upd_ne e] at h
    exact x b o h
/-- what stood ahead of a new own object -/
theorem gop_ahead {p l : Addr} {B H B' H' : Hp} {o : HO} (hl : H l = none) (g : GoP p B (upd H l o) B' H') : GoP p B H B' H' :=
  ⟨g.eb, fun q u hq h => g.eh q u hq (by rw [upd_ne fun e => by rw [e, hl] at h; cases h]; exact h), g.sub, g.np, fun a u h nb => g.fr a u (by rw [upd_ne fun e => by rw [e, hl] at h; cases h]; exact h) nb⟩
/-- an own object is changed -/
theorem gop_own {p l : Addr} {B H B' H' : Hp} {o : HO} (hl : H l = none) (g : GoP p B H B' H') (nl : B' l = none) : GoP p B H B' (upd H' l o) :=
  ⟨g.eb, fun q u hq h => by rw [upd_ne fun e => by rw [e, hl] at h; cases h]; exact g.eh q u hq h, fun a u h => by rw [upd_ne fun e => by rw [e, nl] at h; cases h]; exact g.sub a u h, g.np, g.fr⟩
/-- an own object becomes data -/
theorem gop_end {p l : Addr} {B H B' H' : Hp} {vs : List V} (hl : H l = none) (g : GoP p B H B' H') (h : H' l = some (.lst vs)) (nl : B' l = none) (hlp : l ≠ p) : GoP p B H (upd B' l (.lst vs)) H' := by
  obtain ⟨e1, e2, e3⟩ := gop_take g.sub g.np h nl hlp
  exact ⟨g.eb.trans e1, g.eh, e2, e3, fun a o ha hb => by rw [upd_ne fun e => by rw [e, hl] at ha; cases ha]; exact g.fr a o ha hb⟩
theorem seq_newl {t2 : TS} {i : Nat} {D : Ends} {σ : L2.St} {H : Hp} (h : ∀ l, H l = none → t2 D (σ.set i (some (.ref l))) (upd H l (.lst []))) : tSeq (tAsg (tLst tNil) (gName i)) t2 D σ H := ⟨by show 0 ≤ sizeLine; decide, h⟩
theorem seq_for {wi : TI} {g : TG} {tb t2 : TS} {D : Ends} {σ : L2.St} {H : Hp} (h : tFor wi g tb { D with nx := t2 D } σ H) : tSeq (tFor wi g tb) t2 D σ H := h
theorem for_of {wi : TI} {g : TG} {tb : TS} {D : Ends} {σ : L2.St} {H : Hp} (h : wi σ H fun J H1 => ∃ W : Nat → Nat → L2.St → Hp → Prop, (∃ m, W 0 m σ H1) ∧ ∀ i m σ H, W i m σ H →
  (J.stop i H ∧ D.nx σ H) ∨ (J.go i H ∧ ∃ N : L2.St → Hp → Prop, (∀ σ' H', N σ' H' → ∃ m', m' < m ∧ W (i + 1) m' σ' H') ∧ ∀ x H', J.yld i H x H' → g x σ H' fun σ2 H2 => tb { D with nx := N, ct := N, bk := D.nx } σ2 H2)) : tFor wi g tb D σ H := h
theorem seq_set {te : TE} {i : Nat} {t2 : TS} {D : Ends} {σ : L2.St} {H : Hp} (h : te σ H fun x H1 => t2 D (σ.set i (some x)) H1) : tSeq (tAsg te (gName i)) t2 D σ H := h
theorem seq_if {tt : TT} {t1 t2 : TS} {D : Ends} {σ : L2.St} {H : Hp} (h : tt σ H fun b H1 => if b = true then t1 { D with nx := t2 D } σ H1 else t2 D σ H1) : tSeq (tIfS tt t1 tNext) t2 D σ H := h
theorem app_read {σ : L2.St} {B H : Hp} {l : Addr} {vs : List V} {m : Str × List Str} {D : Ends} (x : Ex B H) (en : En K B σ G) (h4 : G[4]? = some (some (.str m.1))) (h5 : G[5]? = some (some (strL m.2))) (sl : σ[3]? = some (some (.ref l))) (hl : H l = some (.lst vs)) (hv : vs.length ≤ 1000)
    (q : ∀ B' H' v, Go B H B' H' → Dp K B' v (makerD m) → H' l = some (.lst vs) → D.nx σ (upd H' l (.lst (vs ++ [v])))) : tDrop (tBM K "list" rAppend (tVar 3) (tCons (tTup (tCons (tVar 4) (tCons (tVar 5) tNil))) tNil)) D σ H := by
  refine ⟨.ref l, sl, .inl ⟨rfl, _, .inl (.inl hl)⟩, ?_⟩
  refine de_tup (G := G) (da_cons (de_var h4) (da_cons (de_var h5) da_nil)) rfl (by show 2 ≤ 1000; decide) σ B H x en _ fun v B' H' g r => ?_
  have hl' := g.eh l _ hl
  exact ⟨l, vs, v, rfl, rfl, hl', Nat.lt_of_le_of_lt hv (by decide), q B' H' v g (r.dp rfl) hl'⟩
theorem sc_lmakers : FnScope ["purse", "names", "base", "found", "maker", "parts", "turn"] ["purse", "names", "base"] (defScope s_lmakers) := ⟨rfl, rfl, rfl, by decide +kernel, rfl, by decide +kernel, by decide +kernel⟩
theorem ok_lmakers (F : Fun K "_law_makers" "_law_makers" s_lmakers f fd) (M : Bl mg) (cd : CD1 P w K mg base) (co : Cl P w K mg base 3 "_law_one_of" (spP K pre_one R_one 1)) (cs : Cl P w K mg base 3 "_law_shuffled" (spP K pre_shuf R_shuf 20)) : FnOk P w K mg base CX0 4 f fd ["purse", "names", "base"] (spP K pre_makers R_makers 60) := by
  refine F.ok sc_lmakers (spP_len (by rintro _ ⟨_, _, rfl, _⟩; rfl)) (fun cdv A outer s H vs Q E hr h => ?_)
  obtain ⟨p, us, B, ds, n, rfl, x, nb, rr, pu, n0, hn, ⟨nms, b, rfl, hl9, hnm, hbn⟩, q⟩ := h
  obtain ⟨u1, u2, rfl, r1, r2⟩ : ∃ u1 u2, us = [u1, u2] ∧ Rt K B u1 (strL nms) ∧ Rt K B u2 (.str b) := by
    cases rr with
    | cons r1 rr =>
    cases rr with
    | cons r2 rr =>
    cases rr
    exact ⟨_, _, rfl, r1, r2⟩
  have hu64 : (A.deeper (envOfC "_law_makers" (defScope s_lmakers) s.heap.objs.size f cdv)).units + 64 < cLine := by have := hr.un; omega
  have nd := sc_lmakers.nd
  refine ⟨_, pss_cons (ps_set (i := 3) nd rfl (Or.inl rfl) (pe_lst pa_nil))
    (pss_cons (ps_for PassesOwn.never rfl (pi_list (pe_slice sl_list (pe_cl cs hr (by decide) (by rfl) (pa_cons (pv 0) (pa_cons (pe_lst (pa_cons pe_str (pa_cons pe_str (pa_cons pe_str (pa_cons pe_str pa_nil))))) pa_nil))) po_none (po_some (pe_op op_add pe_int (pe_cl cd hr (by decide) (by rfl) (pa_cons (pv 0) (pa_cons pe_int pa_nil))))))) (pg_name (i := 4) nd rfl (Or.inl rfl))
      (pss_cons (ps_setLc (i := 5) (own := [("turn", 6)]) (g := gName 6) (tt := tYes) (te := tCall (spP K pre_one R_one 1) [] E0 (tCons (tVar 0) (tCons (tOp (rCatL K) (tVar 1) (tLst (tCons (tVar 2) tNil))) tNil))) rfl nd rfl rfl (sw_true rfl rfl rfl rfl) (pi_range1 (by rfl) M.range (pa_cons (pe_cl cd hr (by decide) (by rfl) (pa_cons (pv 0) (pa_cons pe_int pa_nil))) pa_nil)) (blkOk_by (N := ["purse", "names", "base", "found", "maker", "parts", "turn"]) (sc := defScope s_lmakers) (by decide +kernel)) (fun _ _ _ _ _ => pg_name (i := 6) nd rfl (Or.inl rfl)) (fun _ _ _ _ _ => pts_nil)
        (fun _ _ _ _ _ => pe_cl co hr (by decide) (by rfl) (pa_cons (pv 0) (pa_cons (pe_op (r := rCatL K) op_catL (pv 1) (pe_lst (pa_cons (pv 2) pa_nil))) pa_nil))))
      (pss_cons (ps_if (pt_cmpR (op_eqD hu64) (pv 3) (pe_lst pa_nil) (nomark _)) (pss_one (ps_set (i := 5) nd rfl (Or.inl rfl) (pe_slice sl_list (pe_lst (pa_cons (pv 2) pa_nil)) po_none (po_some (pe_cl cd hr (by decide) (by rfl) (pa_cons (pv 0) (pa_cons pe_int pa_nil))))))) pss_nil)
      (pss_one (ps_expr (pe_bm PySem.F.plainAttrs_list PySem.F.slot_list_append PySem.F.type_list_append mt_append (pv 3) (pa_cons (pe_tup (pa_cons (pv 4) (pa_cons (pv 5) pa_nil))) pa_nil)))))))
    (pss_one (ps_ret (pe_tup (pa_cons pe_str (pa_cons (pe_cl cs hr (by decide) (by rfl) (pa_cons (pv 0) (pa_cons (pv 3) pa_nil))) pa_nil)))))), ?_⟩
  refine seq_newl fun l hl => ?_
  have hn : n + 60 ≤ 9000000 := hn
  have hlB : B l = none := sub_none x hl
  have hlp : l ≠ p := by
    intro e
    obtain ⟨o, ho⟩ := pu.some
    rw [e, ho] at hl
    cases hl
  let G0 : Option PyData → Option PyData → List (Option PyData) := fun x4 x5 => [none, some (strL nms), some (.str b), none, x4, x5, none]
  have s0 : StP K p B (upd H l (.lst [])) [some (.ref p), some u1, some u2, some (.ref l), none, none, none] (G0 none none) n := by
    refine ⟨x.trans (Evl.Ex.new hl), nb, ⟨rfl, fun i d hi => ?_⟩, pu.ex (Evl.Ex.new hl), rfl⟩
    match i with
    | 0 => cases hi
    | 1 => cases hi; exact ⟨u1, rfl, r1⟩
    | 2 => cases hi; exact ⟨u2, rfl, r2⟩
    | 3 => cases hi
    | 4 => cases hi
    | 5 => cases hi
    | 6 => cases hi
    | i + 7 => simp [G0] at hi
  have it : DPI K p (iList K (tSl (rSlL K) (tCall (spP K pre_shuf R_shuf 20) [] E0 (tCons (tVar 0) (tCons (tLst (tCons (tC (.str "leaf")) (tCons (tC (.str "lea")) (tCons (tC (.str "or")) (tCons (tC (.str "end")) tNil))))) tNil))) tNoPart (tPart (tOp (rI0 fun i j => .int (i + j)) (tC (.int 1)) (tCall (spP K pre_draw R_draw 1) [] E0 (tCons (tVar 0) (tCons (tC (.int 3)) tNil))))))) (gName 4) [4] (G0 none none) 21
      (fun m ff => ∃ ds, (∃ ws : List Str, PyData.list ds = strL ws ∧ ws.Nodup ∧ (∀ x ∈ ws, isNameS x = true) ∧ 1 ≤ ws.length ∧ ws.length ≤ 3) ∧ m = ds.length ∧ ff = fun i G2 => G2.set 4 ds[i]?) := by
    refine dpi_list (φ := fun d => ∃ ws : List Str, d = strL ws ∧ ws.Nodup ∧ (∀ x ∈ ws, isNameS x = true) ∧ 1 ≤ ws.length ∧ ws.length ≤ 3) (dp_up (dp_imp (dp_to (φ := fun ys => ys.Perm (M4.map .str)) (dp_imp (dp_shuf (φ := fun xs => xs = M4.map .str) (dp_imp (dp_of (de_lst (da_cons de_str (da_cons de_str (da_cons de_str (da_cons de_str da_nil)))) rfl (by show 4 ≤ 1000; decide))) ?_) (Int.le_refl 0)) ?_) (dp_opI dp_int (dp_drawI (dp_of de_int) (Int.le_refl 0) (by decide) (by decide)) (Int.le_refl 0) (by decide)) (by decide) (by decide) ?_) ?_) (by decide))
    · rintro d rfl
      exact ⟨_, rfl, by show 4 ≤ 20; decide, rfl⟩
    · exact fun d h => by
        obtain ⟨xs, ys, rfl, rfl, pm⟩ := h
        exact ⟨ys, rfl, pm⟩
    · rintro i ⟨a, b, rfl, ⟨b0, b1⟩, rfl⟩
      omega
    · rintro z ⟨ys, i, pm, ⟨a, b', rfl, ⟨b0, b1⟩, rfl⟩, rfl⟩
      obtain ⟨ws, rfl, pw⟩ := perm_map pm rfl
      have hl : ws.length = 4 := pw.length_eq
      refine ⟨_, rfl, ws.take (1 + b').toNat, by rw [← List.map_take]; rfl, (List.take_sublist _ _).nodup (pw.nodup_iff.mpr m4_nodup), fun y hy => m4_names y (pw.mem_iff.mp (List.mem_of_mem_take hy)), ?_, ?_⟩
      · rw [List.length_take]; omega
      · rw [List.length_take]; omega
  refine seq_for (for_of (it _ B _ n s0 (by show n + 21 ≤ 9000000; omega) _ fun J B1 H1 m ff g1 pu1 hχ ht => ?_))
  obtain ⟨ds, ⟨ws, ew, wnd, wnm, w1, w3⟩, hm, hff⟩ := hχ
  obtain ⟨Y, W, turn⟩ := ht
  have ew : ds = ws.map .str := PyData.list.inj ew
  subst ew hff
  rw [List.length_map] at hm
  have h1l : H1 l = some (.lst []) := g1.eh l _ hlp upd_same
  have n1l : B1 l = none := g1.fr l _ upd_same hlB
  have g1H : GoP p B H B1 H1 := gop_ahead hl g1
  have s1 := s0.go g1 pu1
  refine for_it W (fun i σ' H' => ∃ (B' : Hp) (ms : List (Str × List Str)) (vs : List V) (x4 x5 : Option PyData), GoP p B H B' H' ∧ Ex B1 B' ∧ StP K p B' H' σ' (G0 x4 x5) (n + 21 + i * 4) ∧ σ'[3]? = some (some (.ref l)) ∧ B' l = none ∧ H' l = some (.lst vs) ∧ DpAll K B' vs (ms.map makerD) ∧ ms.map (·.1) = ws.take i ∧ (∀ m ∈ ms, m.2.length ≤ 2 ∧ ∀ x ∈ m.2, x ∈ nms ++ [b]) ∧ (∀ m : Str × List Str, ms[0]? = some m → ∀ x ∈ m.2, x = b))
    ⟨B1, [], [], none, none, g1H, Evl.Ex.refl _, (by
      have z : n + 21 + ((0 : Nat) : Int) * 4 = n + 21 := by simp
      rw [z]; exact s1), rfl, n1l, h1l, .nil, rfl, (fun _ h => nomatch h), fun _ h => by simp at h⟩ (fun i σ' H' _ ⟨B', _, _, _, _, g, e, _⟩ => e.trans g.sub) ?_ ?_
  · rintro i y σ2 H2 H3 hil ⟨B2, ms, vs, x4, x5, g2, e2, s2, sl3, nl2, hl2, da, hms, hpt, hfst⟩ hy
    have hiw : i < ws.length := by omega
    refine turn i hil B2 H2 σ2 (G0 x4 x5) y H3 e2 s2.x s2.en hy _ fun σ3 B3 H4 g3 en3 hw => ?_
    have s3 := s2.same (vs := [4]) g3 en3 (by decide) (hw [4] fun _ h => h)
    have sl3 : σ3[3]? = some (some (.ref l)) := by rw [← wipe_get (vs := [4]) (j := 3) (by decide), hw [4] (fun _ h => h), wipe_get (by decide)]; exact sl3
    have eG : (G0 x4 x5).set 4 (ws.map PyData.str)[i]? = G0 (some (.str ws[i])) x5 := by
      rw [get_map hiw]
      rfl
    have s3 : StP K p B3 H4 σ3 (G0 (some (.str ws[i])) x5) (n + 21 + i * 4) := by rw [← eG]; exact s3
    have gp3 : GoP p B2 H2 B3 H4 := .of g3 s2.nb s2.pu
    have hl3 : H4 l = some (.lst vs) := g3.eh l _ hl2
    have nl3 : B3 l = none := g3.fr l _ hl2 nl2
    have lim : n + 21 + (i : Int) * 4 + 3 ≤ LIM := by show _ ≤ 9000000; omega
    refine seq_set (dp_parts (E := E0) (E' := E0) hl9 σ3 B3 H4 _ s3 lim _ fun v B4 H5 d g4 r4 hf4 pu4 => ?_)
    obtain ⟨xs, ed, hx2, hxs⟩ := hf4
    subst ed
    have s4 := (s3.go g4 pu4).set (i := 5) (by decide) r4
    have hl4 : H5 l = some (.lst vs) := g4.eh l _ hlp hl3
    have nl4 : B4 l = none := g4.fr l _ hl3 nl3
    have da4 := dps_ex g4.eb _ _ (dps_ex g3.eb _ _ da)
    have sl4 : (σ3.set 5 (some v))[3]? = some (some (.ref l)) := by rw [List.getElem?_set_ne (by decide)]; exact sl3
    have mok : ∀ m ∈ ms, isNameS m.1 = true ∧ ∀ x ∈ m.2, isNameS x = true := fun m hm => by
      refine ⟨wnm _ (List.mem_of_mem_take (show m.1 ∈ ws.take i by rw [← hms]; exact List.mem_map.mpr ⟨m, hm, rfl⟩)), fun x hx => ?_⟩
      rcases List.mem_append.mp ((hpt m hm).2 x hx) with h | h
      · exact hnm x h
      · rw [List.mem_singleton.mp h]; exact hbn
    refine seq_if ⟨.ref l, sl4, by show 0 ≤ sizeLine; decide, fun c hc => ?_⟩
    have hcl : c ≠ l := fun e => by rw [e, hl4] at hc; cases hc
    have gc : GoP p B4 H5 (upd B4 c (.lst [])) (upd H5 c (.lst [])) := .of (Go.new g4.sub hc) g4.np pu4
    have s5 := s4.go gc (pu4.ex (Evl.Ex.new hc))
    have hl5 : (upd H5 c (.lst [])) l = some (.lst vs) := by rw [upd_ne (Ne.symm hcl)]; exact hl4
    have nl5 : (upd B4 c (.lst [])) l = none := by rw [upd_ne (Ne.symm hcl)]; exact nl4
    have da5 := dps_ex gc.eb _ _ da4
    refine ⟨.list (ms.map makerD), .list [], .lst (.inl (.inl hl5)) (dps_ex gc.sub _ _ da5), .lst (.inl (.inl upd_same)) .nil, makers_shaped mok, rfl, _, rfl, ?_⟩
    rw [eqv_nilB]
    -- what stands behind the append
    have done : ∀ (σ6 : L2.St) (B6 H6 : Hp) (zs : List Str) (B7 H7 : Hp) (u : V), GoP p B4 H5 B6 H6 → σ6[3]? = some (some (.ref l)) → StP K p B6 H6 σ6 (G0 (some (.str ws[i])) (some (strL zs))) (n + 21 + i * 4 + 4) → H6 l = some (.lst vs) → B6 l = none → zs.length ≤ 2 → (∀ x ∈ zs, x ∈ nms ++ [b]) → (ms = [] → ∀ x ∈ zs, x = b) → Go B6 H6 B7 H7 → Dp K B7 u (makerD (ws[i], zs)) → H7 l = some (.lst vs) →
        ∃ (B' : Hp) (ms : List (Str × List Str)) (vs' : List V) (x4 x5 : Option PyData), GoP p B H B' (upd H7 l (.lst (vs ++ [u]))) ∧ Ex B1 B' ∧ StP K p B' (upd H7 l (.lst (vs ++ [u]))) σ6 (G0 x4 x5) (n + 21 + ((i + 1 : Nat) : Int) * 4) ∧ σ6[3]? = some (some (.ref l)) ∧ B' l = none ∧ (upd H7 l (.lst (vs ++ [u]))) l = some (.lst vs') ∧ DpAll K B' vs' (ms.map makerD) ∧ ms.map (·.1) = ws.take (i + 1) ∧ (∀ m ∈ ms, m.2.length ≤ 2 ∧ ∀ x ∈ m.2, x ∈ nms ++ [b]) ∧ (∀ m : Str × List Str, ms[0]? = some m → ∀ x ∈ m.2, x = b) := by
      intro σ6 B6 H6 zs B7 H7 u g6 sl6 s6 hl6 nl6 z2 zin zb g7 du hl7
      have nl7 : B7 l = none := g7.fr l _ hl6 nl6
      have gp7 : GoP p B6 H6 B7 H7 := .of g7 s6.nb s6.pu
      have ga : GoP p B H B7 H7 := ((((g2.trans gp3 s2.pu nb).trans g4 s3.pu nb).trans g6 pu4 nb).trans gp7 s6.pu nb)
      have ga' := gop_own (o := .lst (vs ++ [u])) hl ga nl7
      have s7 := s6.go gp7 (s6.pu.ex g7.eh)
      have e6 : Ex B4 B7 := g6.eb.trans g7.eb
      refine ⟨B7, ms ++ [(ws[i], zs)], vs ++ [u], some (.str ws[i]), some (strL zs), ga', e2.trans (gp3.eb.trans (g4.eb.trans e6)), ⟨ga'.sub, ga'.np, s7.en, ?_, s7.sl⟩, ?_, nl7, upd_same, ?_, ?_, ?_, ?_⟩
      · have e : n + 21 + ((i + 1 : Nat) : Int) * 4 = n + 21 + i * 4 + 4 := by
          rw [Int.natCast_add, Int.add_mul]
          simp
          omega
        rw [e]
        obtain ⟨a1, b1, c1, hp, r'⟩ := s7.pu
        exact ⟨a1, b1, c1, by rw [upd_ne (Ne.symm hlp)]; exact hp, r'⟩
      · exact sl6
      · rw [List.map_append]
        exact dps_snoc du (dps_ex e6 _ _ da4)
      · rw [List.map_append, hms, List.take_succ, List.getElem?_eq_getElem hiw]
        rfl
      · intro m hm
        rcases List.mem_append.mp hm with h | h
        · exact hpt m h
        · rw [List.mem_singleton.mp h]
          exact ⟨z2, zin⟩
      · intro m hm
        cases ms with
        | nil =>
          obtain rfl : (ws[i], zs) = m := by simpa using hm
          exact zb rfl
        | cons m0 ms0 => exact hfst m (by simpa using hm)
    have lim4 : n + 21 + (i : Int) * 4 + 4 ≤ 9000000 := by omega
    have vlen : vs.length ≤ 1000 := by
      have z1 := dps_len da
      have z2 := congrArg List.length hms
      rw [List.length_map] at z1
      rw [List.length_map, List.length_take] at z2
      omega
    cases hmz : (ms.map makerD).isEmpty with
    | true =>
      refine iteT ?_
      refine dp_to (φ := fun ds => ds = [.str b]) (ψ := fun r => 0 ≤ r ∧ r < 2) (dp_imp (dp_of (de_lst (G := G0 (some (.str ws[i])) (some (strL xs))) (da_cons (de_var (d := .str b) rfl) da_nil) rfl (by show 1 ≤ 1000; decide))) fun d e => ⟨_, e, rfl⟩) (dp_drawI (E := E0) (dp_of de_int) (Int.le_refl 0) (by decide) (by decide)) (Int.le_refl 0) (by decide) (fun i h => h.1) _ _ _ _ s5 (by show n + 21 + (i : Int) * 4 + 3 + 1 ≤ 9000000; omega) _ fun v6 B6 H6 d g6 r6 ⟨ds, r, e1, hr2, e3⟩ pu6 => ?_
      subst e1 e3
      have s6 := (s5.go g6 pu6).set (i := 5) (by decide) r6
      have sl6 : ((σ3.set 5 (some v)).set 5 (some v6))[3]? = some (some (.ref l)) := by rw [List.getElem?_set_ne (by decide)]; exact sl4
      have hl6 := g6.eh l _ hlp hl5
      have nl6 := g6.fr l _ hl5 nl5
      have hzs : ∃ zs : List Str, PyData.list ([PyData.str b].take r.toNat) = strL zs ∧ zs.length ≤ 2 ∧ ∀ x ∈ zs, x = b := by
        refine ⟨[b].take r.toNat, ?_, ?_, fun x hx => List.mem_singleton.mp (List.mem_of_mem_take hx)⟩
        · unfold strL
          rw [List.map_take]
          rfl
        · rw [List.length_take]
          show min _ 1 ≤ 2
          omega
      obtain ⟨zs, ez, z2, zb⟩ := hzs
      have s6 : StP K p B6 H6 ((σ3.set 5 (some v)).set 5 (some v6)) (G0 (some (.str ws[i])) (some (strL zs))) (n + 21 + i * 4 + 4) := by
        rw [ez] at s6
        exact ⟨s6.x, s6.nb, s6.en, s6.pu.up (by omega), s6.sl⟩
      refine app_read (m := (ws[i], zs)) s6.x s6.en rfl rfl sl6 hl6 vlen fun B7 H7 u g7 du hl7 => ?_
      exact done _ B6 H6 zs B7 H7 u (gc.trans g6 s5.pu g4.np) sl6 s6 hl6 nl6 z2 (fun x hx => List.mem_append_right _ (by rw [zb x hx]; simp)) (fun _ => zb) g7 du hl7
    | false =>
      refine iteF ?_
      have s6 : StP K p (upd B4 c (.lst [])) (upd H5 c (.lst [])) (σ3.set 5 (some v)) (G0 (some (.str ws[i])) (some (strL xs))) (n + 21 + i * 4 + 4) := ⟨s5.x, s5.nb, s5.en, s5.pu.up (by omega), s5.sl⟩
      refine app_read (m := (ws[i], xs)) s6.x s6.en rfl rfl sl4 hl5 vlen fun B7 H7 u g7 du hl7 => ?_
      exact done _ _ _ xs B7 H7 u gc sl4 s6 hl5 nl5 hx2 hxs (fun z => by rw [z] at hmz; cases hmz) g7 du hl7
  · rintro σ2 H2 ⟨B2, ms, vs, x4, x5, g2, e2, s2, sl3, nl2, hl2, da, hms, hpt, hfst⟩
    have hmw : m = ws.length := by omega
    subst hmw
    rw [List.take_length] at hms
    have ge := gop_end hl g2 hl2 nl2 hlp
    have eb : Ex B2 (upd B2 l (.lst vs)) := Evl.Ex.new nl2
    have s3 : StP K p (upd B2 l (.lst vs)) H2 σ2 [none, some (strL nms), some (.str b), some (.list (ms.map makerD)), x4, x5, none] (n + 21 + ws.length * 4) := by
      refine ⟨ge.sub, ge.np, ?_, s2.pu, s2.sl⟩
      have h := en_setV (G := G0 x4 x5) (i := 3) (s2.en.ex eb) sl3 (.d (.lst (.inl (.inl upd_same)) (dps_ex eb _ _ da)))
      exact h
    have hml : ms.length = ws.length := by rw [← hms, List.length_map]
    refine dps_ret (φ := fun d => ∃ ms', d = makersD ms' ∧ ms'.Perm ms) (dp_imp (dp_tup (dpa_cons (dp_of de_str) (dpa_cons (dp_shuf (E := E0) (φ := fun xs => xs = ms.map makerD) (dp_imp (dp_of (de_var (d := .list (ms.map makerD)) rfl)) ?_) (Int.le_refl 0)) dpa_nil (by decide) (by decide)) (by decide) (by decide)) ?_) ?_) { nx := fun _ _ => False, rt := Q } σ2 (upd B2 l (.lst vs)) H2 _ s3 (by show n + 21 + (ws.length : Int) * 4 + 20 ≤ 9000000; omega) fun v B' H' d g r hf pu' => ?_
    · rintro d rfl
      exact ⟨_, rfl, by rw [List.length_map]; omega, rfl⟩
    · rintro ds ⟨d, es, rfl, rfl, e, es', rfl, ⟨xs, ys, _, rfl, _⟩, rfl⟩
      exact ⟨rfl, by show 2 ≤ 1000; decide⟩
    · rintro z ⟨ds, ⟨d, es, rfl, rfl, e, es', rfl, ⟨xs, ys, rfl, rfl, pm⟩, rfl⟩, rfl⟩
      obtain ⟨ms', rfl, pw⟩ := perm_map pm rfl
      exact ⟨ms', rfl, pw⟩
    · obtain ⟨ms', ed, ok⟩ := hf
      have ok' : MkOk nms b ms' := by
        have hk : ms'.length = ms.length := ok.length_eq
        refine ⟨fun z => by rw [z] at hk; simp at hk; omega, ?_, fun m hm => ?_, by omega, fun m hm => hpt m (ok.mem_iff.mp hm), ?_⟩
        · rw [(ok.map (·.1)).nodup_iff, hms]
          exact wnd
        · have this : m.1 ∈ ms.map (·.1) := List.mem_map.mpr ⟨m, ok.mem_iff.mp hm, rfl⟩
          rw [hms] at this
          exact wnm _ this
        · cases hc : ms with
          | nil => rw [hc] at hml; simp at hml; omega
          | cons m0 ms0 => exact ⟨m0, ok.mem_iff.mpr (by rw [hc]; simp), hfst m0 (by rw [hc]; rfl)⟩
      exact q v B' H' d (ge.trans g s2.pu nb) r ⟨nms, b, ms', rfl, ed, ok'⟩ (pu'.up (by show n + 21 + (ws.length : Int) * 4 + (0 + (0 + 20 + 0)) ≤ n + 60; omega))
end
end FJ
namespace FJ
open PySem PySem.Spec PyProof.Rows L2 FC FG FP
open Evl (Ex)
/-! ### the kinds that are drawn -/
def FormIn (nms : List Str) (b : Str) (d : PyData) : Prop := BaseOk d ∨ (∃ c ∈ nms, d = rowsD c) ∨ ∃ ms, d = makersD ms ∧ MkOk nms b ms
structure Drawn (nms : List Str) (b : Str) (kvs : List (Str × PyData)) : Prop where
  keys : kvs.map (·.1) = nms
  nd : nms.Nodup
  nm : ∀ x ∈ nms, isNameS x = true
  ne : nms ≠ []
  few : nms.length ≤ 4
  first : nms[0]? = some b
  fm : ∀ q ∈ kvs, FormIn nms b q.2
  base : ∀ q : Str × PyData, kvs[0]? = some q → BaseOk q.2
theorem base_canB {d : PyData} (h : BaseOk d) (built : List Str) : canB built d = true := by
  rcases h with ⟨ws, rfl, _⟩ | ⟨lo, hi, rfl, _⟩
  · exact canB_words built ws
  · exact canB_nums built lo hi
theorem form_canB {nms : List Str} {b : Str} {d : PyData} (h : FormIn nms b d) {built : List Str} (hb : b ∈ built) : canB built d = true := by
  rcases h with h | ⟨c, _, rfl⟩ | ⟨ms, rfl, ok⟩
  · exact base_canB h built
  · exact canB_rows built c
  · rw [canB_makers, List.any_eq_true]
    obtain ⟨m, hm, hx⟩ := ok.built
    refine ⟨m, hm, List.all_eq_true.mpr fun x h => ?_⟩
    rw [hx x h]
    exact List.contains_iff_mem.mpr hb
theorem look_some {kvs : List (Str × PyData)} {c : Str} (h : c ∈ kvs.map (·.1)) : (look kvs c).isSome = true := by
  unfold look
  rw [Option.isSome_map, List.find?_isSome]
  obtain ⟨q, hq, rfl⟩ := List.mem_map.mp h
  exact ⟨q, hq, decide_eq_true rfl⟩
theorem Drawn.ok {nms : List Str} {b : Str} {kvs : List (Str × PyData)} (h : Drawn nms b kvs) : KindsOk kvs := by
  have hl : kvs.length = nms.length := by rw [← h.keys, List.length_map]
  have hbn : b ∈ nms := List.mem_of_getElem? h.first
  have hk : ∀ c ∈ nms, (look kvs c).isSome = true := fun c hc => look_some (by rw [h.keys]; exact hc)
  have h0 : ∃ d0 rest, kvs = (b, d0) :: rest ∧ BaseOk d0 := by
    cases hc : kvs with
    | nil =>
      rw [hc] at hl
      exact absurd (List.eq_nil_of_length_eq_zero hl.symm) h.ne
    | cons q rest =>
      have e := h.keys
      rw [hc, List.map_cons] at e
      have f := h.first
      rw [← e] at f
      obtain rfl : q.1 = b := by simpa using f
      exact ⟨q.2, rest, rfl, h.base q (by rw [hc]; rfl)⟩
  obtain ⟨d0, rest, hkv, hb0⟩ := h0
  have inR : ∀ built, b ∈ round kvs built := fun built => by
    unfold round
    rw [hkv, List.filter_cons, if_pos (base_canB hb0 built), List.map_cons]
    exact List.mem_cons_self ..
  have allR : ∀ built, b ∈ built → round kvs built = kvs.map (·.1) := fun built hb => by
    unfold round
    rw [List.filter_eq_self.mpr fun q hq => form_canB (h.fm q hq) hb]
  refine ⟨(fun z => by rw [z] at hkv; cases hkv), (by have := h.few; omega), fun q hq => h.nm _ (by rw [← h.keys]; exact List.mem_map.mpr ⟨q, hq, rfl⟩), fun q hq => ?_, (by rw [h.keys]; exact h.nd), ?_⟩
  · rcases h.fm q hq with (⟨ws, e, ne, nd, few, nm⟩ | ⟨lo, hi, e, hle, _⟩) | ⟨c, hc, e⟩ | ⟨ms, e, ok⟩
    · rw [e]; exact .words ne nm nd (by omega)
    · rw [e]; exact .nums hle
    · rw [e]; exact .rows (hk c hc)
    · rw [e]
      refine .makers ok.ne (fun m hm => ⟨ok.nm m hm, fun x hx => hk x ?_, ?_⟩) ok.nd (by have := ok.few; omega)
      · rcases List.mem_append.mp ((ok.parts m hm).2 x hx) with hh | hh
        · exact hh
        · rw [List.mem_singleton.mp hh]; exact hbn
      · have := (ok.parts m hm).1
        omega
  · cases hn : kvs.length with
    | zero => rw [hkv] at hn; cases hn
    | succ n =>
      cases n with
      | zero =>
        show (round kvs []).length = 1
        have hr : rest = [] := by
          rw [hkv] at hn
          exact List.eq_nil_of_length_eq_zero (by simpa using hn)
        unfold round
        rw [hkv, hr, List.filter_cons, if_pos (base_canB hb0 [])]
        rfl
      | succ n =>
        show (round kvs (round kvs (rounds kvs n))).length = n + 2
        rw [allR _ (inR (rounds kvs n)), List.length_map]
        exact hn
def N5 : List Str := ["num", "word", "tree", "list", "abcdefghij"]
theorem n5_names : ∀ w ∈ N5, isNameS w = true := by decide +kernel
theorem n5_nodup : N5.Nodup := by decide +kernel
def R_kinds : List PyData → PyData → Prop := fun _ d => ∃ nms b kvs, d = dictU kvs ∧ Drawn nms b kvs
section
variable {P : Program} {w : World} {K : PySem.W.Frag} {mg : Str → Option Value} {base : Heap} {f : Addr} {fd : FuncData} {G : List (Option PyData)}
theorem gop_endO {p l : Addr} {B H B' H' : Hp} {o : HO} (hl : H l = none) (g : GoP p B H B' H') (h : H' l = some o) (nl : B' l = none) (hlp : l ≠ p) : GoP p B H (upd B' l o) H' := by
  refine ⟨g.eb.trans (Evl.Ex.new nl), g.eh, fun b u hb => ?_, by rw [upd_ne (Ne.symm hlp)]; exact g.np, fun a u ha hb => by rw [upd_ne fun e => by rw [e, hl] at ha; cases ha]; exact g.fr a u ha hb⟩
  by_cases e : b = l
  · subst e
    rw [upd_same] at hb
    rw [← hb]
    exact h
  · rw [upd_ne e] at hb
    exact g.sub b u hb
theorem kr_snoc {B : Hp} {ks : List (Key × V)} {kvs : List (Str × PyData)} {s : Str} {v : V} {d : PyData} (h : KR K B ks kvs) (r : Dp K B v d) : KR K B (ks ++ [(Sum.inr s, v)]) (kvs ++ [(s, d)]) := by
  induction h with
  | nil => exact .cons ⟨rfl, r⟩ .nil
  | cons a _ ih => exact .cons a ih
/-- found[name] = .. of an own dict, a new key -/
theorem put_read {D : Ends} {σ : L2.St} {B H : Hp} {l : Addr} {ks : List (Key × V)} {kvs : List (Str × PyData)} {s : Str} {v : V} {d : PyData} (sl2 : σ[2]? = some (some (.ref l))) (sl3 : σ[3]? = some (some (.str s))) (hl : H l = some (.dK ks)) (kr : KR K B ks kvs) (hs : s ∉ kvs.map (·.1)) (hk : kvs.length ≤ 1000) (q : D.nx σ (upd H l (.dK (ks ++ [(Sum.inr s, v)])))) :
    ∃ x, σ[2]? = some (some x) ∧ ∃ y, σ[3]? = some (some y) ∧ ∃ a H4, x = .ref a ∧ DPut H a y v H4 ∧ D.nx σ H4 := by
  have hn : valV ks (Sum.inr s : Key) = none := by
    rcases kr_look (k := s) kr with ⟨e, _⟩ | ⟨v', d', _, e2, _⟩
    · exact e
    · obtain ⟨q', hq, e3, _⟩ := look_mem e2
      exact absurd (List.mem_map.mpr ⟨q', hq, e3⟩) hs
  have hlen : ks.length = kvs.length := Paired.length kr
  refine ⟨_, sl2, _, sl3, l, _, rfl, DPut.k (k := Sum.inr s) hl (Nat.lt_of_le_of_lt (show ks.length ≤ 1000 by omega) (by decide)), ?_⟩
  rw [putK_new _ hn]
  exact q
end
end FJ
namespace FJ
open PySem PySem.Spec PyProof.Rows L2 FC FG FP
open Evl (Ex)
section
variable {P : Program} {w : World} {K : PySem.W.Frag} {mg : Str → Option Value} {base : Heap} {f : Addr} {fd : FuncData} {G : List (Option PyData)}
theorem seq_newd {t2 : TS} {i : Nat} {D : Ends} {σ : L2.St} {H : Hp} (h : ∀ l, H l = none → t2 D (σ.set i (some (.ref l))) (upd H l (.dK []))) : tSeq (tAsg tDNewK (gName i)) t2 D σ H := h
theorem if_else {tt : TT} {t1 t2 : TS} {D : Ends} {σ : L2.St} {H : Hp} (h : tt σ H fun b H1 => if b = true then t1 D σ H1 else t2 D σ H1) : tIfS tt t1 t2 D σ H := h
theorem put_of {te : TE} {D : Ends} {σ : L2.St} {H : Hp} (h : te σ H fun v H1 => ∃ x, σ[2]? = some (some x) ∧ ∃ y, σ[3]? = some (some y) ∧ ∃ a H4, x = .ref a ∧ DPut H1 a y v H4 ∧ D.nx σ H4) : sDPut (tVar 2) (tVar 3) te D σ H := h
theorem FormIn.plain {nms : List Str} {b : Str} {d : PyData} (h : FormIn nms b d) : FC.plain d = true := by
  rcases h with (⟨ws, rfl, _⟩ | ⟨lo, hi, rfl, _⟩) | ⟨c, _, rfl⟩ | ⟨ms, rfl, _⟩ <;> rfl
theorem sc_lkinds : FnScope ["purse", "names", "found", "name"] ["purse"] (defScope s_lkinds) := ⟨rfl, rfl, rfl, by decide +kernel, rfl, by decide +kernel, by decide +kernel⟩
theorem ok_lkinds (F : Fun K "_law_kinds" "_law_kinds" s_lkinds f fd) (M : Bl mg) (cd : CD1 P w K mg base) (co : Cl P w K mg base 3 "_law_one_of" (spP K pre_one R_one 1)) (cs : Cl P w K mg base 3 "_law_shuffled" (spP K pre_shuf R_shuf 20)) (cb : Cl P w K mg base 4 "_law_base" (spP K (fun ds => ds = []) R_base 25)) (cm : Cl P w K mg base 4 "_law_makers" (spP K pre_makers R_makers 60)) : FnOk P w K mg base CX0 5 f fd ["purse"] (spP K (fun ds => ds = []) R_kinds 300) := by
  refine F.ok sc_lkinds (spP_len (by rintro _ rfl; rfl)) (fun cdv A outer s H vs Q E hr h => ?_)
  obtain ⟨p, us, B, ds, n, rfl, x, nb, rr, pu, n0, hn, rfl, q⟩ := h
  obtain rfl : us = [] := by cases rr; rfl
  have hu := hu_of hr
  have hu64 : (A.deeper (envOfC "_law_kinds" (defScope s_lkinds) s.heap.objs.size f cdv)).units + 64 < cLine := by have := hr.un; omega
  have nd := sc_lkinds.nd
  refine ⟨_, pss_cons (ps_set (i := 1) nd rfl (Or.inl rfl) (pe_slice sl_list (pe_cl cs hr (by decide) (by rfl) (pa_cons (pv 0) (pa_cons (pe_lst (pa_cons pe_str (pa_cons pe_str (pa_cons pe_str (pa_cons pe_str (pa_cons pe_str pa_nil)))))) pa_nil))) po_none (po_some (pe_op op_add pe_int (pe_cl cd hr (by decide) (by rfl) (pa_cons (pv 0) (pa_cons pe_int pa_nil)))))))
    (pss_cons (ps_set (i := 2) nd rfl (Or.inl rfl) pe_dnewK)
    (pss_cons (ps_for PassesOwn.never rfl (pi_list (pv 1)) (pg_name (i := 3) nd rfl (Or.inl rfl))
      (pss_one (ps_if (pt_cmpR (op_eqD hu64) (pv 3) (pe_ix ix_list (pv 1) pe_int (fun _ _ => rfl)) (nomark _)) (pss_one (ps_dput hu (pv 2) (pv 3) (pe_cl cb hr (by decide) (by rfl) (pa_cons (pv 0) pa_nil)) (by rfl)))
        (pss_one (ps_if (pt_cmpR (op_eqD hu64) (pe_cl cd hr (by decide) (by rfl) (pa_cons (pv 0) (pa_cons pe_int pa_nil))) pe_int (nomark _)) (pss_one (ps_dput hu (pv 2) (pv 3) (pe_tup (pa_cons pe_str (pa_cons (pe_cl co hr (by decide) (by rfl) (pa_cons (pv 0) (pa_cons (pv 1) pa_nil))) pa_nil))) (by rfl)))
          (pss_one (ps_dput hu (pv 2) (pv 3) (pe_cl cm hr (by decide) (by rfl) (pa_cons (pv 0) (pa_cons (pv 1) (pa_cons (pe_ix ix_list (pv 1) pe_int (fun _ _ => rfl)) pa_nil)))) (by rfl))))))))
    (pss_one (ps_ret (pv 2))))), ?_⟩
  have hn : n + 300 ≤ 9000000 := hn
  have s0 : StP K p B H [some (.ref p), none, none, none] [none, none, none, none] n := by
    refine ⟨x, nb, ⟨rfl, fun i d hi => ?_⟩, pu, rfl⟩
    match i with
    | 0 => cases hi
    | 1 => cases hi
    | 2 => cases hi
    | 3 => cases hi
    | i + 4 => simp at hi
  have names : DP K p (tSl (rSlL K) (tCall (spP K pre_shuf R_shuf 20) [] E0 (tCons (tVar 0) (tCons (tLst (tCons (tC (.str "num")) (tCons (tC (.str "word")) (tCons (tC (.str "tree")) (tCons (tC (.str "list")) (tCons (tC (.str "abcdefghij")) tNil)))))) tNil))) tNoPart (tPart (tOp (rI0 fun i j => .int (i + j)) (tC (.int 1)) (tCall (spP K pre_draw R_draw 1) [] E0 (tCons (tVar 0) (tCons (tC (.int 4)) tNil)))))) [none, none, none, none] 21
      (fun d => ∃ ws : List Str, d = strL ws ∧ ws.Nodup ∧ (∀ x ∈ ws, isNameS x = true) ∧ 1 ≤ ws.length ∧ ws.length ≤ 4) := by
    refine dp_up (dp_imp (dp_to (φ := fun ys => ys.Perm (N5.map .str)) (dp_imp (dp_shuf (φ := fun xs => xs = N5.map .str) (dp_imp (dp_of (de_lst (da_cons de_str (da_cons de_str (da_cons de_str (da_cons de_str (da_cons de_str da_nil))))) rfl (by show 5 ≤ 1000; decide))) ?_) (Int.le_refl 0)) ?_) (dp_opI dp_int (dp_drawI (dp_of de_int) (Int.le_refl 0) (by decide) (by decide)) (Int.le_refl 0) (by decide)) (by decide) (by decide) ?_) ?_) (by decide)
    · rintro d rfl
      exact ⟨_, rfl, by show 5 ≤ 20; decide, rfl⟩
    · exact fun d h => by
        obtain ⟨xs, ys, rfl, rfl, pm⟩ := h
        exact ⟨ys, rfl, pm⟩
    · rintro i ⟨a, b, rfl, ⟨b0, b1⟩, rfl⟩
      omega
    · rintro z ⟨ys, i, pm, ⟨a, b', rfl, ⟨b0, b1⟩, rfl⟩, rfl⟩
      obtain ⟨ws, rfl, pw⟩ := perm_map pm rfl
      have hl : ws.length = 5 := pw.length_eq
      refine ⟨ws.take (1 + b').toNat, by rw [← List.map_take]; rfl, (List.take_sublist _ _).nodup (pw.nodup_iff.mpr n5_nodup), fun y hy => n5_names y (pw.mem_iff.mp (List.mem_of_mem_take hy)), ?_, ?_⟩
      · rw [List.length_take]; omega
      · rw [List.length_take]; omega
  refine seq_set (names _ B H n s0 (by show n + 21 ≤ 9000000; omega) _ fun v1 B1 H1 d1 g1 r1 hf1 pu1 => ?_)
  obtain ⟨nms, rfl, hnd, hnm, l1, l4⟩ := hf1
  obtain ⟨b, hb⟩ : ∃ b, nms[0]? = some b := ⟨nms[0], List.getElem?_eq_getElem (by omega)⟩
  have hbm : b ∈ nms := List.mem_of_getElem? hb
  have s1 := (s0.go g1 pu1).set (i := 1) (by decide) r1
  refine seq_newd fun l hl => ?_
  have hlp : l ≠ p := by
    intro e
    obtain ⟨o, ho⟩ := pu1.some
    rw [e, ho] at hl
    cases hl
  have nl1 : B1 l = none := sub_none g1.sub hl
  let G0 : Option PyData → List (Option PyData) := fun x3 => [none, some (strL nms), none, x3]
  have s2 : StP K p B1 (upd H1 l (.dK [])) [some (.ref p), some v1, some (.ref l), none] (G0 none) (n + 21) := by
    refine ⟨g1.sub.trans (Evl.Ex.new hl), g1.np, ⟨rfl, fun i d hi => ?_⟩, pu1.ex (Evl.Ex.new hl), rfl⟩
    match i with
    | 0 => cases hi
    | 1 => cases hi; exact ⟨v1, rfl, r1⟩
    | 2 => cases hi
    | 3 => cases hi
    | i + 4 => simp [G0] at hi
  have it : DPI K p (iList K (tVar 1)) (gName 3) [3] (G0 none) 0 (fun a c => a = (nms.map PyData.str).length ∧ c = fun i G2 => G2.set 3 (nms.map PyData.str)[i]?) := dpi_of (di_list (ds := nms.map .str) (de_var rfl))
  refine seq_for (for_of (it _ B1 _ (n + 21) s2 (by show n + 21 + 0 ≤ 9000000; omega) _ fun J B2 H2 m ff g2 pu2 hχ ht => ?_))
  obtain ⟨hm, hff⟩ := hχ
  obtain ⟨Y, W, turn⟩ := ht
  subst hff
  rw [List.length_map] at hm
  have h2l : H2 l = some (.dK []) := g2.eh l _ hlp upd_same
  have n2l : B2 l = none := g2.fr l _ upd_same nl1
  have g2H : GoP p B1 H1 B2 H2 := gop_ahead hl g2
  rw [Int.add_zero] at pu2
  have s3 := s2.go g2 pu2
  refine for_it W (fun i σ' H' => ∃ (B' : Hp) (kvs : List (Str × PyData)) (ks : List (Key × V)) (x3 : Option PyData), GoP p B1 H1 B' H' ∧ Ex B2 B' ∧ StP K p B' H' σ' (G0 x3) (n + 21 + i * 61) ∧ σ'[2]? = some (some (.ref l)) ∧ B' l = none ∧ H' l = some (.dK ks) ∧ KR K B' ks kvs ∧ kvs.map (·.1) = nms.take i ∧ (∀ q ∈ kvs, FormIn nms b q.2) ∧ (∀ q : Str × PyData, kvs[0]? = some q → BaseOk q.2))
    ⟨B2, [], [], none, g2H, Evl.Ex.refl _, (by
      have z : n + 21 + ((0 : Nat) : Int) * 61 = n + 21 := by simp
      rw [z]; exact s3), rfl, n2l, h2l, .nil, rfl, (fun _ h => nomatch h), fun _ h => by simp at h⟩ (fun i σ' H' _ ⟨B', _, _, _, g, e, _⟩ => e.trans g.sub) ?_ ?_
  · rintro i y σ4 H4 H5 hil ⟨B4, kvs, ks, x3, g4, e4, s4, sl2, nl4, hl4, kr, hks, hfm, hfst⟩ hy
    have hiw : i < nms.length := by omega
    refine turn i hil B4 H4 σ4 (G0 x3) y H5 e4 s4.x s4.en hy _ fun σ5 B5 H6 g5 en5 hw => ?_
    have s5 := s4.same (vs := [3]) g5 en5 (by decide) (hw [3] fun _ h => h)
    have sl5 : σ5[2]? = some (some (.ref l)) := by rw [← wipe_get (vs := [3]) (j := 2) (by decide), hw [3] (fun _ h => h), wipe_get (by decide)]; exact sl2
    have eG : (G0 x3).set 3 (nms.map PyData.str)[i]? = G0 (some (.str nms[i])) := by
      rw [get_map hiw]
      rfl
    have s5 : StP K p B5 H6 σ5 (G0 (some (.str nms[i]))) (n + 21 + i * 61) := by rw [← eG]; exact s5
    have gp5 : GoP p B4 H4 B5 H6 := .of g5 s4.nb s4.pu
    have hl5 : H6 l = some (.dK ks) := g5.eh l _ hl4
    have nl5 : B5 l = none := g5.fr l _ hl4 nl4
    have kr5 := kr_ex g5.eb kr
    have sl3 : σ5[3]? = some (some (.str nms[i])) := by
      obtain ⟨v, h1, h2⟩ := s5.en.get 3 (.str nms[i]) rfl
      rw [rt_str h2] at h1
      exact h1
    have hklen : kvs.length = i := by
      have := congrArg List.length hks
      rw [List.length_map, List.length_take] at this
      omega
    have hnew : nms[i] ∉ kvs.map (·.1) := by
      rw [hks]
      intro hm
      obtain ⟨j, hj, ej⟩ := List.getElem_of_mem hm
      rw [List.length_take] at hj
      rw [List.getElem_take] at ej
      have := (List.getElem_inj hnd).mp ej
      omega
    have done : ∀ (B7 H7 : Hp) (v : V) (d : PyData), GoP p B5 H6 B7 H7 → Rt K B7 v d → FormIn nms b d → (i = 0 → BaseOk d) → Purse H7 (n + 21 + i * 61 + 61) p →
        ∃ x, σ5[2]? = some (some x) ∧ ∃ y, σ5[3]? = some (some y) ∧ ∃ a H4, x = .ref a ∧ DPut H7 a y v H4 ∧ ∃ (B' : Hp) (kvs : List (Str × PyData)) (ks : List (Key × V)) (x3 : Option PyData), GoP p B1 H1 B' H4 ∧ Ex B2 B' ∧ StP K p B' H4 σ5 (G0 x3) (n + 21 + ((i + 1 : Nat) : Int) * 61) ∧ σ5[2]? = some (some (.ref l)) ∧ B' l = none ∧ H4 l = some (.dK ks) ∧ KR K B' ks kvs ∧ kvs.map (·.1) = nms.take (i + 1) ∧ (∀ q ∈ kvs, FormIn nms b q.2) ∧ (∀ q : Str × PyData, kvs[0]? = some q → BaseOk q.2) := by
      intro B7 H7 v d g7 r7 fi fb pu7
      have hl7 : H7 l = some (.dK ks) := g7.eh l _ hlp hl5
      have nl7 : B7 l = none := g7.fr l _ hl5 nl5
      have kr7 := kr_ex g7.eb kr5
      have ga : GoP p B1 H1 B7 H7 := (g4.trans gp5 s4.pu g1.np).trans g7 s5.pu g1.np
      have ga' := gop_own (o := .dK (ks ++ [(Sum.inr nms[i], v)])) hl ga nl7
      have s7 := s5.go g7 pu7
      refine put_read (d := d) (D := { nx := fun σ H4 => ∃ (B' : Hp) (kvs : List (Str × PyData)) (ks : List (Key × V)) (x3 : Option PyData), GoP p B1 H1 B' H4 ∧ Ex B2 B' ∧ StP K p B' H4 σ (G0 x3) (n + 21 + ((i + 1 : Nat) : Int) * 61) ∧ σ[2]? = some (some (.ref l)) ∧ B' l = none ∧ H4 l = some (.dK ks) ∧ KR K B' ks kvs ∧ kvs.map (·.1) = nms.take (i + 1) ∧ (∀ q ∈ kvs, FormIn nms b q.2) ∧ (∀ q : Str × PyData, kvs[0]? = some q → BaseOk q.2), rt := fun _ _ => False }) sl5 sl3 hl7 kr7 hnew (by omega) ?_
      refine ⟨B7, kvs ++ [(nms[i], d)], ks ++ [(Sum.inr nms[i], v)], some (.str nms[i]), ga', e4.trans (gp5.eb.trans g7.eb), ⟨ga'.sub, ga'.np, s7.en, ?_, s7.sl⟩, sl5, nl7, upd_same, kr_snoc kr7 (r7.dp fi.plain), ?_, ?_, ?_⟩
      · have e : n + 21 + ((i + 1 : Nat) : Int) * 61 = n + 21 + i * 61 + 61 := by
          rw [Int.natCast_add, Int.add_mul]
          simp
          omega
        rw [e]
        obtain ⟨a1, b1, c1, hp, r'⟩ := s7.pu
        exact ⟨a1, b1, c1, by rw [upd_ne (Ne.symm hlp)]; exact hp, r'⟩
      · rw [List.map_append, hks, List.take_succ, List.getElem?_eq_getElem hiw]
        rfl
      · intro q hq
        rcases List.mem_append.mp hq with h | h
        · exact hfm q h
        · rw [List.mem_singleton.mp h]
          exact fi
      · intro q hq
        cases kvs with
        | nil =>
          obtain rfl : (nms[i], d) = q := by simpa using hq
          exact fb (by simpa using hklen.symm)
        | cons q0 r0 => exact hfst q (by simpa using hq)
    have v1' : DE K (tVar 1) (G0 (some (.str nms[i]))) (.list (nms.map .str)) := de_var rfl
    have lim : n + 21 + (i : Int) * 61 + 61 ≤ 9000000 := by omega
    have i00 : i = 0 → (nms[i] == b) = true := by
      intro e
      subst e
      rw [List.getElem?_eq_getElem hiw] at hb
      rw [Option.some.inj hb]
      exact beq_self_eq_true b
    refine if_else ((dpt_of (p := p) (dt_test (de_op (de_var (d := .str nms[i]) rfl) (de_op v1' de_int (rd_ixL (j := 0) (d := .str b) rfl (by rw [List.getElem?_map, hb]; rfl))) (rd_eq (sh_str (hnm _ (List.getElem_mem hiw))) (sh_str (hnm _ hbm)) rfl rfl)))) σ5 B5 H6 _ s5 (by show n + 21 + (i : Int) * 61 + 0 ≤ 9000000; omega) _ fun bb B7 H7 g7 hbb pu7 => ?_)
    rw [Int.add_zero] at pu7
    have s7 := s5.go g7 pu7
    have hbb : bb = (nms[i] == b) := hbb
    cases bb with
    | true =>
      refine iteT (put_of ?_)
      refine dp_call (pre := fun ds => ds = []) (R := R_base) (E := E0) (k2 := 25) (dpa_nil (K := K)) (fun ds h => h) (Int.le_refl 0) (by decide) σ5 B7 H7 _ s7 (by show n + 21 + (i : Int) * 61 + (0 + 25) ≤ 9000000; omega) _ fun v B8 H8 d g8 r8 hf pu8 => ?_
      obtain ⟨_, _, hbase⟩ := hf
      exact done B8 H8 v d (g7.trans g8 pu7 s5.nb) r8 (.inl hbase) (fun _ => hbase) (pu8.up (by omega))
    | false =>
      have ine : i ≠ 0 := fun e => by rw [i00 e] at hbb; cases hbb
      refine iteF (if_else ((dpt_eqI (c := 0) (dp_drawI (E := E0) (dp_of de_int) (Int.le_refl 0) (by decide) (by decide)) (by decide)) σ5 B7 H7 _ s7 (by show n + 21 + (i : Int) * 61 + (0 + 1) ≤ 9000000; omega) _ fun b2 B8 H8 g8 hb2 pu8 => ?_))
      have s8 := s7.go g8 pu8
      cases b2 with
      | true =>
        refine iteT (put_of ?_)
        refine dp_tup (dpa_cons (dp_of de_str) (dpa_cons (dp_one (E := E0) (φ := fun xs => xs = nms.map .str) (dp_imp (dp_of v1') ?_) (Int.le_refl 0)) dpa_nil (by decide) (by decide)) (by decide) (by decide)) ?_ σ5 B8 H8 _ s8 (by show n + 21 + (i : Int) * 61 + (0 + 1) + (0 + (0 + 1 + 0)) ≤ 9000000; omega) _ fun v B9 H9 d g9 r9 hf pu9 => ?_
        · rintro d rfl
          exact ⟨_, rfl, by rw [List.length_map]; omega, by rw [List.length_map]; omega, rfl⟩
        · rintro ds ⟨d, es, rfl, rfl, e, es', rfl, ⟨xs, rfl, hz⟩, rfl⟩
          obtain ⟨c, hc, rfl⟩ := List.mem_map.mp hz
          exact ⟨rfl, by show 2 ≤ 1000; decide⟩
        · obtain ⟨ds, ⟨d', es, rfl, rfl, e, es', rfl, ⟨xs, rfl, hz⟩, rfl⟩, rfl⟩ := hf
          obtain ⟨c, hc, rfl⟩ := List.mem_map.mp hz
          exact done B9 H9 v _ ((g7.trans g8 pu7 s5.nb).trans g9 pu8 s5.nb) r9 (.inr (.inl ⟨c, hc, rfl⟩)) (fun e => absurd e ine) (pu9.up (by omega))
      | false =>
        refine iteF (put_of ?_)
        refine dp_call (pre := pre_makers) (R := R_makers) (E := E0) (k2 := 60) (dpa_of (da_cons v1' (da_cons (de_op v1' de_int (rd_ixL (j := 0) (d := .str b) rfl (by rw [List.getElem?_map, hb]; rfl))) da_nil))) ?_ (Int.le_refl 0) (by decide) σ5 B8 H8 _ s8 (by show n + 21 + (i : Int) * 61 + (0 + 1) + (0 + 60) ≤ 9000000; omega) _ fun v B9 H9 d g9 r9 hf pu9 => ?_
        · rintro ds rfl
          exact ⟨nms, b, rfl, by omega, hnm, hnm b hbm⟩
        · obtain ⟨ds, rfl, nms', b', ms, e, rfl, ok⟩ := hf
          have e1 : nms = nms' := (List.map_inj_right (fun _ _ z => PyData.str.inj z)).mp (PyData.list.inj (List.cons.inj e).1)
          have e2 : b = b' := PyData.str.inj (List.cons.inj (List.cons.inj e).2).1
          subst e1 e2
          exact done B9 H9 v _ ((g7.trans g8 pu7 s5.nb).trans g9 pu8 s5.nb) r9 (.inr (.inr ⟨ms, rfl, ok⟩)) (fun e => absurd e ine) (pu9.up (by omega))
  · rintro σ4 H4 ⟨B4, kvs, ks, x3, g4, e4, s4, sl2, nl4, hl4, kr, hks, hfm, hfst⟩
    have hmw : m = nms.length := hm
    subst hmw
    rw [List.take_length] at hks
    have dr : Drawn nms b kvs := ⟨hks, hnd, hnm, fun z => by rw [z] at l1; simp at l1, l4, hb, hfm, hfst⟩
    have ge := gop_endO hl g4 hl4 nl4 hlp
    have eb : Ex B4 (upd B4 l (.dK ks)) := Evl.Ex.new nl4
    refine ⟨.ref l, sl2, ?_⟩
    exact q _ _ H4 (dictU kvs) (g1.trans ge pu1 nb) (.dictU upd_same (kr_ex eb kr) (by rw [hks]; exact hnd)) ⟨nms, b, kvs, rfl, dr⟩ (s4.pu.up (by omega))
end
end FJ
namespace FJ
open PySem PySem.Spec PyProof.Rows L2 FC FG FP
open Evl (Ex)
/-! ### a kind; helpers of the patterns that are drawn -/
def rListK : List V → Hp → VK → Prop := fun xs H Q => ∃ (a : Addr) (kvs : List (Key × V)), xs = [.ref a] ∧ Rd H a (.dK kvs) ∧ ∀ p, H p = none → Q (.ref p) (upd H p (.lst (kvs.map fun kv => kV kv.1)))
def rMax2 : List V → Hp → VK → Prop := fun xs H Q => ∃ i j, xs = [.int i, .int j] ∧ Q (.int (if j > i then j else i)) H
section
variable {K : PySem.W.Frag} {p : Addr} {G : List (Option PyData)} {ta tb te : TE} {k k1 k2 : Int}
theorem kr_keys {B : Hp} : ∀ {ks : List (Key × V)} {kvs : List (Str × PyData)}, KR K B ks kvs → DpAll K B (ks.map fun kv => kV kv.1) (keysP kvs)
  | _, _, .nil => .nil
  | _, _, .cons (a := a) (b := b) r t => by
    rw [List.map_cons, r.1]
    exact .cons (.str _) (kr_keys t)
theorem cd_listK {kvs : List (Str × PyData)} : CD K rListK [dictU kvs] (.list (keysP kvs)) := fun B H vs x r Q q => by
  cases r with
  | cons r1 r2 =>
    cases r2
    obtain ⟨a, ks, rfl, e, kr, nd⟩ := rt_dictU r1
    exact ⟨a, ks, rfl, .inl (x _ _ e), fun l nl => q _ (upd B l (.lst _)) _ (Go.new x nl) (.d (.lst (SqL.of upd_same) (dps_ex (Evl.Ex.new (sub_none x nl)) _ _ (kr_keys kr))))⟩
theorem cd_max2 {i j : Int} : CD K rMax2 [.int i, .int j] (.int (if j > i then j else i)) := fun B H vs x r Q q => by
  cases r with
  | cons r1 rr =>
  cases rr with
  | cons r2 rr =>
  cases rr
  exact ⟨i, j, by rw [rt_int r1, rt_int r2], q _ B H (.refl x) (.d (.int _))⟩
/-- [x] * n -/
theorem rd_rep {ds : List PyData} {i : Int} {n : Nat} (hi : i = (n : Int)) (hn : n ≤ 1000) (hl : ds.length ≤ 1) : RD K rRep (listX ds) (.int i) (.list (List.replicate n ds).flatten) := fun B H v w x r1 r2 Q q => by
  obtain ⟨l, xs, rfl, e, da⟩ := rt_listX r1
  have hlen := dps_len da
  subst hi
  have key : ∀ n, DpAll K B (List.replicate n xs).flatten (List.replicate n ds).flatten := fun n => by
    induction n with
    | zero => exact .nil
    | succ n ih =>
      rw [List.replicate_succ, List.replicate_succ, List.flatten_cons, List.flatten_cons]
      exact dps_append ih da
  refine ⟨l, n, xs, rfl, rt_int r2, x _ _ e, by omega, by omega, ?_, fun c hc => ?_⟩
  · rw [Int.toNat_natCast]
    have : xs.length * n ≤ 1 * n := Nat.mul_le_mul_right n (by omega)
    exact Nat.le_trans (show _ ≤ 1000 by omega) (by decide)
  · rw [Int.toNat_natCast]
    have g := Go.new x hc (o := .lst (List.replicate n xs).flatten)
    exact q _ _ _ g (.d (.lst (.inl (.inl upd_same)) (dps_ex g.eb _ _ (key n))))
theorem rep_one (s : Str) (n : Nat) : (List.replicate n [PyData.str s]).flatten = (List.replicate n s).map .str := by
  induction n with
  | zero => rfl
  | succ n ih =>
    rw [List.replicate_succ, List.replicate_succ, List.flatten_cons, List.map_cons, ih]
    rfl
/-- two names at once -/
theorem dps_par {i j : Nat} {ta : TA} {ts : TS} {Φ : PyData → PyData → Prop} {φ : PyData → Prop} (hi : i ≠ 0) (hj : j ≠ 0) (h : DPA K p ta G k1 (fun ds => ∃ a b, ds = [a, b] ∧ Φ a b)) (hr : ∀ a b, Φ a b → DPS K p ts ((G.set i (some a)).set j (some b)) k2 φ) (p2 : 0 ≤ k2) : DPS K p (tSeq (tPar i j ta) ts) G (k1 + k2) φ := fun D σ B H n s l q =>
  h σ B H n s (by omega) _ fun vs B1 H1 ds g1 r1 ⟨a, b, e, f⟩ pu1 => by
    subst e
    cases r1 with
    | cons r1 rr =>
    cases rr with
    | cons r2 rr =>
    cases rr
    refine ⟨_, _, rfl, hr a b f D _ B1 H1 (n + k1) (((s.go g1 pu1).set hi r1).set hj r2) (by omega) fun v B2 H2 d g2 r2 f2 pu2 => q v B2 H2 d (g1.trans g2 pu1 s.nb) r2 f2 (by rw [← Int.add_assoc]; exact pu2)⟩
/-- a, b = e (a tuple of two) -/
theorem dps_un {i j : Nat} {ts : TS} {Φ : PyData → PyData → Prop} {φ : PyData → Prop} (hi : i ≠ 0) (hj : j ≠ 0) (h : DP K p te G k1 (fun d => ∃ a b, d = .tuple [a, b] ∧ Φ a b)) (hr : ∀ a b, Φ a b → DPS K p ts ((G.set i (some a)).set j (some b)) k2 φ) (p2 : 0 ≤ k2) : DPS K p (tSeq (tAsg te (gTup K 2 (gCons (gName i) (gCons (gName j) gNil)))) ts) G (k1 + k2) φ := fun D σ B H n s l q =>
  h σ B H n s (by omega) _ fun v B1 H1 d g1 r1 ⟨a, b, e, f⟩ pu1 => by
    subst e
    have r1 := r1.dp rfl
    cases r1 with
    | @tup c zs _ hz hza =>
    cases hza with
    | cons q1 hza =>
    cases hza with
    | cons q2 hza =>
    cases hza
    refine ⟨c, _, rfl, ex_t g1.sub hz, rfl, _, _, rfl, _, _, rfl, rfl, ?_⟩
    exact hr a b f D _ B1 H1 (n + k1) (((s.go g1 pu1).set hi (.d q1)).set hj (.d q2)) (by omega) fun v B2 H2 d g2 r2 f2 pu2 => q v B2 H2 d (g1.trans g2 pu1 s.nb) r2 f2 (by rw [← Int.add_assoc]; exact pu2)
end
theorem OkPat.mono {kvs : List (Str × PyData)} {n m : Nat} {k : Str} {q : PyData} (h : OkPat kvs n k q) (l : n ≤ m) : OkPat kvs m k q := by
  induction h generalizing m with
  | any n k => exact .any m k
  | or ne few h ih =>
    obtain ⟨m', rfl⟩ : ∃ m', m = m' + 1 := ⟨m - 1, by omega⟩
    exact .or ne few fun p hp => ih p hp (by omega)
  | range hk ha hb => exact .range hk ha hb
  | word hk hw => exact .word hk hw
  | maker hk hm hl few h ih =>
    obtain ⟨m', rfl⟩ : ∃ m', m = m' + 1 := ⟨m - 1, by omega⟩
    exact .maker hk hm hl few fun p hp => ih p hp (by omega)
  | row hk few h ih =>
    obtain ⟨m', rfl⟩ : ∃ m', m = m' + 1 := ⟨m - 1, by omega⟩
    exact .row hk few fun p hp => ih p hp (by omega)
  | gap hk few h ih =>
    obtain ⟨m', rfl⟩ : ∃ m', m = m' + 1 := ⟨m - 1, by omega⟩
    exact .gap hk few fun p hp => ih p hp (by omega)
def pre_kind : List PyData → Prop := fun ds => ∃ kvs, ds = [dictU kvs] ∧ kvs ≠ [] ∧ kvs.length ≤ 100
def R_kind : List PyData → PyData → Prop := fun ds d => ∃ (kvs : List (Str × PyData)) (s : Str), ds = [dictU kvs] ∧ d = .str s ∧ s ∈ kvs.map (·.1)
section
variable {P : Program} {w : World} {K : PySem.W.Frag} {mg : Str → Option Value} {base : Heap} {f : Addr} {fd : FuncData} {G : List (Option PyData)}
theorem sc_lkind : FnScope ["purse", "kinds", "names"] ["purse", "kinds"] (defScope s_lkind) := ⟨rfl, rfl, rfl, by decide +kernel, rfl, by decide +kernel, by decide +kernel⟩
theorem ok_lkind (F : Fun K "_law_kind" "_law_kind" s_lkind f fd) (M : Bl mg) (cd : CD1 P w K mg base) : FnOk P w K mg base CX0 3 f fd ["purse", "kinds"] (spP K pre_kind R_kind 2) := by
  refine F.ok sc_lkind (spP_len (by rintro _ ⟨_, rfl, _⟩; rfl)) (fun cdv A outer s H vs Q E hr h => ?_)
  obtain ⟨p, us, B, ds, n, rfl, x, nb, rr, pu, n0, hn, ⟨kvs, rfl, ne, few⟩, q⟩ := h
  have nd := sc_lkind.nd
  refine ⟨_, pss_cons (ps_set (i := 2) nd rfl (Or.inl rfl) (pe_callTy (r := rListK) (call_listD rfl) (by rfl) M.list PyProof.Rows.boot_list (pa_cons (pv 1) pa_nil)))
    (pss_one (ps_ret (pe_ix ix_list (pv 2) (pe_callB (r := rMax2) (call_max2 rfl) (by rfl) M.max PyProof.Rows.boot_max (pa_cons (pe_cl cd hr (by decide) (by rfl) (pa_cons (pv 0) (pa_cons (pe_callB call_lenR (by rfl) M.len PySem.boot_len (pa_cons (pv 2) pa_nil)) pa_nil))) (pa_cons (pe_cl cd hr (by decide) (by rfl) (pa_cons (pv 0) (pa_cons (pe_callB call_lenR (by rfl) M.len PySem.boot_len (pa_cons (pv 2) pa_nil)) pa_nil))) pa_nil))) (fun _ _ => rfl)))), ?_⟩
  refine fin_P (φ := R_kind [dictU kvs]) ?_ x nb rr pu hn q
  show DPS K p _ [none, some (dictU kvs), none] 2 _
  refine dps_up (dps_set (by decide) (dp_of (de_cb (da_cons (de_var rfl) da_nil) cd_listK)) (fun d e => ?_) (k2 := 2) (by decide)) (by decide)
  subst e
  show DPS K p _ [none, some (dictU kvs), some (.list (keysP kvs))] 2 _
  have h2 : DE K (tVar 2) [none, some (dictU kvs), some (.list (keysP kvs))] (.list (keysP kvs)) := de_var rfl
  have hkl : (keysP kvs).length = kvs.length := by unfold keysP; rw [List.length_map]
  have hk1 : 1 ≤ kvs.length := by
    cases kvs with
    | nil => exact absurd rfl ne
    | cons => simp
  have dr : DP K p (tCall (spP K pre_draw R_draw 1) [] E0 (tCons (tVar 0) (tCons (tCB (FC.rLen K) (tCons (tVar 2) tNil)) tNil))) [none, some (dictU kvs), some (.list (keysP kvs))] (0 + 1) (fun z => ∃ r : Int, z = .int r ∧ (0 ≤ r ∧ r < kvs.length)) :=
    dp_drawI (dp_imp (dp_of (de_cb (da_cons h2 da_nil) cd_lenL)) fun d e => by rw [e, hkl]) (Int.le_refl 0) (by omega) (by omega)
  refine dps_ret (dp_up (dp_imp (dp_op (f := fun d e => match e with | .int r => (keysP kvs).getD r.toNat .none | _ => .none) (dp_of h2) (dp_imp (φ := fun z => ∃ r : Int, z = .int r ∧ 0 ≤ r ∧ r < kvs.length) (dp_cb (f := fun ds => match ds with | [.int i, .int j] => .int (if j > i then j else i) | _ => .none) (dpa_cons dr (dpa_cons dr dpa_nil (by decide) (by decide)) (by decide) (by decide)) ?_) ?_) (Int.le_refl 0) (by decide) ?_) ?_) (by decide))
  · rintro ds ⟨d, es, rfl, ⟨i, rfl, _⟩, e, es', rfl, ⟨j, rfl, _⟩, rfl⟩
    exact cd_max2
  · rintro z ⟨ds, ⟨d, es, rfl, ⟨i, rfl, i0, i1⟩, e, es', rfl, ⟨j, rfl, j0, j1⟩, rfl⟩, rfl⟩
    refine ⟨_, rfl, ?_, ?_⟩ <;> split <;> omega
  · rintro d e rfl ⟨r, rfl, h1, h2⟩
    have hr' : r.toNat < (keysP kvs).length := by omega
    exact rd_ixL (j := r.toNat) (Int.toNat_of_nonneg h1).symm (by show _ = some ((keysP kvs).getD r.toNat .none); rw [getD_at hr', List.getElem?_eq_getElem hr'])
  · rintro z ⟨d, e, rfl, ⟨r, rfl, h1, h2⟩, rfl⟩
    have hr' : r.toNat < kvs.length := by omega
    refine ⟨kvs, (kvs[r.toNat]).1, rfl, ?_, List.mem_map.mpr ⟨_, List.getElem_mem hr', rfl⟩⟩
    show (keysP kvs).getD r.toNat .none = _
    rw [FP.getD_at (show r.toNat < (keysP kvs).length by omega)]
    unfold keysP
    rw [List.getElem_map]
end
end FJ
namespace FJ
open PySem PySem.Spec PyProof.Rows L2 FC FG FP
open Evl (Ex)
def cpat : Nat → Int
  | 0 => 3
  | n + 1 => 8 * cpat n + 12
theorem cpat_pos : ∀ n, 3 ≤ cpat n
  | 0 => by decide
  | n + 1 => by
    have := cpat_pos n
    show 3 ≤ 8 * cpat n + 12
    omega
def pre_pat (n : Nat) : List PyData → Prop := fun ds => ∃ nms b kvs k, ds = [dictU kvs, .str k, .int (n : Nat)] ∧ Drawn nms b kvs ∧ k ∈ nms
def R_pat (n : Nat) : List PyData → PyData → Prop := fun ds d => ∃ (kvs : List (Str × PyData)) (k : Str), ds = [dictU kvs, .str k, .int (n : Nat)] ∧ OkPat kvs n k d
def pre_pats (n : Nat) : List PyData → Prop := fun ds => ∃ nms b kvs ks, ds = [dictU kvs, strL ks, .int (n : Nat)] ∧ Drawn nms b kvs ∧ (∀ k ∈ ks, k ∈ nms) ∧ ks.length ≤ 3
def R_pats (n : Nat) : List PyData → PyData → Prop := fun ds d => ∃ (kvs : List (Str × PyData)) (ks : List Str) (ps : List PyData), ds = [dictU kvs, strL ks, .int (n : Nat)] ∧ d = .list ps ∧ ps.length = ks.length ∧ ∀ q ∈ ks.zip ps, OkPat kvs n q.1 q.2
theorem dictU_inj {a b : List (Str × PyData)} (h : dictU a = dictU b) : a = b := bodyOf_inj (List.cons.inj (PyData.dict.inj h)).2
theorem strL_inj {a b : List Str} (h : strL a = strL b) : a = b := (List.map_inj_right (fun _ _ z => PyData.str.inj z)).mp (PyData.list.inj h)
section
variable {P : Program} {w : World} {K : PySem.W.Frag} {mg : Str → Option Value} {base : Heap} {f : Addr} {fd : FuncData} {G : List (Option PyData)} {p : Addr}
theorem dp_pat {n : Nat} {t1 t2 t3 : TE} {E : XK} {c : Int} {nms : List Str} {b k : Str} {kvs : List (Str × PyData)} (dr : Drawn nms b kvs) (hk : k ∈ nms) (pc : 0 ≤ c) (h1 : DE K t1 G (dictU kvs)) (h2 : DE K t2 G (.str k)) (h3 : DE K t3 G (.int (n : Nat))) :
    DP K p (tCall (spP K (pre_pat n) (R_pat n) c) [] E (tCons (tVar 0) (tCons t1 (tCons t2 (tCons t3 tNil))))) G c (fun d => OkPat kvs n k d) := by
  refine dp_imp (dp_up (dp_call (dpa_of (da_cons h1 (da_cons h2 (da_cons h3 da_nil)))) (fun ds e => ⟨nms, b, kvs, k, e, dr, hk⟩) (Int.le_refl 0) pc) (by omega)) ?_
  rintro z ⟨ds, rfl, kvs', k', e, ok⟩
  have e1 := dictU_inj (List.cons.inj e).1
  have e2 := PyData.str.inj (List.cons.inj (List.cons.inj e).2).1
  rw [e1, e2]
  exact ok
theorem dp_pats {n : Nat} {t1 t3 : TE} {t2 : TE} {E : XK} {c k1 : Int} {nms : List Str} {b : Str} {kvs : List (Str × PyData)} {φ : List Str → Prop} (dr : Drawn nms b kvs) (pc : 0 ≤ c) (p1 : 0 ≤ k1) (h1 : DE K t1 G (dictU kvs)) (h2 : DP K p t2 G k1 (fun d => ∃ ks, d = strL ks ∧ φ ks ∧ (∀ k ∈ ks, k ∈ nms) ∧ ks.length ≤ 3)) (h3 : DE K t3 G (.int (n : Nat))) :
    DP K p (tCall (spP K (pre_pats n) (R_pats n) c) [] E (tCons (tVar 0) (tCons t1 (tCons t2 (tCons t3 tNil))))) G (k1 + c) (fun d => ∃ ks ps, d = .list ps ∧ φ ks ∧ ks.length ≤ 3 ∧ ps.length = ks.length ∧ ∀ q ∈ ks.zip ps, OkPat kvs n q.1 q.2) := by
  refine dp_imp (dp_up (dp_call (dpa_cons (dp_of h1) (dpa_cons h2 (dpa_cons (dp_of h3) dpa_nil (Int.le_refl 0) (Int.le_refl 0)) p1 (by decide)) (Int.le_refl 0) (by omega)) ?_ (by omega) pc) (by omega)) ?_
  · rintro ds ⟨d, es, rfl, rfl, e, es', rfl, ⟨ks, rfl, f, hin, hl⟩, e2, es2, rfl, rfl, rfl⟩
    exact ⟨nms, b, kvs, ks, rfl, dr, hin, hl⟩
  · rintro z ⟨ds, ⟨d, es, rfl, rfl, e, es', rfl, ⟨ks, rfl, f, hin, hl⟩, e2, es2, rfl, rfl, rfl⟩, kvs', ks', ps, e, rfl, h4, h5⟩
    have e1 := dictU_inj (List.cons.inj e).1
    have e2 := strL_inj (List.cons.inj (List.cons.inj e).2).1
    subst e1 e2
    exact ⟨ks, ps, rfl, f, hl, h4, h5⟩
theorem sc_lpatterns : FnScope ["purse", "kinds", "names", "deep", "name"] ["purse", "kinds", "names", "deep"] (defScope s_lpatterns) := ⟨rfl, rfl, rfl, by decide +kernel, rfl, by decide +kernel, by decide +kernel⟩
theorem ok_lpatterns {n j : Nat} {c : Int} (hc : 0 ≤ c) (F : Fun K "_law_patterns" "_law_patterns" s_lpatterns f fd) (cp : Cl P w K mg base j "_law_pattern" (spP K (pre_pat n) (R_pat n) c)) : FnOk P w K mg base CX0 (j + 1) f fd ["purse", "kinds", "names", "deep"] (spP K (pre_pats n) (R_pats n) (3 * c)) := by
  refine F.ok sc_lpatterns (spP_len (by rintro _ ⟨_, _, _, _, rfl, _⟩; rfl)) (fun cdv A outer s H vs Q E hr h => ?_)
  obtain ⟨p, us, B, ds, n0, rfl, x, nb, rr, pu, n00, hn, ⟨nms, b, kvs, ks, rfl, dr, hin, hl⟩, q⟩ := h
  have nd := sc_lpatterns.nd
  refine ⟨_, pss_one (ps_ret (pe_lc (own := [("name", 4)]) (g := gName 4) (tt := tYes) (te := tCall (spP K (pre_pat n) (R_pat n) c) [] E0 (tCons (tVar 0) (tCons (tVar 1) (tCons (tVar 4) (tCons (tVar 3) tNil))))) rfl nd (pi_list (pv 2)) (blkOk_by (N := ["purse", "kinds", "names", "deep", "name"]) (sc := defScope s_lpatterns) (by decide +kernel)) (fun _ _ _ _ _ => pg_name (i := 4) nd rfl (Or.inl rfl)) (fun _ _ _ _ _ => pts_nil)
    (fun _ _ _ _ _ => pe_cl cp hr (Nat.le_refl _) (by rfl) (pa_cons (pv 0) (pa_cons (pv 1) (pa_cons (pv 4) (pa_cons (pv 3) pa_nil))))))), ?_⟩
  refine fin_P (φ := R_pats n [dictU kvs, strL ks, .int (n : Nat)]) ?_ x nb rr pu hn q
  show DPS K p _ [none, some (dictU kvs), some (strL ks), some (.int (n : Nat)), none] (3 * c) _
  refine dps_ret (dp_up (dp_imp (dp_lc (nm := 3) (k2 := c) (ψ := fun _ _ i d => ∀ k, ks[i]? = some k → OkPat kvs n k d) (dpi_of (di_list (ds := ks.map .str) (de_var rfl))) (by decide) (by decide) hc ?_ (by decide) ?_) ?_) (by simp))
  · rintro m ff ⟨rfl, _⟩
    rw [List.length_map]
    exact hl
  · rintro m ff i ⟨rfl, rfl⟩ hi
    have hi : i < ks.length := by simpa using hi
    show DP K p _ [none, some (dictU kvs), some (strL ks), some (.int (n : Nat)), (ks.map PyData.str)[i]?] c _
    rw [get_map hi]
    refine dp_imp (dp_pat dr (hin _ (List.getElem_mem hi)) hc (de_var rfl) (de_var rfl) (de_var rfl)) fun d ok => ⟨ok.plain, fun k e => ?_⟩
    rw [List.getElem?_eq_getElem hi] at e
    rw [← Option.some.inj e]
    exact ok
  · rintro z ⟨m, ff, ds, ⟨rfl, _⟩, rfl, hlen, hψ⟩
    rw [List.length_map] at hlen
    refine ⟨kvs, ks, ds, rfl, rfl, hlen, fun q hq => ?_⟩
    obtain ⟨i, hi, e⟩ := List.getElem_of_mem hq
    rw [List.length_zip] at hi
    rw [List.getElem_zip] at e
    have h1 : i < ks.length := by omega
    have h2 : i < ds.length := by omega
    rw [← e]
    exact hψ i ds[i] (List.getElem?_eq_getElem h2) ks[i] (List.getElem?_eq_getElem h1)
/-- the form of a kind that was drawn -/
theorem Drawn.look {nms : List Str} {b k : Str} {kvs : List (Str × PyData)} (dr : Drawn nms b kvs) (hk : k ∈ nms) : ∃ d, FC.look kvs k = some d ∧ FormIn nms b d := by
  have h := look_some (kvs := kvs) (c := k) (by rw [dr.keys]; exact hk)
  obtain ⟨d, e⟩ := Option.isSome_iff_exists.mp h
  obtain ⟨q, hq, _, rfl⟩ := look_mem e
  exact ⟨q.2, e, dr.fm q hq⟩
theorem Drawn.base_in {nms : List Str} {b : Str} {kvs : List (Str × PyData)} (dr : Drawn nms b kvs) : b ∈ nms := List.mem_of_getElem? dr.first
end
end FJ
namespace FJ
open PySem PySem.Spec PyProof.Rows L2 FC FG FP
open Evl (Ex)
section
variable {P : Program} {w : World} {K : PySem.W.Frag} {mg : Str → Option Value} {base : Heap} {f : Addr} {fd : FuncData} {G : List (Option PyData)} {p : Addr}
def formHead : PyData → Str
  | .tuple (.str s :: _) => s
  | _ => Str.empty
theorem eqI {i j : Int} : RD K (rEqD K) (.int i) (.int j) (.bool (i == j)) := rd_eq (sh_int _) (sh_int _) rfl rfl
theorem strs_tup {a b : Str} : DE K (tTup (tCons (tC (.str a)) (tCons (tC (.str b)) tNil))) G (.tuple [.str a, .str b]) := de_tup (da_cons de_str (da_cons de_str da_nil)) rfl (by show 2 ≤ 1000; decide)
theorem rd_inT {s a b : Str} : RD K (rIn K false) (.str s) (.tuple [.str a, .str b]) (.bool ([a, b].contains s)) := fun B H v w x r1 r2 Q q => by
  cases rt_str r1
  have r2 := r2.dp rfl
  cases r2 with
  | tup hs ha =>
    have e := texts_data (xs := [a, b]) ha
    refine ⟨_, _, rfl, .inr (ex_t x hs), rfl, by rw [e]; exact flat_strs' _, ?_⟩
    show Q (.bl (inV _ _)) H
    rw [inV_strs e]
    exact q _ B H (.refl x) (.d (.bl _))
/-- two bounds -/
theorem dp_bounds {lo hi : Int} {E E' : XK} {te : TE} (h : DE K te G (.list [.none, .int lo, .int hi, .int (lo + 1), .int (hi - 1), .int (lo - 2)])) (h1 : -100 ≤ lo) (h2 : lo ≤ hi) (h3 : hi ≤ 100) :
    DP K p (tTup (tCons (tC (.str "from")) (tCons (tCall (spP K pre_one R_one 1) [] E (tCons (tVar 0) (tCons te tNil))) (tCons (tCall (spP K pre_one R_one 1) [] E' (tCons (tVar 0) (tCons te tNil))) tNil)))) G 2 (fun d => ∃ a b, d = fromD a b ∧ bnd a = true ∧ bnd b = true) := by
  have one : ∀ {E : XK}, DP K p (tCall (spP K pre_one R_one 1) [] E (tCons (tVar 0) (tCons te tNil))) G (0 + 1) (fun d => bnd d = true) := fun {E} => by
    refine dp_imp (dp_one (φ := fun xs => xs = [.none, .int lo, .int hi, .int (lo + 1), .int (hi - 1), .int (lo - 2)]) (dp_imp (dp_of h) ?_) (Int.le_refl 0)) ?_
    · rintro d rfl
      exact ⟨_, rfl, by show 1 ≤ 6; decide, by show 6 ≤ 1000; decide, rfl⟩
    · rintro z ⟨xs, rfl, hz⟩
      have hi' : ∀ i : Int, -1000 ≤ i → i ≤ 1000 → bnd (.int i) = true := fun i a b => decide_eq_true (by omega)
      simp only [List.mem_cons, List.not_mem_nil, or_false] at hz
      rcases hz with rfl | rfl | rfl | rfl | rfl | rfl
      · rfl
      all_goals exact hi' _ (by omega) (by omega)
  refine dp_up (dp_imp (dp_tup (dpa_cons (dp_of de_str) (dpa_cons one (dpa_cons one dpa_nil (by decide) (by decide)) (by decide) (by decide)) (by decide) (by decide)) ?_) ?_) (by decide)
  · rintro ds ⟨d, es, rfl, rfl, e, es', rfl, ha, e2, es2, rfl, hb, rfl⟩
    refine ⟨?_, by show 3 ≤ 1000; decide⟩
    have pl : ∀ d, bnd d = true → plain d = true := fun d h => by cases d <;> first | rfl | cases h
    simp only [List.all_cons, pl _ ha, pl _ hb]
    rfl
  · rintro z ⟨ds, ⟨d, es, rfl, rfl, e, es', rfl, ha, e2, es2, rfl, hb, rfl⟩, rfl⟩
    exact ⟨e, e2, rfl, ha, hb⟩
theorem sc_lpattern : FnScope ["purse", "kinds", "kind", "deep", "way", "form", "bounds", "maker", "parts", "inner", "ahead", "many"] ["purse", "kinds", "kind", "deep"] (defScope s_lpattern) := ⟨rfl, rfl, rfl, by decide +kernel, rfl, by decide +kernel, by decide +kernel⟩
/-- the slots behind the first line -/
def gPat (kvs : List (Str × PyData)) (k : Str) (n : Nat) (r : Int) (d : PyData) : List (Option PyData) := [none, some (dictU kvs), some (.str k), some (.int (n : Nat)), some (.int r), some d, none, none, none, none, none, none]
theorem way_form {te : TE} {c : Int} {ts : TS} {kvs : List (Str × PyData)} {kd : Str} {n : Nat} {d : PyData} {φ : PyData → Prop} {E : XK} (hd : FC.look kvs kd = some d) (h2 : DE K te [none, some (dictU kvs), some (.str kd), some (.int (n : Nat)), none, none, none, none, none, none, none, none] d)
    (hr : ∀ r : Int, 0 ≤ r → r < 8 → DPS K p ts (gPat kvs kd n r d) c φ) (pc : 0 ≤ c) :
    DPS K p (tSeq (tPar 4 5 (tCons (tCall (spP K pre_draw R_draw 1) [] E (tCons (tVar 0) (tCons (tC (.int 8)) tNil))) (tCons te tNil))) ts) [none, some (dictU kvs), some (.str kd), some (.int (n : Nat)), none, none, none, none, none, none, none, none] (1 + c) φ := by
  refine dps_par (Φ := fun a e => ∃ r : Int, a = .int r ∧ 0 ≤ r ∧ r < 8 ∧ e = d) (by decide) (by decide) (dpa_imp (dpa_cons (dp_drawI (dp_of de_int) (Int.le_refl 0) (by decide) (by decide)) (dpa_cons (dp_of h2) dpa_nil (by decide) (by decide)) (by decide) (by decide)) ?_) (fun a e ⟨r, e1, r0, r1, e2⟩ => ?_) pc
  · rintro ds ⟨a, es, rfl, ⟨r, rfl, r0, r1⟩, e, es', rfl, rfl, rfl⟩
    exact ⟨_, _, rfl, r, rfl, r0, r1, rfl⟩
  · subst e1 e2
    exact hr r r0 r1
end
end FJ
namespace FJ
open PySem PySem.Spec PyProof.Rows L2 FC FG FP
open Evl (Ex)
section
variable {P : Program} {w : World} {K : PySem.W.Frag} {mg : Str → Option Value} {base : Heap} {f : Addr} {fd : FuncData} {G : List (Option PyData)} {p : Addr}
theorem dp_repN {ta tb : TE} {k : Int} {s : Str} {ψ : Int → Prop} (h1 : DE K ta G (.str s)) (h2 : DP K p tb G k (fun d => ∃ i : Int, d = .int i ∧ ψ i)) (pk : 0 ≤ k) (hi : ∀ i, ψ i → 0 ≤ i ∧ i ≤ 3) :
    DP K p (tOp rRep (tLst (tCons ta tNil)) tb) G k (fun d => ∃ ks, d = strL ks ∧ (∃ m : Nat, ks = List.replicate m s ∧ ψ m) ∧ (∀ x ∈ ks, x = s) ∧ ks.length ≤ 3) := by
  refine dp_up (dp_imp (dp_op (f := fun d e => match e with | .int i => .list (List.replicate i.toNat [PyData.str s]).flatten | _ => .none) (dp_of (de_lstX (da_cons h1 da_nil) rfl (by show 1 ≤ 1000; decide))) h2 (Int.le_refl 0) pk ?_) ?_) (by omega)
  · rintro d e rfl ⟨i, rfl, hψ⟩
    have := hi i hψ
    exact rd_rep (Int.toNat_of_nonneg this.1).symm (by omega) (by show 1 ≤ 1; decide)
  · rintro z ⟨d, e, rfl, ⟨i, rfl, hψ⟩, rfl⟩
    have := hi i hψ
    refine ⟨List.replicate i.toNat s, by show PyData.list _ = strL _; rw [rep_one]; rfl, ⟨i.toNat, rfl, by rw [Int.toNat_of_nonneg this.1]; exact hψ⟩, fun x hx => List.eq_of_mem_replicate hx, ?_⟩
    rw [List.length_replicate]
    omega
/-- ("or", patterns of the same kind) -/
theorem dp_orP {n : Nat} {E E' : XK} {c : Int} {nms : List Str} {b k : Str} {kvs : List (Str × PyData)} {t1 t2 t3 : TE} (dr : Drawn nms b kvs) (hk : k ∈ nms) (pc : 0 ≤ c) (h1 : DE K t1 G (dictU kvs)) (h2 : DE K t2 G (.str k)) (h3 : DE K t3 G (.int ((n + 1 : Nat) : Nat))) :
    DP K p (tTup (tCons (tC (.str "or")) (tCons (tCall (spP K (pre_pats n) (R_pats n) c) [] E (tCons (tVar 0) (tCons t1 (tCons (tOp rRep (tLst (tCons t2 tNil)) (tOp (rI0 fun i j => .int (i + j)) (tC (.int 1)) (tCall (spP K pre_draw R_draw 1) [] E' (tCons (tVar 0) (tCons (tC (.int 3)) tNil))))) (tCons (tOp (rI0 fun i j => .int (i - j)) t3 (tC (.int 1))) tNil))))) tNil))) G (1 + c) (fun d => OkPat kvs (n + 1) k d) := by
  have e3 : DE K (tOp (rI0 fun i j => .int (i - j)) t3 (tC (.int 1))) G (.int (n : Nat)) := de_is (de_op h3 de_int rd_sub) (congrArg PyData.int (by omega))
  refine dp_up (dp_imp (dp_tup (dpa_cons (dp_of de_str) (dpa_cons (dp_pats (φ := fun ks => ∃ m : Nat, ks = List.replicate m k ∧ 1 ≤ m) dr pc (k1 := 0 + (0 + 1)) (by decide) h1 (dp_imp (dp_repN (ψ := fun i => 1 ≤ i ∧ i ≤ 3) h2 (dp_imp (dp_opI dp_int (dp_drawI (dp_of de_int) (Int.le_refl 0) (by decide) (by decide)) (Int.le_refl 0) (by decide)) ?_) (by decide) (fun i h => ⟨by omega, h.2⟩)) ?_) e3) dpa_nil (by omega) (by decide)) (by decide) (by omega)) ?_) ?_) (by omega)
  · rintro z ⟨i, rfl, a, c', rfl, ⟨r0, r1⟩, rfl⟩
    exact ⟨_, rfl, by omega, by omega⟩
  · rintro z ⟨ks, rfl, ⟨m, rfl, m1, m3⟩, hx, hl⟩
    exact ⟨_, rfl, ⟨m, rfl, by omega⟩, fun x h => by rw [hx x h]; exact hk, hl⟩
  · rintro ds ⟨d, es, rfl, rfl, e, es', rfl, ⟨ks, ps, rfl, _⟩, rfl⟩
    exact ⟨rfl, by show 2 ≤ 1000; decide⟩
  · rintro z ⟨ds, ⟨d, es, rfl, rfl, e, es', rfl, ⟨ks, ps, rfl, ⟨m, rfl, m1⟩, hl, hlen, hq⟩, rfl⟩, rfl⟩
    rw [List.length_replicate] at hl hlen
    refine .or (fun z => by rw [z] at hlen; simp at hlen; omega) (by omega) fun q hq' => ?_
    obtain ⟨x, hx⟩ := zip_right (xs := List.replicate m k) (by rw [List.length_replicate]; exact hlen) hq'
    have := hq _ hx
    rw [List.eq_of_mem_replicate (List.of_mem_zip hx).1] at this
    exact this
theorem t2_read {kvs : List (Str × PyData)} {k s : Str} {n : Nat} {r : Int} {es : List PyData} : DT K (tOr (tTest (tOp (rEqD K) (tVar 4) (tC (.int 0)))) (tAnd (tTest (tOp (rEqD K) (tVar 3) (tC (.int 0)))) (tTest (tOp (rIn K false) (tOp (rIxT K) (tVar 5) (tC (.int 0))) (tTup (tCons (tC (.str "makers")) (tCons (tC (.str "rows")) tNil))))))) (gPat kvs k n r (.tuple (.str s :: es))) ((r == 0) || ((((n : Nat) : Int) == 0) && (["makers", "rows"] : List Str).contains s)) :=
  dt_or (dt_test (de_op (de_var (d := .int r) rfl) de_int eqI)) fun _ => dt_and (dt_test (de_op (de_var (d := .int (n : Nat)) rfl) de_int eqI)) fun _ => dt_test (de_op (de_at (j := 0) (de_var (d := .tuple (.str s :: es)) rfl) rfl rfl) strs_tup rd_inT)
theorem t3_read {kvs : List (Str × PyData)} {k : Str} {n : Nat} {r : Int} {d : PyData} : DT K (tAnd (tTest (tOp (rEqD K) (tVar 4) (tC (.int 1)))) (tTest (tOp (rI0 fun i j => .bl (decide (j < i))) (tVar 3) (tC (.int 0))))) (gPat kvs k n r d) ((r == 1) && decide ((0 : Int) < (n : Nat))) :=
  dt_and (dt_test (de_op (de_var (d := .int r) rfl) de_int eqI)) fun _ => dt_test (de_op (de_var (d := .int (n : Nat)) rfl) de_int rd_gt)
theorem dps_num {kvs : List (Str × PyData)} {k : Str} {n : Nat} {r lo hi : Int} {E E' : XK} (hk : FC.look kvs k = some (numsD lo hi)) (h1 : -100 ≤ lo) (h2 : lo ≤ hi) (h3 : hi ≤ 100) :
    DPS K p (tSeq (tAsg (tLst (tCons (tC .non) (tCons (tOp (rIxT K) (tVar 5) (tC (.int 1))) (tCons (tOp (rIxT K) (tVar 5) (tC (.int 2))) (tCons (tOp (rI0 fun i j => .int (i + j)) (tOp (rIxT K) (tVar 5) (tC (.int 1))) (tC (.int 1))) (tCons (tOp (rI0 fun i j => .int (i - j)) (tOp (rIxT K) (tVar 5) (tC (.int 2))) (tC (.int 1))) (tCons (tOp (rI0 fun i j => .int (i - j)) (tOp (rIxT K) (tVar 5) (tC (.int 1))) (tC (.int 2))) tNil))))))) (gName 6)) (tRet (tTup (tCons (tC (.str "from")) (tCons (tCall (spP K pre_one R_one 1) [] E (tCons (tVar 0) (tCons (tVar 6) tNil))) (tCons (tCall (spP K pre_one R_one 1) [] E' (tCons (tVar 0) (tCons (tVar 6) tNil))) tNil)))))) (gPat kvs k n r (numsD lo hi)) 2 (fun d => OkPat kvs n k d) := by
  have h5 : DE K (tVar 5) (gPat kvs k n r (numsD lo hi)) (.tuple [.str "numbers", .int lo, .int hi]) := de_var rfl
  have a1 := de_at (j := 1) h5 rfl rfl
  have a2 := de_at (j := 2) h5 rfl rfl
  refine dps_up (dps_set (by decide) (dp_of (de_lst (da_cons de_non (da_cons a1 (da_cons a2 (da_cons (de_op a1 de_int rd_add) (da_cons (de_op a2 de_int rd_sub) (da_cons (de_op a1 de_int rd_sub) da_nil)))))) rfl (by show 6 ≤ 1000; decide))) (fun d e => ?_) (k2 := 2) (by decide)) (by decide)
  subst e
  refine dps_ret (dp_imp (dp_bounds (lo := lo) (hi := hi) (de_var rfl) h1 h2 h3) ?_)
  rintro z ⟨a, b, rfl, ha, hb⟩
  exact .range hk ha hb
theorem dps_word {kvs : List (Str × PyData)} {k : Str} {n : Nat} {r : Int} {ws : List Str} {E : XK} (hk : FC.look kvs k = some (wordsD ws)) (ne : ws ≠ []) (few : ws.length ≤ 100) :
    DPS K p (tRet (tTup (tCons (tC (.str "word")) (tCons (tCall (spP K pre_one R_one 1) [] E (tCons (tVar 0) (tCons (tOp (rIxT K) (tVar 5) (tC (.int 1))) tNil))) tNil)))) (gPat kvs k n r (wordsD ws)) 1 (fun d => OkPat kvs n k d) := by
  have h5 : DE K (tVar 5) (gPat kvs k n r (wordsD ws)) (.tuple [.str "words", strL ws]) := de_var rfl
  refine dps_ret (dp_up (dp_imp (dp_tup (dpa_cons (dp_of de_str) (dpa_cons (dp_one (φ := fun xs => xs = ws.map .str) (dp_imp (dp_of (de_at (j := 1) h5 rfl rfl)) ?_) (Int.le_refl 0)) dpa_nil (by decide) (by decide)) (by decide) (by decide)) ?_) ?_) (by decide))
  · rintro d rfl
    refine ⟨_, rfl, ?_, by rw [List.length_map]; omega, rfl⟩
    rw [List.length_map]
    cases ws with
    | nil => exact absurd rfl ne
    | cons => simp
  · rintro ds ⟨d, es, rfl, rfl, e, es', rfl, ⟨xs, rfl, hz⟩, rfl⟩
    obtain ⟨x, hx, rfl⟩ := List.mem_map.mp hz
    exact ⟨rfl, by show 2 ≤ 1000; decide⟩
  · rintro z ⟨ds, ⟨d, es, rfl, rfl, e, es', rfl, ⟨xs, rfl, hz⟩, rfl⟩, rfl⟩
    obtain ⟨x, hx, rfl⟩ := List.mem_map.mp hz
    exact .word hk hx
theorem ok_lpattern0 (F : Fun K "_law_pattern" "_law_pattern" s_lpattern f fd) (M : Bl mg) (cd : CD1 P w K mg base) (co : Cl P w K mg base 3 "_law_one_of" (spP K pre_one R_one 1)) : FnOk P w K mg base CX0 4 f fd ["purse", "kinds", "kind", "deep"] (spP K (pre_pat 0) (R_pat 0) (cpat 0)) := by
  refine F.ok sc_lpattern (spP_len (by rintro _ ⟨_, _, _, _, rfl, _⟩; rfl)) (fun cdv A outer s H vs Q E hr h => ?_)
  obtain ⟨p, us, B, ds, n0, rfl, x, nb, rr, pu, n00, hn, ⟨nms, b, kvs, k, rfl, dr, hk⟩, q⟩ := h
  have hu := hu_of hr
  have hu64 : (A.deeper (envOfC "_law_pattern" (defScope s_lpattern) s.heap.objs.size f cdv)).units + 64 < cLine := by have := hr.un; omega
  have nd := sc_lpattern.nd
  obtain ⟨d, hd, fi⟩ := dr.look hk
  have fin : ∀ d', OkPat kvs 0 k d' → R_pat 0 [dictU kvs, .str k, .int ((0 : Nat) : Nat)] d' := fun d' ok => ⟨kvs, k, rfl, ok⟩
  rcases fi with (⟨ws, rfl, ne, nd', few, nm⟩ | ⟨lo, hi, rfl, hle, hlo, hhi⟩) | hrm
  · refine ⟨_, (pss_cons (ps_par (i := 4) (j := 5) (by rfl) nd rfl rfl (by decide) rfl rfl (pa_cons (pe_cl cd hr (by omega) (by rfl) (pa_cons (pv 0) (pa_cons pe_int pa_nil))) (pa_cons (pe_dget hu (pv 1) (pv 2) (fun _ _ => rfl)) pa_nil)) (by rfl)) (pss_cons (ps_if (pw_or (pt_cmpR (op_eqD hu64) (pv 4) pe_int (nomark _)) (pw_or1 (pw_and (pt_cmpR (op_eqD hu64) (pv 3) pe_int (nomark _)) (pw_and1 (pt_cmpR op_in_seq (pe_ix ix_tup (pv 5) pe_int (fun _ _ => rfl)) (pe_tup (pa_cons pe_str (pa_cons pe_str pa_nil))) (by rfl)))).pt)).pt (pss_one (ps_ret pe_non)) pss_nil) (pss_cons (ps_if (pw_and (pt_cmpR (op_eqD hu64) (pv 4) pe_int (nomark _)) (pw_and1 (pt_cmpR op_gt (pv 3) pe_int (nomark _)))).pt pss_never pss_nil) (pss_cons (ps_if (pt_cmpR (op_eqD hu64) (pe_ix ix_tup (pv 5) pe_int (fun _ _ => rfl)) pe_str (nomark _)) pss_never pss_nil) (pss_cons (ps_if (pt_cmpR (op_eqD hu64) (pe_ix ix_tup (pv 5) pe_int (fun _ _ => rfl)) pe_str (nomark _)) (pss_one (ps_ret (pe_tup (pa_cons pe_str (pa_cons (pe_cl co hr (by omega) (by rfl) (pa_cons (pv 0) (pa_cons (pe_ix ix_tup (pv 5) pe_int (fun _ _ => rfl)) pa_nil))) pa_nil))))) pss_nil) pss_never))))), ?_⟩
    refine fin_P (φ := fun d' => OkPat kvs 0 k d') ?_ x nb rr pu hn fun v B' H' d' g r ok pu' => q v B' H' d' g r (fin d' ok) pu'
    refine dps_up (way_form hd (de_dget (de_ofU (de_var rfl)) (de_var rfl) hd) (c := 1) (fun r r0 r1 => ?_) (by decide)) (by decide)
    have h5 : DE K (tVar 5) (gPat kvs k 0 r (wordsD ws)) (.tuple [.str "words", strL ws]) := de_var rfl
    refine dps_up (dps_guard (dpt_of t2_read) (fun _ => dps_up (dps_ret (dp_imp (dp_of de_non) fun d e => by rw [e]; exact .any 0 k)) (by decide)) (fun _ => ?_) (k2 := 1) (by decide)) (by decide)
    refine dps_up (dps_guard (dpt_of (b := false) (dt_is t3_read (by simp))) (fun z => nomatch z) (fun _ => ?_) (k2 := 1) (by decide)) (by decide)
    refine dps_up (dps_guard (dpt_of (b := false) (dt_is (dt_head h5) (by decide +kernel))) (fun z => nomatch z) (fun _ => ?_) (k2 := 1) (by decide)) (by decide)
    exact dps_up (dps_guard (dpt_of (b := true) (dt_is (dt_head h5) (by decide +kernel))) (fun _ => dps_word hd ne (by omega)) (fun z => nomatch z) (k2 := 1) (by decide)) (by decide)
  · refine ⟨_, (pss_cons (ps_par (i := 4) (j := 5) (by rfl) nd rfl rfl (by decide) rfl rfl (pa_cons (pe_cl cd hr (by omega) (by rfl) (pa_cons (pv 0) (pa_cons pe_int pa_nil))) (pa_cons (pe_dget hu (pv 1) (pv 2) (fun _ _ => rfl)) pa_nil)) (by rfl)) (pss_cons (ps_if (pw_or (pt_cmpR (op_eqD hu64) (pv 4) pe_int (nomark _)) (pw_or1 (pw_and (pt_cmpR (op_eqD hu64) (pv 3) pe_int (nomark _)) (pw_and1 (pt_cmpR op_in_seq (pe_ix ix_tup (pv 5) pe_int (fun _ _ => rfl)) (pe_tup (pa_cons pe_str (pa_cons pe_str pa_nil))) (by rfl)))).pt)).pt (pss_one (ps_ret pe_non)) pss_nil) (pss_cons (ps_if (pw_and (pt_cmpR (op_eqD hu64) (pv 4) pe_int (nomark _)) (pw_and1 (pt_cmpR op_gt (pv 3) pe_int (nomark _)))).pt pss_never pss_nil) (pss_cons (ps_if (pt_cmpR (op_eqD hu64) (pe_ix ix_tup (pv 5) pe_int (fun _ _ => rfl)) pe_str (nomark _)) (pss_cons (ps_set (i := 6) nd rfl (Or.inl rfl) (pe_lst (pa_cons pe_non (pa_cons (pe_ix ix_tup (pv 5) pe_int (fun _ _ => rfl)) (pa_cons (pe_ix ix_tup (pv 5) pe_int (fun _ _ => rfl)) (pa_cons (pe_op op_add (pe_ix ix_tup (pv 5) pe_int (fun _ _ => rfl)) pe_int) (pa_cons (pe_op op_sub (pe_ix ix_tup (pv 5) pe_int (fun _ _ => rfl)) pe_int) (pa_cons (pe_op op_sub (pe_ix ix_tup (pv 5) pe_int (fun _ _ => rfl)) pe_int) pa_nil)))))))) (pss_one (ps_ret (pe_tup (pa_cons pe_str (pa_cons (pe_cl co hr (by omega) (by rfl) (pa_cons (pv 0) (pa_cons (pv 6) pa_nil))) (pa_cons (pe_cl co hr (by omega) (by rfl) (pa_cons (pv 0) (pa_cons (pv 6) pa_nil))) pa_nil))))))) pss_nil) pss_never)))), ?_⟩
    refine fin_P (φ := fun d' => OkPat kvs 0 k d') ?_ x nb rr pu hn fun v B' H' d' g r ok pu' => q v B' H' d' g r (fin d' ok) pu'
    refine dps_up (way_form hd (de_dget (de_ofU (de_var rfl)) (de_var rfl) hd) (c := 2) (fun r r0 r1 => ?_) (by decide)) (by decide)
    have h5 : DE K (tVar 5) (gPat kvs k 0 r (numsD lo hi)) (.tuple [.str "numbers", .int lo, .int hi]) := de_var rfl
    refine dps_up (dps_guard (dpt_of t2_read) (fun _ => dps_up (dps_ret (dp_imp (dp_of de_non) fun d e => by rw [e]; exact .any 0 k)) (by decide)) (fun _ => ?_) (k2 := 2) (by decide)) (by decide)
    refine dps_up (dps_guard (dpt_of (b := false) (dt_is t3_read (by simp))) (fun z => nomatch z) (fun _ => ?_) (k2 := 2) (by decide)) (by decide)
    exact dps_up (dps_guard (dpt_of (b := true) (dt_is (dt_head h5) (by decide +kernel))) (fun _ => dps_num hd (by omega) hle (by omega)) (fun z => nomatch z) (k2 := 2) (by decide)) (by decide)
  · have hs : ∃ (hd2 : Str) (es : List PyData), d = .tuple (.str hd2 :: es) ∧ (["makers", "rows"] : List Str).contains hd2 = true := by
      rcases hrm with ⟨c, _, rfl⟩ | ⟨ms, rfl, _⟩
      · exact ⟨_, _, rfl, by decide +kernel⟩
      · exact ⟨_, _, rfl, by decide +kernel⟩
    obtain ⟨h2, es, rfl, hc⟩ := hs
    refine ⟨_, (pss_cons (ps_par (i := 4) (j := 5) (by rfl) nd rfl rfl (by decide) rfl rfl (pa_cons (pe_cl cd hr (by omega) (by rfl) (pa_cons (pv 0) (pa_cons pe_int pa_nil))) (pa_cons (pe_dget hu (pv 1) (pv 2) (fun _ _ => rfl)) pa_nil)) (by rfl)) (pss_cons (ps_if (pw_or (pt_cmpR (op_eqD hu64) (pv 4) pe_int (nomark _)) (pw_or1 (pw_and (pt_cmpR (op_eqD hu64) (pv 3) pe_int (nomark _)) (pw_and1 (pt_cmpR op_in_seq (pe_ix ix_tup (pv 5) pe_int (fun _ _ => rfl)) (pe_tup (pa_cons pe_str (pa_cons pe_str pa_nil))) (by rfl)))).pt)).pt (pss_one (ps_ret pe_non)) pss_nil) pss_never)), ?_⟩
    refine fin_P (φ := fun d' => OkPat kvs 0 k d') ?_ x nb rr pu hn fun v B' H' d' g r ok pu' => q v B' H' d' g r (fin d' ok) pu'
    refine dps_up (way_form hd (de_dget (de_ofU (de_var rfl)) (de_var rfl) hd) (c := 0) (fun r r0 r1 => ?_) (by decide)) (by decide)
    exact dps_up (dps_guard (dpt_of (b := true) (dt_is t2_read (c := true) (by rw [hc]; simp))) (fun _ => dps_up (dps_ret (dp_imp (dp_of de_non) fun d e => by rw [e]; exact .any 0 k)) (by decide)) (fun z => nomatch z) (k2 := 0) (by decide)) (by decide)
end
end FJ
namespace FJ
open PySem PySem.Spec PyProof.Rows L2 FC FG FP
open Evl (Ex)
theorem cpat_mono {n m : Nat} (h : n ≤ m) : cpat n ≤ cpat m := by
  induction h with
  | refl => exact Int.le_refl _
  | @step m _ ih =>
    have := cpat_pos m
    show cpat n ≤ 8 * cpat m + 12
    omega
section
variable {P : Program} {w : World} {K : PySem.W.Frag} {mg : Str → Option Value} {base : Heap} {f : Addr} {fd : FuncData} {G : List (Option PyData)} {p : Addr}
theorem dps_makers {n : Nat} {E E' : XK} {C : Int} {nms : List Str} {b k : Str} {kvs : List (Str × PyData)} {ms : List (Str × List Str)} {r : Int} (dr : Drawn nms b kvs) (hd : FC.look kvs k = some (makersD ms)) (ok : MkOk nms b ms) (pc : 0 ≤ C) :
    DPS K p (tSeq (tAsg (tCall (spP K pre_one R_one 1) [] E (tCons (tVar 0) (tCons (tOp (rIxT K) (tVar 5) (tC (.int 1))) tNil))) (gTup K 2 (gCons (gName 7) (gCons (gName 8) gNil)))) (tRet (tTup (tCons (tC (.str "maker")) (tCons (tVar 7) (tCons (tCall (spP K (pre_pats n) (R_pats n) C) [] E' (tCons (tVar 0) (tCons (tVar 1) (tCons (tVar 8) (tCons (tOp (rI0 fun i j => .int (i - j)) (tVar 3) (tC (.int 1))) tNil))))) tNil)))))) (gPat kvs k (n + 1) r (makersD ms)) (1 + C) (fun d => OkPat kvs (n + 1) k d) := by
  have h5 : DE K (tVar 5) (gPat kvs k (n + 1) r (makersD ms)) (.tuple [.str "makers", .list (ms.map makerD)]) := de_var rfl
  have hne : 1 ≤ ms.length := by
    cases hc : ms with
    | nil => exact absurd hc ok.ne
    | cons => simp
  refine dps_up (dps_un (Φ := fun a e => ∃ m ∈ ms, a = .str m.1 ∧ e = strL m.2) (by decide) (by decide) (dp_imp (dp_one (φ := fun xs => xs = ms.map makerD) (dp_imp (dp_of (de_at (j := 1) h5 rfl rfl)) ?_) (Int.le_refl 0)) ?_) (fun a e ⟨m, hm, ea, ee⟩ => ?_) (k2 := C) pc) (by omega)
  · rintro d rfl
    refine ⟨_, rfl, by rw [List.length_map]; exact hne, by rw [List.length_map]; have := ok.few; omega, rfl⟩
  · rintro z ⟨xs, rfl, hz⟩
    obtain ⟨m, hm, rfl⟩ := List.mem_map.mp hz
    exact ⟨_, _, rfl, m, hm, rfl, rfl⟩
  · subst ea ee
    show DPS K p _ [none, some (dictU kvs), some (.str k), some (.int ((n + 1 : Nat) : Nat)), some (.int r), some (makersD ms), none, some (.str m.1), some (strL m.2), none, none, none] C _
    have hp := ok.parts m hm
    refine dps_ret (dp_up (dp_imp (dp_tup (dpa_cons (dp_of de_str) (dpa_cons (dp_of (de_var (d := .str m.1) rfl)) (dpa_cons (dp_pats (n := n) (φ := fun ks => ks = m.2) dr pc (Int.le_refl 0) (de_var rfl) (dp_imp (dp_of (de_var (d := strL m.2) rfl)) ?_) (de_is (de_op (de_var (d := .int ((n + 1 : Nat) : Nat)) rfl) de_int rd_sub) (congrArg PyData.int (by omega)))) dpa_nil (by omega) (by decide)) (by decide) (by omega)) (by decide) (by omega)) ?_) ?_) (by omega))
    · rintro d rfl
      refine ⟨_, rfl, rfl, fun y hy => ?_, by omega⟩
      rcases List.mem_append.mp (hp.2 y hy) with h | h
      · exact h
      · rw [List.mem_singleton.mp h]; exact dr.base_in
    · rintro ds ⟨d, es, rfl, rfl, e, es', rfl, rfl, e2, es2, rfl, ⟨ks, ps, rfl, _⟩, rfl⟩
      exact ⟨rfl, by show 3 ≤ 1000; decide⟩
    · rintro z ⟨ds, ⟨d, es, rfl, rfl, e, es', rfl, rfl, e2, es2, rfl, ⟨ks, ps, rfl, rfl, hl, hlen, hq⟩, rfl⟩, rfl⟩
      exact .maker hd hm hlen (by omega) hq
theorem dps_rows {n mI : Nat} {E1 E2 E3 E4 : XK} {C : Int} {nms : List Str} {b k c : Str} {kvs : List (Str × PyData)} {r : Int} {te : TE} (dr : Drawn nms b kvs) (hd : FC.look kvs k = some (rowsD c)) (hc : c ∈ nms) (hm : mI ≤ n) (pc : 0 ≤ C) (h9 : DE K te (gPat kvs k (n + 1) r (rowsD c)) (.int (mI : Nat))) :
    DPS K p (tSeq (tAsg te (gName 9)) (tSeq (tAsg (tCall (spP K (pre_pats mI) (R_pats mI) C) [] E1 (tCons (tVar 0) (tCons (tVar 1) (tCons (tOp rRep (tLst (tCons (tOp (rIxT K) (tVar 5) (tC (.int 1))) tNil)) (tCall (spP K pre_draw R_draw 1) [] E2 (tCons (tVar 0) (tCons (tC (.int 4)) tNil)))) (tCons (tVar 9) tNil))))) (gName 10))
      (tSeq (tIfS (tOr (tTest (tOp (rI0 fun i j => .bl (decide (i < j))) (tVar 4) (tC (.int 4)))) (tTest (tOp (rI0 fun i j => .bl (decide (i < j))) (tVar 3) (tC (.int 2))))) (tRet (tTup (tCons (tC (.str "row")) (tCons (tVar 10) tNil)))) tNext)
      (tSeq (tAsg (tCall (spP K pre_draw R_draw 1) [] E3 (tCons (tVar 0) (tCons (tOp (rI0 fun i j => .int (i - j)) (tC (.int 4)) (tCB (FC.rLen K) (tCons (tVar 10) tNil))) tNil))) (gName 11))
      (tRet (tTup (tCons (tC (.str "gap")) (tCons (tVar 10) (tCons (tCall (spP K (pre_pats mI) (R_pats mI) C) [] E4 (tCons (tVar 0) (tCons (tVar 1) (tCons (tOp rRep (tLst (tCons (tOp (rIxT K) (tVar 5) (tC (.int 1))) tNil)) (tVar 11)) (tCons (tVar 9) tNil))))) tNil))))))))) (gPat kvs k (n + 1) r (rowsD c)) (2 * C + 2) (fun d => OkPat kvs (n + 1) k d) := by
  let Gr : Option PyData → Option PyData → List (Option PyData) := fun a m => [none, some (dictU kvs), some (.str k), some (.int ((n + 1 : Nat) : Nat)), some (.int r), some (rowsD c), none, none, none, some (.int (mI : Nat)), a, m]
  have h5 : ∀ {a m}, DE K (tVar 5) (Gr a m) (.tuple [.str "rows", .str c]) := de_var rfl
  have allc : ∀ {ps : List PyData} {ks : List Str}, (∀ x ∈ ks, x = c) → ps.length = ks.length → (∀ q ∈ ks.zip ps, OkPat kvs mI q.1 q.2) → ∀ q ∈ ps, OkPat kvs n c q := fun {ps ks} hx hl hq q hq' => by
    obtain ⟨y, hy⟩ := zip_right (xs := ks) hl hq'
    have := hq _ hy
    rw [hx y (List.of_mem_zip hy).1] at this
    exact FJ.OkPat.mono this hm
  refine dps_up (dps_set (by decide) (dp_of h9) (fun d e => ?_) (k2 := 2 * C + 2) (by omega)) (by omega)
  subst e
  show DPS K p _ (Gr none none) (2 * C + 2) _
  refine dps_up (dps_set (by decide) (dp_pats (n := mI) (φ := fun ks => ∀ x ∈ ks, x = c) dr pc (k1 := 0 + 1) (by decide) (de_var rfl) (dp_imp (dp_repN (ψ := fun i => 0 ≤ i ∧ i < 4) (de_at (j := 1) h5 rfl rfl) (dp_drawI (dp_of de_int) (Int.le_refl 0) (by decide) (by decide)) (by decide) (fun i h => ⟨h.1, by omega⟩)) ?_) (de_var rfl)) (fun d hd2 => ?_) (k2 := C + 1) (by omega)) (by omega)
  · rintro z ⟨ks, rfl, _, hx, hl⟩
    exact ⟨ks, rfl, hx, fun y hy => by rw [hx y hy]; exact hc, hl⟩
  obtain ⟨ks, ps, rfl, hx, hl, hlen, hq⟩ := hd2
  show DPS K p _ (Gr (some (.list ps)) none) (C + 1) _
  have h10 : ∀ {m}, DE K (tVar 10) (Gr (some (.list ps)) m) (.list ps) := de_var rfl
  refine dps_up (dps_guard (dpt_of (dt_or (dt_test (de_op (de_var (d := .int r) rfl) de_int rd_lt)) fun _ => dt_test (de_op (de_var (d := .int ((n + 1 : Nat) : Nat)) rfl) de_int rd_lt))) (fun _ => ?_) (fun _ => ?_) (k2 := C + 1) (by omega)) (by omega)
  · refine dps_up (dps_ret (dp_imp (dp_of (de_tup (da_cons de_str (da_cons h10 da_nil)) rfl (by show 2 ≤ 1000; decide))) fun d e => ?_)) (by omega)
    rw [e]
    exact .row hd (by omega) (allc hx hlen hq)
  · refine dps_up (dps_set (by decide) (dp_drawI (m := 4 - (ps.length : Int)) (dp_of (de_op de_int (de_cb (da_cons h10 da_nil) cd_lenL) rd_sub)) (Int.le_refl 0) (by omega) (by omega)) (fun d hd2 => ?_) (k2 := C) (by omega)) (by omega)
    obtain ⟨m, rfl, m0, m1⟩ := hd2
    show DPS K p _ (Gr (some (.list ps)) (some (.int m))) C _
    refine dps_ret (dp_up (dp_imp (dp_tup (dpa_cons (dp_of de_str) (dpa_cons (dp_of h10) (dpa_cons (dp_pats (n := mI) (φ := fun ks => (∀ x ∈ ks, x = c) ∧ ks.length = m.toNat) dr pc (Int.le_refl 0) (de_var rfl) (dp_imp (dp_repN (ψ := fun i => i = m) (de_at (j := 1) h5 rfl rfl) (dp_imp (dp_of (de_var (d := .int m) rfl)) fun d e => ⟨m, e, rfl⟩) (Int.le_refl 0) (fun i h => by omega)) ?_) (de_var rfl)) dpa_nil (by omega) (by decide)) (by decide) (by omega)) (by decide) (by omega)) ?_) ?_) (by omega))
    · rintro z ⟨ks, rfl, ⟨j, rfl, ej⟩, hx, hl⟩
      refine ⟨_, rfl, ⟨hx, ?_⟩, fun y hy => by rw [hx y hy]; exact hc, hl⟩
      rw [List.length_replicate]
      omega
    · rintro ds ⟨d, es, rfl, rfl, e, es', rfl, rfl, e2, es2, rfl, ⟨ks, qs, rfl, _⟩, rfl⟩
      exact ⟨rfl, by show 3 ≤ 1000; decide⟩
    · rintro z ⟨ds, ⟨d, es, rfl, rfl, e, es', rfl, rfl, e2, es2, rfl, ⟨ks2, qs, rfl, ⟨hx2, hm2⟩, hl2, hlen2, hq2⟩, rfl⟩, rfl⟩
      refine .gap hd (by omega) fun q hq' => ?_
      rcases List.mem_append.mp hq' with h | h
      · exact allc hx hlen hq q h
      · exact allc hx2 hlen2 hq2 q h
theorem ok_lpatternS {n j : Nat} (hj : 3 ≤ j) (F : Fun K "_law_pattern" "_law_pattern" s_lpattern f fd) (M : Bl mg) (cd : CD1 P w K mg base) (co : Cl P w K mg base 3 "_law_one_of" (spP K pre_one R_one 1)) (cq : Cl P w K mg base j "_law_patterns" (spP K (pre_pats n) (R_pats n) (3 * cpat n))) (c0 : Cl P w K mg base j "_law_patterns" (spP K (pre_pats 0) (R_pats 0) (3 * cpat 0))) : FnOk P w K mg base CX0 (j + 1) f fd ["purse", "kinds", "kind", "deep"] (spP K (pre_pat (n + 1)) (R_pat (n + 1)) (cpat (n + 1))) := by
  refine F.ok sc_lpattern (spP_len (by rintro _ ⟨_, _, _, _, rfl, _⟩; rfl)) (fun cdv A outer s H vs Q E hr h => ?_)
  obtain ⟨p, us, B, ds, n0, rfl, x, nb, rr, pu, n00, hn, ⟨nms, b, kvs, k, rfl, dr, hk⟩, q⟩ := h
  have hu := hu_of hr
  have hu64 : (A.deeper (envOfC "_law_pattern" (defScope s_lpattern) s.heap.objs.size f cdv)).units + 64 < cLine := by have := hr.un; omega
  have nd := sc_lpattern.nd
  have hC := cpat_pos n
  have hC1 : cpat (n + 1) = 8 * cpat n + 12 := rfl
  obtain ⟨d, hd, fi⟩ := dr.look hk
  have fin : ∀ d', OkPat kvs (n + 1) k d' → R_pat (n + 1) [dictU kvs, .str k, .int ((n + 1 : Nat) : Nat)] d' := fun d' ok => ⟨kvs, k, rfl, ok⟩
  rcases fi with (⟨ws, rfl, ne, nd', few, nm⟩ | ⟨lo, hi, rfl, hle, hlo, hhi⟩) | ⟨c, hc, rfl⟩ | ⟨ms, rfl, ok⟩
  · refine ⟨_, (pss_cons (ps_par (i := 4) (j := 5) (by rfl) nd rfl rfl (by decide) rfl rfl (pa_cons (pe_cl cd hr (by omega) (by rfl) (pa_cons (pv 0) (pa_cons pe_int pa_nil))) (pa_cons (pe_dget hu (pv 1) (pv 2) (fun _ _ => rfl)) pa_nil)) (by rfl)) (pss_cons (ps_if (pw_or (pt_cmpR (op_eqD hu64) (pv 4) pe_int (nomark _)) (pw_or1 (pw_and (pt_cmpR (op_eqD hu64) (pv 3) pe_int (nomark _)) (pw_and1 (pt_cmpR op_in_seq (pe_ix ix_tup (pv 5) pe_int (fun _ _ => rfl)) (pe_tup (pa_cons pe_str (pa_cons pe_str pa_nil))) (by rfl)))).pt)).pt (pss_one (ps_ret pe_non)) pss_nil) (pss_cons (ps_if (pw_and (pt_cmpR (op_eqD hu64) (pv 4) pe_int (nomark _)) (pw_and1 (pt_cmpR op_gt (pv 3) pe_int (nomark _)))).pt (pss_one (ps_ret (pe_tup (pa_cons pe_str (pa_cons (pe_cl cq hr (by omega) (by rfl) (pa_cons (pv 0) (pa_cons (pv 1) (pa_cons (pe_op op_rep (pe_lst (pa_cons (pv 2) pa_nil)) (pe_op op_add pe_int (pe_cl cd hr (by omega) (by rfl) (pa_cons (pv 0) (pa_cons pe_int pa_nil))))) (pa_cons (pe_op op_sub (pv 3) pe_int) pa_nil))))) pa_nil))))) pss_nil) (pss_cons (ps_if (pt_cmpR (op_eqD hu64) (pe_ix ix_tup (pv 5) pe_int (fun _ _ => rfl)) pe_str (nomark _)) pss_never pss_nil) (pss_cons (ps_if (pt_cmpR (op_eqD hu64) (pe_ix ix_tup (pv 5) pe_int (fun _ _ => rfl)) pe_str (nomark _)) (pss_one (ps_ret (pe_tup (pa_cons pe_str (pa_cons (pe_cl co hr (by omega) (by rfl) (pa_cons (pv 0) (pa_cons (pe_ix ix_tup (pv 5) pe_int (fun _ _ => rfl)) pa_nil))) pa_nil))))) pss_nil) pss_never))))), ?_⟩
    refine fin_P (φ := fun d' => OkPat kvs (n + 1) k d') ?_ x nb rr pu hn fun v B' H' d' g r ok pu' => q v B' H' d' g r (fin d' ok) pu'
    refine dps_up (way_form hd (de_dget (de_ofU (de_var rfl)) (de_var rfl) hd) (c := 7 * cpat n + 8) (fun r r0 r1 => ?_) (by omega)) (by omega)
    have h5 : DE K (tVar 5) (gPat kvs k (n + 1) r (wordsD ws)) (.tuple [.str "words", strL ws]) := de_var rfl
    refine dps_up (dps_guard (dpt_of t2_read) (fun _ => dps_up (dps_ret (dp_imp (dp_of de_non) fun d e => by rw [e]; exact .any (n + 1) k)) (by omega)) (fun _ => ?_) (k2 := 7 * cpat n + 8) (by omega)) (by omega)
    refine dps_up (dps_guard (dpt_of t3_read) (fun _ => dps_up (dps_ret (dp_orP (c := 3 * cpat n) dr hk (by omega) (de_var rfl) (de_var rfl) (de_var rfl))) (by omega)) (fun _ => ?_) (k2 := 7 * cpat n + 8) (by omega)) (by omega)
    refine dps_up (dps_guard (dpt_of (b := false) (dt_is (dt_head h5) (by decide +kernel))) (fun z => nomatch z) (fun _ => ?_) (k2 := 7 * cpat n + 8) (by omega)) (by omega)
    exact dps_up (dps_guard (dpt_of (b := true) (dt_is (dt_head h5) (by decide +kernel))) (fun _ => dps_up (dps_word hd ne (by omega)) (by omega)) (fun z => nomatch z) (k2 := 7 * cpat n + 8) (by omega)) (by omega)
  · refine ⟨_, (pss_cons (ps_par (i := 4) (j := 5) (by rfl) nd rfl rfl (by decide) rfl rfl (pa_cons (pe_cl cd hr (by omega) (by rfl) (pa_cons (pv 0) (pa_cons pe_int pa_nil))) (pa_cons (pe_dget hu (pv 1) (pv 2) (fun _ _ => rfl)) pa_nil)) (by rfl)) (pss_cons (ps_if (pw_or (pt_cmpR (op_eqD hu64) (pv 4) pe_int (nomark _)) (pw_or1 (pw_and (pt_cmpR (op_eqD hu64) (pv 3) pe_int (nomark _)) (pw_and1 (pt_cmpR op_in_seq (pe_ix ix_tup (pv 5) pe_int (fun _ _ => rfl)) (pe_tup (pa_cons pe_str (pa_cons pe_str pa_nil))) (by rfl)))).pt)).pt (pss_one (ps_ret pe_non)) pss_nil) (pss_cons (ps_if (pw_and (pt_cmpR (op_eqD hu64) (pv 4) pe_int (nomark _)) (pw_and1 (pt_cmpR op_gt (pv 3) pe_int (nomark _)))).pt (pss_one (ps_ret (pe_tup (pa_cons pe_str (pa_cons (pe_cl cq hr (by omega) (by rfl) (pa_cons (pv 0) (pa_cons (pv 1) (pa_cons (pe_op op_rep (pe_lst (pa_cons (pv 2) pa_nil)) (pe_op op_add pe_int (pe_cl cd hr (by omega) (by rfl) (pa_cons (pv 0) (pa_cons pe_int pa_nil))))) (pa_cons (pe_op op_sub (pv 3) pe_int) pa_nil))))) pa_nil))))) pss_nil) (pss_cons (ps_if (pt_cmpR (op_eqD hu64) (pe_ix ix_tup (pv 5) pe_int (fun _ _ => rfl)) pe_str (nomark _)) (pss_cons (ps_set (i := 6) nd rfl (Or.inl rfl) (pe_lst (pa_cons pe_non (pa_cons (pe_ix ix_tup (pv 5) pe_int (fun _ _ => rfl)) (pa_cons (pe_ix ix_tup (pv 5) pe_int (fun _ _ => rfl)) (pa_cons (pe_op op_add (pe_ix ix_tup (pv 5) pe_int (fun _ _ => rfl)) pe_int) (pa_cons (pe_op op_sub (pe_ix ix_tup (pv 5) pe_int (fun _ _ => rfl)) pe_int) (pa_cons (pe_op op_sub (pe_ix ix_tup (pv 5) pe_int (fun _ _ => rfl)) pe_int) pa_nil)))))))) (pss_one (ps_ret (pe_tup (pa_cons pe_str (pa_cons (pe_cl co hr (by omega) (by rfl) (pa_cons (pv 0) (pa_cons (pv 6) pa_nil))) (pa_cons (pe_cl co hr (by omega) (by rfl) (pa_cons (pv 0) (pa_cons (pv 6) pa_nil))) pa_nil))))))) pss_nil) pss_never)))), ?_⟩
    refine fin_P (φ := fun d' => OkPat kvs (n + 1) k d') ?_ x nb rr pu hn fun v B' H' d' g r ok pu' => q v B' H' d' g r (fin d' ok) pu'
    refine dps_up (way_form hd (de_dget (de_ofU (de_var rfl)) (de_var rfl) hd) (c := 7 * cpat n + 8) (fun r r0 r1 => ?_) (by omega)) (by omega)
    have h5 : DE K (tVar 5) (gPat kvs k (n + 1) r (numsD lo hi)) (.tuple [.str "numbers", .int lo, .int hi]) := de_var rfl
    refine dps_up (dps_guard (dpt_of t2_read) (fun _ => dps_up (dps_ret (dp_imp (dp_of de_non) fun d e => by rw [e]; exact .any (n + 1) k)) (by omega)) (fun _ => ?_) (k2 := 7 * cpat n + 8) (by omega)) (by omega)
    refine dps_up (dps_guard (dpt_of t3_read) (fun _ => dps_up (dps_ret (dp_orP (c := 3 * cpat n) dr hk (by omega) (de_var rfl) (de_var rfl) (de_var rfl))) (by omega)) (fun _ => ?_) (k2 := 7 * cpat n + 8) (by omega)) (by omega)
    exact dps_up (dps_guard (dpt_of (b := true) (dt_is (dt_head h5) (by decide +kernel))) (fun _ => dps_up (dps_num hd (by omega) hle (by omega)) (by omega)) (fun z => nomatch z) (k2 := 7 * cpat n + 8) (by omega)) (by omega)
  · obtain ⟨dc, hdc, fc⟩ := dr.look hc
    have hs : ∃ (hd2 : Str) (es : List PyData), dc = .tuple (.str hd2 :: es) ∧ SeqAt.shaped (.str hd2) = true := by
      rcases fc with (⟨_, rfl, _⟩ | ⟨_, _, rfl, _⟩) | ⟨_, _, rfl⟩ | ⟨_, rfl, _⟩
      · exact ⟨_, _, rfl, by decide +kernel⟩
      · exact ⟨_, _, rfl, by decide +kernel⟩
      · exact ⟨_, _, rfl, by decide +kernel⟩
      · exact ⟨_, _, rfl, by decide +kernel⟩
    obtain ⟨h2, es, rfl, hsh⟩ := hs
    have c01 : cpat 0 ≤ cpat n := cpat_mono (Nat.zero_le n)
    have c00 : cpat 0 = 3 := rfl
    cases hrow : h2 == "rows" with
    | true =>
      refine ⟨_, (pss_cons (ps_par (i := 4) (j := 5) (by rfl) nd rfl rfl (by decide) rfl rfl (pa_cons (pe_cl cd hr (by omega) (by rfl) (pa_cons (pv 0) (pa_cons pe_int pa_nil))) (pa_cons (pe_dget hu (pv 1) (pv 2) (fun _ _ => rfl)) pa_nil)) (by rfl)) (pss_cons (ps_if (pw_or (pt_cmpR (op_eqD hu64) (pv 4) pe_int (nomark _)) (pw_or1 (pw_and (pt_cmpR (op_eqD hu64) (pv 3) pe_int (nomark _)) (pw_and1 (pt_cmpR op_in_seq (pe_ix ix_tup (pv 5) pe_int (fun _ _ => rfl)) (pe_tup (pa_cons pe_str (pa_cons pe_str pa_nil))) (by rfl)))).pt)).pt (pss_one (ps_ret pe_non)) pss_nil) (pss_cons (ps_if (pw_and (pt_cmpR (op_eqD hu64) (pv 4) pe_int (nomark _)) (pw_and1 (pt_cmpR op_gt (pv 3) pe_int (nomark _)))).pt (pss_one (ps_ret (pe_tup (pa_cons pe_str (pa_cons (pe_cl cq hr (by omega) (by rfl) (pa_cons (pv 0) (pa_cons (pv 1) (pa_cons (pe_op op_rep (pe_lst (pa_cons (pv 2) pa_nil)) (pe_op op_add pe_int (pe_cl cd hr (by omega) (by rfl) (pa_cons (pv 0) (pa_cons pe_int pa_nil))))) (pa_cons (pe_op op_sub (pv 3) pe_int) pa_nil))))) pa_nil))))) pss_nil) (pss_cons (ps_if (pt_cmpR (op_eqD hu64) (pe_ix ix_tup (pv 5) pe_int (fun _ _ => rfl)) pe_str (nomark _)) pss_never pss_nil) (pss_cons (ps_if (pt_cmpR (op_eqD hu64) (pe_ix ix_tup (pv 5) pe_int (fun _ _ => rfl)) pe_str (nomark _)) pss_never pss_nil) (pss_cons (ps_if (pt_cmpR (op_eqD hu64) (pe_ix ix_tup (pv 5) pe_int (fun _ _ => rfl)) pe_str (nomark _)) pss_never pss_nil) (pss_cons (ps_set (i := 9) nd rfl (Or.inl rfl) (pe_ifExp (pt_cmpR (op_eqD hu64) (pe_ix ix_tup (pe_dget hu (pv 1) (pe_ix ix_tup (pv 5) pe_int (fun _ _ => rfl)) (fun _ _ => rfl)) pe_int (fun _ _ => rfl)) pe_str (nomark _)) pe_int (pe_op op_sub (pv 3) pe_int))) (pss_cons (ps_set (i := 10) nd rfl (Or.inl rfl) (pe_cl c0 hr (by omega) (by rfl) (pa_cons (pv 0) (pa_cons (pv 1) (pa_cons (pe_op op_rep (pe_lst (pa_cons (pe_ix ix_tup (pv 5) pe_int (fun _ _ => rfl)) pa_nil)) (pe_cl cd hr (by omega) (by rfl) (pa_cons (pv 0) (pa_cons pe_int pa_nil)))) (pa_cons (pv 9) pa_nil)))))) (pss_cons (ps_if (pw_or (pt_cmpR op_lt (pv 4) pe_int (nomark _)) (pw_or1 (pt_cmpR op_lt (pv 3) pe_int (nomark _)))).pt (pss_one (ps_ret (pe_tup (pa_cons pe_str (pa_cons (pv 10) pa_nil))))) pss_nil) (pss_cons (ps_set (i := 11) nd rfl (Or.inl rfl) (pe_cl cd hr (by omega) (by rfl) (pa_cons (pv 0) (pa_cons (pe_op op_sub pe_int (pe_callB call_lenR (by rfl) M.len PySem.boot_len (pa_cons (pv 10) pa_nil))) pa_nil)))) (pss_one (ps_ret (pe_tup (pa_cons pe_str (pa_cons (pv 10) (pa_cons (pe_cl c0 hr (by omega) (by rfl) (pa_cons (pv 0) (pa_cons (pv 1) (pa_cons (pe_op op_rep (pe_lst (pa_cons (pe_ix ix_tup (pv 5) pe_int (fun _ _ => rfl)) pa_nil)) (pv 11)) (pa_cons (pv 9) pa_nil))))) pa_nil)))))))))))))))), ?_⟩
      refine fin_P (φ := fun d' => OkPat kvs (n + 1) k d') ?_ x nb rr pu hn fun v B' H' d' g r ok pu' => q v B' H' d' g r (fin d' ok) pu'
      refine dps_up (way_form hd (de_dget (de_ofU (de_var rfl)) (de_var rfl) hd) (c := 7 * cpat n + 8) (fun r r0 r1 => ?_) (by omega)) (by omega)
      have h5 : DE K (tVar 5) (gPat kvs k (n + 1) r (rowsD c)) (.tuple [.str "rows", .str c]) := de_var rfl
      refine dps_up (dps_guard (dpt_of t2_read) (fun _ => dps_up (dps_ret (dp_imp (dp_of de_non) fun d e => by rw [e]; exact .any (n + 1) k)) (by omega)) (fun _ => ?_) (k2 := 7 * cpat n + 8) (by omega)) (by omega)
      refine dps_up (dps_guard (dpt_of t3_read) (fun _ => dps_up (dps_ret (dp_orP (c := 3 * cpat n) dr hk (by omega) (de_var rfl) (de_var rfl) (de_var rfl))) (by omega)) (fun _ => ?_) (k2 := 7 * cpat n + 8) (by omega)) (by omega)
      refine dps_up (dps_guard (dpt_of (b := false) (dt_is (dt_head h5) (by decide +kernel))) (fun z => nomatch z) (fun _ => ?_) (k2 := 7 * cpat n + 8) (by omega)) (by omega)
      refine dps_up (dps_guard (dpt_of (b := false) (dt_is (dt_head h5) (by decide +kernel))) (fun z => nomatch z) (fun _ => ?_) (k2 := 7 * cpat n + 8) (by omega)) (by omega)
      refine dps_up (dps_guard (dpt_of (b := false) (dt_is (dt_head h5) (by decide +kernel))) (fun z => nomatch z) (fun _ => ?_) (k2 := 7 * cpat n + 8) (by omega)) (by omega)
      exact dps_up (dps_rows (C := 3 * cpat 0) dr hd hc (Nat.zero_le n) (by omega) (de_if (b := true) (dt_is (dt_head (de_dget (de_ofU (de_var rfl)) (de_at (j := 1) h5 rfl rfl) hdc) hsh) hrow) (fun _ => de_int) (fun z => nomatch z))) (by omega)
    | false =>
      refine ⟨_, (pss_cons (ps_par (i := 4) (j := 5) (by rfl) nd rfl rfl (by decide) rfl rfl (pa_cons (pe_cl cd hr (by omega) (by rfl) (pa_cons (pv 0) (pa_cons pe_int pa_nil))) (pa_cons (pe_dget hu (pv 1) (pv 2) (fun _ _ => rfl)) pa_nil)) (by rfl)) (pss_cons (ps_if (pw_or (pt_cmpR (op_eqD hu64) (pv 4) pe_int (nomark _)) (pw_or1 (pw_and (pt_cmpR (op_eqD hu64) (pv 3) pe_int (nomark _)) (pw_and1 (pt_cmpR op_in_seq (pe_ix ix_tup (pv 5) pe_int (fun _ _ => rfl)) (pe_tup (pa_cons pe_str (pa_cons pe_str pa_nil))) (by rfl)))).pt)).pt (pss_one (ps_ret pe_non)) pss_nil) (pss_cons (ps_if (pw_and (pt_cmpR (op_eqD hu64) (pv 4) pe_int (nomark _)) (pw_and1 (pt_cmpR op_gt (pv 3) pe_int (nomark _)))).pt (pss_one (ps_ret (pe_tup (pa_cons pe_str (pa_cons (pe_cl cq hr (by omega) (by rfl) (pa_cons (pv 0) (pa_cons (pv 1) (pa_cons (pe_op op_rep (pe_lst (pa_cons (pv 2) pa_nil)) (pe_op op_add pe_int (pe_cl cd hr (by omega) (by rfl) (pa_cons (pv 0) (pa_cons pe_int pa_nil))))) (pa_cons (pe_op op_sub (pv 3) pe_int) pa_nil))))) pa_nil))))) pss_nil) (pss_cons (ps_if (pt_cmpR (op_eqD hu64) (pe_ix ix_tup (pv 5) pe_int (fun _ _ => rfl)) pe_str (nomark _)) pss_never pss_nil) (pss_cons (ps_if (pt_cmpR (op_eqD hu64) (pe_ix ix_tup (pv 5) pe_int (fun _ _ => rfl)) pe_str (nomark _)) pss_never pss_nil) (pss_cons (ps_if (pt_cmpR (op_eqD hu64) (pe_ix ix_tup (pv 5) pe_int (fun _ _ => rfl)) pe_str (nomark _)) pss_never pss_nil) (pss_cons (ps_set (i := 9) nd rfl (Or.inl rfl) (pe_ifExp (pt_cmpR (op_eqD hu64) (pe_ix ix_tup (pe_dget hu (pv 1) (pe_ix ix_tup (pv 5) pe_int (fun _ _ => rfl)) (fun _ _ => rfl)) pe_int (fun _ _ => rfl)) pe_str (nomark _)) pe_int (pe_op op_sub (pv 3) pe_int))) (pss_cons (ps_set (i := 10) nd rfl (Or.inl rfl) (pe_cl cq hr (by omega) (by rfl) (pa_cons (pv 0) (pa_cons (pv 1) (pa_cons (pe_op op_rep (pe_lst (pa_cons (pe_ix ix_tup (pv 5) pe_int (fun _ _ => rfl)) pa_nil)) (pe_cl cd hr (by omega) (by rfl) (pa_cons (pv 0) (pa_cons pe_int pa_nil)))) (pa_cons (pv 9) pa_nil)))))) (pss_cons (ps_if (pw_or (pt_cmpR op_lt (pv 4) pe_int (nomark _)) (pw_or1 (pt_cmpR op_lt (pv 3) pe_int (nomark _)))).pt (pss_one (ps_ret (pe_tup (pa_cons pe_str (pa_cons (pv 10) pa_nil))))) pss_nil) (pss_cons (ps_set (i := 11) nd rfl (Or.inl rfl) (pe_cl cd hr (by omega) (by rfl) (pa_cons (pv 0) (pa_cons (pe_op op_sub pe_int (pe_callB call_lenR (by rfl) M.len PySem.boot_len (pa_cons (pv 10) pa_nil))) pa_nil)))) (pss_one (ps_ret (pe_tup (pa_cons pe_str (pa_cons (pv 10) (pa_cons (pe_cl cq hr (by omega) (by rfl) (pa_cons (pv 0) (pa_cons (pv 1) (pa_cons (pe_op op_rep (pe_lst (pa_cons (pe_ix ix_tup (pv 5) pe_int (fun _ _ => rfl)) pa_nil)) (pv 11)) (pa_cons (pv 9) pa_nil))))) pa_nil)))))))))))))))), ?_⟩
      refine fin_P (φ := fun d' => OkPat kvs (n + 1) k d') ?_ x nb rr pu hn fun v B' H' d' g r ok pu' => q v B' H' d' g r (fin d' ok) pu'
      refine dps_up (way_form hd (de_dget (de_ofU (de_var rfl)) (de_var rfl) hd) (c := 7 * cpat n + 8) (fun r r0 r1 => ?_) (by omega)) (by omega)
      have h5 : DE K (tVar 5) (gPat kvs k (n + 1) r (rowsD c)) (.tuple [.str "rows", .str c]) := de_var rfl
      refine dps_up (dps_guard (dpt_of t2_read) (fun _ => dps_up (dps_ret (dp_imp (dp_of de_non) fun d e => by rw [e]; exact .any (n + 1) k)) (by omega)) (fun _ => ?_) (k2 := 7 * cpat n + 8) (by omega)) (by omega)
      refine dps_up (dps_guard (dpt_of t3_read) (fun _ => dps_up (dps_ret (dp_orP (c := 3 * cpat n) dr hk (by omega) (de_var rfl) (de_var rfl) (de_var rfl))) (by omega)) (fun _ => ?_) (k2 := 7 * cpat n + 8) (by omega)) (by omega)
      refine dps_up (dps_guard (dpt_of (b := false) (dt_is (dt_head h5) (by decide +kernel))) (fun z => nomatch z) (fun _ => ?_) (k2 := 7 * cpat n + 8) (by omega)) (by omega)
      refine dps_up (dps_guard (dpt_of (b := false) (dt_is (dt_head h5) (by decide +kernel))) (fun z => nomatch z) (fun _ => ?_) (k2 := 7 * cpat n + 8) (by omega)) (by omega)
      refine dps_up (dps_guard (dpt_of (b := false) (dt_is (dt_head h5) (by decide +kernel))) (fun z => nomatch z) (fun _ => ?_) (k2 := 7 * cpat n + 8) (by omega)) (by omega)
      exact dps_up (dps_rows (C := 3 * cpat n) dr hd hc (Nat.le_refl n) (by omega) (de_if (b := false) (dt_is (dt_head (de_dget (de_ofU (de_var rfl)) (de_at (j := 1) h5 rfl rfl) hdc) hsh) hrow) (fun z => nomatch z) (fun _ => de_is (de_op (de_var (d := .int ((n + 1 : Nat) : Nat)) rfl) de_int rd_sub) (congrArg PyData.int (by omega))))) (by omega)
  · refine ⟨_, (pss_cons (ps_par (i := 4) (j := 5) (by rfl) nd rfl rfl (by decide) rfl rfl (pa_cons (pe_cl cd hr (by omega) (by rfl) (pa_cons (pv 0) (pa_cons pe_int pa_nil))) (pa_cons (pe_dget hu (pv 1) (pv 2) (fun _ _ => rfl)) pa_nil)) (by rfl)) (pss_cons (ps_if (pw_or (pt_cmpR (op_eqD hu64) (pv 4) pe_int (nomark _)) (pw_or1 (pw_and (pt_cmpR (op_eqD hu64) (pv 3) pe_int (nomark _)) (pw_and1 (pt_cmpR op_in_seq (pe_ix ix_tup (pv 5) pe_int (fun _ _ => rfl)) (pe_tup (pa_cons pe_str (pa_cons pe_str pa_nil))) (by rfl)))).pt)).pt (pss_one (ps_ret pe_non)) pss_nil) (pss_cons (ps_if (pw_and (pt_cmpR (op_eqD hu64) (pv 4) pe_int (nomark _)) (pw_and1 (pt_cmpR op_gt (pv 3) pe_int (nomark _)))).pt (pss_one (ps_ret (pe_tup (pa_cons pe_str (pa_cons (pe_cl cq hr (by omega) (by rfl) (pa_cons (pv 0) (pa_cons (pv 1) (pa_cons (pe_op op_rep (pe_lst (pa_cons (pv 2) pa_nil)) (pe_op op_add pe_int (pe_cl cd hr (by omega) (by rfl) (pa_cons (pv 0) (pa_cons pe_int pa_nil))))) (pa_cons (pe_op op_sub (pv 3) pe_int) pa_nil))))) pa_nil))))) pss_nil) (pss_cons (ps_if (pt_cmpR (op_eqD hu64) (pe_ix ix_tup (pv 5) pe_int (fun _ _ => rfl)) pe_str (nomark _)) pss_never pss_nil) (pss_cons (ps_if (pt_cmpR (op_eqD hu64) (pe_ix ix_tup (pv 5) pe_int (fun _ _ => rfl)) pe_str (nomark _)) pss_never pss_nil) (pss_cons (ps_if (pt_cmpR (op_eqD hu64) (pe_ix ix_tup (pv 5) pe_int (fun _ _ => rfl)) pe_str (nomark _)) (pss_cons (ps_asg (pe_cl co hr (by omega) (by rfl) (pa_cons (pv 0) (pa_cons (pe_ix ix_tup (pv 5) pe_int (fun _ _ => rfl)) pa_nil))) (pg_tup rfl (pgs_cons (pg_name (i := 7) nd rfl (Or.inl rfl)) (pgs_cons (pg_name (i := 8) nd rfl (Or.inl rfl)) pgs_nil)))) (pss_one (ps_ret (pe_tup (pa_cons pe_str (pa_cons (pv 7) (pa_cons (pe_cl cq hr (by omega) (by rfl) (pa_cons (pv 0) (pa_cons (pv 1) (pa_cons (pv 8) (pa_cons (pe_op op_sub (pv 3) pe_int) pa_nil))))) pa_nil))))))) pss_nil) pss_never)))))), ?_⟩
    refine fin_P (φ := fun d' => OkPat kvs (n + 1) k d') ?_ x nb rr pu hn fun v B' H' d' g r ok pu' => q v B' H' d' g r (fin d' ok) pu'
    refine dps_up (way_form hd (de_dget (de_ofU (de_var rfl)) (de_var rfl) hd) (c := 7 * cpat n + 8) (fun r r0 r1 => ?_) (by omega)) (by omega)
    have h5 : DE K (tVar 5) (gPat kvs k (n + 1) r (makersD ms)) (.tuple [.str "makers", .list (ms.map makerD)]) := de_var rfl
    refine dps_up (dps_guard (dpt_of t2_read) (fun _ => dps_up (dps_ret (dp_imp (dp_of de_non) fun d e => by rw [e]; exact .any (n + 1) k)) (by omega)) (fun _ => ?_) (k2 := 7 * cpat n + 8) (by omega)) (by omega)
    refine dps_up (dps_guard (dpt_of t3_read) (fun _ => dps_up (dps_ret (dp_orP (c := 3 * cpat n) dr hk (by omega) (de_var rfl) (de_var rfl) (de_var rfl))) (by omega)) (fun _ => ?_) (k2 := 7 * cpat n + 8) (by omega)) (by omega)
    refine dps_up (dps_guard (dpt_of (b := false) (dt_is (dt_head h5) (by decide +kernel))) (fun z => nomatch z) (fun _ => ?_) (k2 := 7 * cpat n + 8) (by omega)) (by omega)
    refine dps_up (dps_guard (dpt_of (b := false) (dt_is (dt_head h5) (by decide +kernel))) (fun z => nomatch z) (fun _ => ?_) (k2 := 7 * cpat n + 8) (by omega)) (by omega)
    exact dps_up (dps_guard (dpt_of (b := true) (dt_is (dt_head h5) (by decide +kernel))) (fun _ => dps_up (dps_makers (C := 3 * cpat n) dr hd ok (by omega)) (by omega)) (fun z => nomatch z) (k2 := 7 * cpat n + 8) (by omega)) (by omega)
end
end FJ
namespace FJ
open PySem PySem.Spec PyProof.Rows L2 FC FG FP
open Evl (Ex)
def L3 : List Str := ["none", "missing", "rest"]
theorem l3_names : ∀ w ∈ L3, isNameS w = true := by decide +kernel
def pre_clauses : List PyData → Prop := fun ds => ∃ nms b kvs k, ds = [dictU kvs, .str k, .int 3] ∧ Drawn nms b kvs ∧ k ∈ nms
def R_clauses : List PyData → PyData → Prop := fun ds d => ∃ (kvs : List (Str × PyData)) (k : Str) (cs : List (PyData × Str)), ds = [dictU kvs, .str k, .int 3] ∧ d = .list (cs.map clauseD) ∧ ClausesOk kvs k cs ∧ cs.length ≤ 3
section
variable {P : Program} {w : World} {K : PySem.W.Frag} {mg : Str → Option Value} {base : Heap} {f : Addr} {fd : FuncData} {G : List (Option PyData)} {p : Addr}
/-- what is appended: a clause -/
theorem dp_clause {E E' : XK} {nms : List Str} {b k : Str} {kvs : List (Str × PyData)} {t1 t2 : TE} (dr : Drawn nms b kvs) (hk : k ∈ nms) (h1 : DE K t1 G (dictU kvs)) (h2 : DE K t2 G (.str k)) :
    DP K p (tTup (tCons (tCall (spP K (pre_pat 2) (R_pat 2) (cpat 2)) [] E (tCons (tVar 0) (tCons t1 (tCons t2 (tCons (tC (.int 2)) tNil))))) (tCons (tCall (spP K pre_one R_one 1) [] E' (tCons (tVar 0) (tCons (tLst (tCons (tC (.str "none")) (tCons (tC (.str "missing")) (tCons (tC (.str "rest")) tNil)))) tNil))) tNil))) G 301 (fun d => ∃ c : PyData × Str, d = clauseD c ∧ OkPat kvs 2 k c.1 ∧ isNameS c.2 = true) := by
  have c2 : cpat 2 = 300 := by decide
  refine dp_up (dp_imp (dp_tup (dpa_cons (dp_pat (n := 2) (c := cpat 2) dr hk (by omega) h1 h2 de_int) (dpa_cons (dp_one (φ := fun xs => xs = L3.map .str) (dp_imp (dp_of (de_lst (da_cons de_str (da_cons de_str (da_cons de_str da_nil))) rfl (by show 3 ≤ 1000; decide))) ?_) (Int.le_refl 0)) dpa_nil (by decide) (by decide)) (by omega) (by decide)) ?_) ?_) (by omega)
  · rintro d rfl
    exact ⟨_, rfl, by show 1 ≤ 3; decide, by show 3 ≤ 1000; decide, rfl⟩
  · rintro ds ⟨d, es, rfl, ok, e, es', rfl, ⟨xs, rfl, hz⟩, rfl⟩
    obtain ⟨y, hy, rfl⟩ := List.mem_map.mp hz
    refine ⟨?_, by show 2 ≤ 1000; decide⟩
    simp only [List.all_cons, ok.plain]
    rfl
  · rintro z ⟨ds, ⟨d, es, rfl, ok, e, es', rfl, ⟨xs, rfl, hz⟩, rfl⟩, rfl⟩
    obtain ⟨y, hy, rfl⟩ := List.mem_map.mp hz
    exact ⟨(d, y), rfl, ok, l3_names y hy⟩
theorem sc_lclauses : FnScope ["purse", "kinds", "kind", "most", "found", "turn"] ["purse", "kinds", "kind", "most"] (defScope s_lclauses) := ⟨rfl, rfl, rfl, by decide +kernel, rfl, by decide +kernel, by decide +kernel⟩
theorem ok_lclauses {j : Nat} (hj : 3 ≤ j) (F : Fun K "_law_clauses" "_law_clauses" s_lclauses f fd) (M : Bl mg) (cd : CD1 P w K mg base) (co : Cl P w K mg base 3 "_law_one_of" (spP K pre_one R_one 1)) (cp : Cl P w K mg base j "_law_pattern" (spP K (pre_pat 2) (R_pat 2) (cpat 2))) : FnOk P w K mg base CX0 (j + 1) f fd ["purse", "kinds", "kind", "most"] (spP K pre_clauses R_clauses 1000) := by
  refine F.ok sc_lclauses (spP_len (by rintro _ ⟨_, _, _, _, rfl, _⟩; rfl)) (fun cdv A outer s H vs Q E hr h => ?_)
  obtain ⟨p, us, B, ds, n, rfl, x, nb, rr, pu, n0, hn, ⟨nms, b, kvs, k, rfl, dr, hk⟩, q⟩ := h
  obtain ⟨u1, u2, u3, rfl, r1, r2, r3⟩ : ∃ u1 u2 u3, us = [u1, u2, u3] ∧ Rt K B u1 (dictU kvs) ∧ Rt K B u2 (.str k) ∧ Rt K B u3 (.int 3) := by
    cases rr with
    | cons r1 rr =>
    cases rr with
    | cons r2 rr =>
    cases rr with
    | cons r3 rr =>
    cases rr
    exact ⟨_, _, _, rfl, r1, r2, r3⟩
  have nd := sc_lclauses.nd
  refine ⟨_, pss_cons (ps_set (i := 4) nd rfl (Or.inl rfl) (pe_lst pa_nil))
    (pss_cons (ps_for PassesOwn.never rfl (pi_range1 (by rfl) M.range (pa_cons (pe_cl cd hr (by omega) (by rfl) (pa_cons (pv 0) (pa_cons (pe_op op_add (pv 3) pe_int) pa_nil))) pa_nil)) (pg_name (i := 5) nd rfl (Or.inl rfl))
      (pss_one (ps_expr (pe_bm PySem.F.plainAttrs_list PySem.F.slot_list_append PySem.F.type_list_append mt_append (pv 4) (pa_cons (pe_tup (pa_cons (pe_cl cp hr (by omega) (by rfl) (pa_cons (pv 0) (pa_cons (pv 1) (pa_cons (pv 2) (pa_cons pe_int pa_nil))))) (pa_cons (pe_cl co hr (by omega) (by rfl) (pa_cons (pv 0) (pa_cons (pe_lst (pa_cons pe_str (pa_cons pe_str (pa_cons pe_str pa_nil)))) pa_nil))) pa_nil))) pa_nil)))))
    (pss_one (ps_ret (pv 4)))), ?_⟩
  refine seq_newl fun l hl => ?_
  have hn : n + 1000 ≤ 9000000 := hn
  have hlB : B l = none := sub_none x hl
  have hlp : l ≠ p := by
    intro e
    obtain ⟨o, ho⟩ := pu.some
    rw [e, ho] at hl
    cases hl
  let G0 : Option PyData → List (Option PyData) := fun x5 => [none, some (dictU kvs), some (.str k), some (.int 3), none, x5]
  have s0 : StP K p B (upd H l (.lst [])) [some (.ref p), some u1, some u2, some u3, some (.ref l), none] (G0 none) n := by
    refine ⟨x.trans (Evl.Ex.new hl), nb, ⟨rfl, fun i d hi => ?_⟩, pu.ex (Evl.Ex.new hl), rfl⟩
    match i with
    | 0 => cases hi
    | 1 => cases hi; exact ⟨u1, rfl, r1⟩
    | 2 => cases hi; exact ⟨u2, rfl, r2⟩
    | 3 => cases hi; exact ⟨u3, rfl, r3⟩
    | 4 => cases hi
    | 5 => cases hi
    | i + 6 => simp [G0] at hi
  have it : DPI K p (iRng1 (tCons (tCall (spP K pre_draw R_draw 1) [] E0 (tCons (tVar 0) (tCons (tOp (rI0 fun i j => .int (i + j)) (tVar 3) (tC (.int 1))) tNil))) tNil)) (gName 5) [5] (G0 none) 1 (fun m ff => (m : Int) ≤ 3 ∧ ff = fun i G2 => G2.set 5 (some (.int (i : Nat)))) := by
    refine dpi_range (φ := fun m => m ≤ 3) (dpa_imp (dpa_cons (dp_drawI (m := 4) (dp_imp (dp_of (de_op (de_var (d := .int 3) rfl) de_int rd_add)) fun d e => e) (Int.le_refl 0) (by decide) (by decide)) dpa_nil (by decide) (by decide)) ?_)
    rintro ds ⟨d, es, rfl, ⟨r, rfl, r0, r1⟩, rfl⟩
    exact ⟨r, rfl, r0, by omega, by omega⟩
  refine seq_for (for_of (it _ B _ n s0 (by show n + 1 ≤ 9000000; omega) _ fun J B1 H1 m ff g1 pu1 hχ ht => ?_))
  obtain ⟨hm, hff⟩ := hχ
  obtain ⟨Y, W, turn⟩ := ht
  subst hff
  have h1l : H1 l = some (.lst []) := g1.eh l _ hlp upd_same
  have n1l : B1 l = none := g1.fr l _ upd_same hlB
  have g1H : GoP p B H B1 H1 := gop_ahead hl g1
  have s1 := s0.go g1 pu1
  refine for_it W (fun i σ' H' => ∃ (B' : Hp) (cs : List (PyData × Str)) (vs : List V) (x5 : Option PyData), GoP p B H B' H' ∧ Ex B1 B' ∧ StP K p B' H' σ' (G0 x5) (n + 1 + i * 301) ∧ σ'[4]? = some (some (.ref l)) ∧ B' l = none ∧ H' l = some (.lst vs) ∧ DpAll K B' vs (cs.map clauseD) ∧ cs.length = i ∧ ∀ c ∈ cs, OkPat kvs 2 k c.1 ∧ isNameS c.2 = true)
    ⟨B1, [], [], none, g1H, Evl.Ex.refl _, (by
      have z : n + 1 + ((0 : Nat) : Int) * 301 = n + 1 := by simp
      rw [z]; exact s1), rfl, n1l, h1l, .nil, rfl, fun _ h => nomatch h⟩ (fun i σ' H' _ ⟨B', _, _, _, g, e, _⟩ => e.trans g.sub) ?_ ?_
  · rintro i y σ2 H2 H3 hil ⟨B2, cs, vs, x5, g2, e2, s2, sl4, nl2, hl2, da, hcl, hcs⟩ hy
    refine turn i hil B2 H2 σ2 (G0 x5) y H3 e2 s2.x s2.en hy _ fun σ3 B3 H4 g3 en3 hw => ?_
    have s3 : StP K p B3 H4 σ3 (G0 (some (.int (i : Nat)))) (n + 1 + i * 301) := s2.same (vs := [5]) g3 en3 (by decide) (hw [5] fun _ h => h)
    have sl4 : σ3[4]? = some (some (.ref l)) := by rw [← wipe_get (vs := [5]) (j := 4) (by decide), hw [5] (fun _ h => h), wipe_get (by decide)]; exact sl4
    have gp3 : GoP p B2 H2 B3 H4 := .of g3 s2.nb s2.pu
    have hl3 : H4 l = some (.lst vs) := g3.eh l _ hl2
    have nl3 : B3 l = none := g3.fr l _ hl2 nl2
    have vlen := dps_len da
    rw [List.length_map] at vlen
    refine ⟨.ref l, sl4, .inl ⟨rfl, _, .inl (.inl hl3)⟩, ?_⟩
    refine dp_clause dr hk (de_var rfl) (de_var rfl) σ3 B3 H4 _ s3 (by show n + 1 + (i : Int) * 301 + 301 ≤ 9000000; omega) _ fun v B4 H5 d g4 r4 hf pu4 => ?_
    obtain ⟨c, rfl, okp, okn⟩ := hf
    have hl4 := g4.eh l _ hlp hl3
    have nl4 := g4.fr l _ hl3 nl3
    have s4 := s3.go g4 pu4
    have ga : GoP p B H B4 H5 := (g2.trans gp3 s2.pu nb).trans g4 s3.pu nb
    have ga' := gop_own (o := .lst (vs ++ [v])) hl ga nl4
    refine ⟨l, vs, v, rfl, rfl, hl4, Nat.lt_of_le_of_lt (show vs.length ≤ 1000 by omega) (by decide), ?_⟩
    refine ⟨B4, cs ++ [c], vs ++ [v], some (.int (i : Nat)), ga', e2.trans (gp3.eb.trans g4.eb), ⟨ga'.sub, ga'.np, s4.en, ?_, s4.sl⟩, sl4, nl4, upd_same, ?_, by rw [List.length_append, hcl]; rfl, fun c' hc' => ?_⟩
    · have e : n + 1 + ((i + 1 : Nat) : Int) * 301 = n + 1 + i * 301 + 301 := by
        rw [Int.natCast_add, Int.add_mul]
        simp
        omega
      rw [e]
      obtain ⟨a1, b1, c1, hp, r'⟩ := s4.pu
      exact ⟨a1, b1, c1, by rw [upd_ne (Ne.symm hlp)]; exact hp, r'⟩
    · rw [List.map_append]
      exact dps_snoc (r4.dp rfl) (dps_ex (gp3.eb.trans g4.eb) _ _ da)
    · rcases List.mem_append.mp hc' with h | h
      · exact hcs c' h
      · rw [List.mem_singleton.mp h]
        exact ⟨okp, okn⟩
  · rintro σ2 H2 ⟨B2, cs, vs, x5, g2, e2, s2, sl4, nl2, hl2, da, hcl, hcs⟩
    have ge := gop_end hl g2 hl2 nl2 hlp
    have eb : Ex B2 (upd B2 l (.lst vs)) := Evl.Ex.new nl2
    refine ⟨.ref l, sl4, ?_⟩
    exact q _ _ H2 (.list (cs.map clauseD)) ge (.d (.lst (.inl (.inl upd_same)) (dps_ex eb _ _ da))) ⟨kvs, k, cs, rfl, rfl, ⟨fun c h => (hcs c h).1, fun c h => (hcs c h).2, by omega⟩, by omega⟩ (s2.pu.up (by omega))
end
end FJ
/-! Data logic with results that are told by a property alone (no purse). -/
namespace FM
open PySem PySem.Spec PyProof.Rows L2 FC FG FP
open Evl (Ex)
section
variable (K : PySem.W.Frag)
def DX (te : TE) (G : List (Option PyData)) (φ : PyData → Prop) : Prop := ∀ σ B H, Ex B H → En K B σ G → ∀ Q : VK, (∀ v B' H' d, Go B H B' H' → Rt K B' v d → φ d → Q v H') → te σ H Q
def DXT (tt : TT) (G : List (Option PyData)) (φ : Bool → Prop) : Prop := ∀ σ B H, Ex B H → En K B σ G → ∀ Q : Bool → Hp → Prop, (∀ b B' H', Go B H B' H' → φ b → Q b H') → tt σ H Q
def DXA (ta : TA) (G : List (Option PyData)) (φ : List PyData → Prop) : Prop := ∀ σ B H, Ex B H → En K B σ G → ∀ Q : List V → Hp → Prop, (∀ vs B' H' ds, Go B H B' H' → RtA K B' vs ds → φ ds → Q vs H') → ta σ H Q
def DXS (ts : TS) (G : List (Option PyData)) (φ : PyData → Prop) : Prop := ∀ D σ B H, Ex B H → En K B σ G → (∀ v B' H' d, Go B H B' H' → Rt K B' v d → φ d → D.rt v H') → ts D σ H
def DXN (ts : TS) (G : List (Option PyData)) (ψ : List (Option PyData) → Prop) : Prop := ∀ D σ B H, Ex B H → En K B σ G → (∀ σ' B' H' G', Go B H B' H' → ψ G' → En K B' σ' G' → D.nx σ' H') → ts D σ H
/-- the promise of a def: what it hands back has a property -/
def spE (pre : List PyData → Prop) (R : List PyData → PyData → Prop) : Sp := fun vs H Q _ => ∃ (B : Hp) (ds : List PyData), Ex B H ∧ RtA K B vs ds ∧ pre ds ∧ ∀ v B' H' d, Go B H B' H' → Rt K B' v d → R ds d → Q v H'
end
section
variable {K : PySem.W.Frag} {G : List (Option PyData)} {ta tb te : TE} {tt : TT} {φ φ1 φ2 : PyData → Prop} {t1 t2 ts : TS}
theorem dx_of {d : PyData} (h : DE K te G d) : DX K te G (fun e => e = d) := fun σ B H x en Q q => h σ B H x en Q fun v B' H' g r => q v B' H' d g r rfl
theorem dx_imp (h : DX K te G φ1) (e : ∀ d, φ1 d → φ d) : DX K te G φ := fun σ B H x en Q q => h σ B H x en Q fun v B' H' d g r f => q v B' H' d g r (e d f)
theorem dxt_of {b : Bool} (h : DT K tt G b) : DXT K tt G (fun e => e = b) := fun σ B H x en Q q => h σ B H x en Q fun B' H' g => q b B' H' g rfl
theorem dxa_nil : DXA K tNil G (fun ds => ds = []) := fun σ B H x en Q q => q [] B H [] (.refl x) .nil rfl
theorem dxa_of {tr : TA} {ds : List PyData} (h : DA K tr G ds) : DXA K tr G (fun e => e = ds) := fun σ B H x en Q q => h σ B H x en Q fun v B' H' g r => q v B' H' ds g r rfl
theorem dxa_cons {tr : TA} {Φ : List PyData → Prop} (h : DX K te G φ) (hr : DXA K tr G Φ) : DXA K (tCons te tr) G (fun ds => ∃ d es, ds = d :: es ∧ φ d ∧ Φ es) := fun σ B H x en Q q =>
  h σ B H x en _ fun v B1 H1 d g1 r1 f1 => hr σ B1 H1 g1.sub (en.ex g1.eb) _ fun vs B2 H2 ds g2 r2 f2 => q (v :: vs) B2 H2 (d :: ds) (g1.trans g2) (.cons (r1.ex g2.eb) r2) ⟨d, ds, rfl, f1, f2⟩
theorem dxa_imp {tr : TA} {Φ Ψ : List PyData → Prop} (h : DXA K tr G Φ) (e : ∀ ds, Φ ds → Ψ ds) : DXA K tr G Ψ := fun σ B H x en Q q => h σ B H x en Q fun v B' H' d g r f => q v B' H' d g r (e d f)
theorem dx_op {r : R2} {ρ : PyData → Prop} (h1 : DX K ta G φ1) (h2 : DX K tb G φ2) (hr : ∀ d e, φ1 d → φ2 e → ∃ f, ρ f ∧ RD K r d e f) : DX K (tOp r ta tb) G ρ := fun σ B H x en Q q =>
  h1 σ B H x en _ fun v B1 H1 d g1 r1 f1 => h2 σ B1 H1 g1.sub (en.ex g1.eb) _ fun w B2 H2 e g2 r2 f2 => by
    obtain ⟨f, hf, hrd⟩ := hr d e f1 f2
    exact hrd B2 H2 v w g2.sub (r1.ex g2.eb) r2 _ fun z B3 H3 g3 r3 => q z B3 H3 f (g1.trans (g2.trans g3)) r3 hf
theorem dx_cb {r : List V → Hp → VK → Prop} {tr : TA} {Φ : List PyData → Prop} {ρ : PyData → Prop} (h : DXA K tr G Φ) (hr : ∀ ds, Φ ds → ∃ f, ρ f ∧ CD K r ds f) : DX K (tCB r tr) G ρ := fun σ B H x en Q q =>
  h σ B H x en _ fun vs B1 H1 ds g1 r1 f1 => by
    obtain ⟨f, hf, hc⟩ := hr ds f1
    exact hc B1 H1 vs g1.sub r1 _ fun z B2 H2 g2 r2 => q z B2 H2 f (g1.trans g2) r2 hf
theorem dx_call {tr : TA} {Φ pre : List PyData → Prop} {R : List PyData → PyData → Prop} {E : XK} (h : DXA K tr G Φ) (hp : ∀ ds, Φ ds → pre ds) : DX K (tCall (spE K pre R) [] E tr) G (fun z => ∃ ds, Φ ds ∧ R ds z) := fun σ B H x en Q q =>
  h σ B H x en _ fun vs B1 H1 ds g1 r1 f1 => by
    rw [List.append_nil]
    exact ⟨B1, ds, g1.sub, r1, hp ds f1, fun v B' H' d g r hR => q v B' H' d (g1.trans g) r ⟨ds, f1, hR⟩⟩
theorem dx_tup {tr : TA} {Φ : List PyData → Prop} (h : DXA K tr G Φ) (hp : ∀ ds, Φ ds → ds.all plain = true ∧ ds.length ≤ 1000) : DX K (tTup tr) G (fun z => ∃ ds, Φ ds ∧ z = .tuple ds) := fun σ B H x en Q q =>
  h σ B H x en _ fun vs B1 H1 ds g1 r1 f1 => ⟨by rw [Paired.length r1]; exact Nat.le_trans (hp ds f1).2 (by decide), fun a hn => by
    have g2 : Go B1 H1 (upd B1 a (.tup vs)) (upd H1 a (.tup vs)) := Go.new g1.sub hn
    exact q _ _ _ (.tuple ds) (g1.trans g2) (.d (.tup (.inl (.inl upd_same)) ((RtA.ex g2.eb r1).dps (hp ds f1).1))) ⟨ds, f1, rfl⟩⟩
theorem dx_lst {tr : TA} {Φ : List PyData → Prop} (h : DXA K tr G Φ) (hp : ∀ ds, Φ ds → ds.all plain = true ∧ ds.length ≤ 1000) : DX K (tLst tr) G (fun z => ∃ ds, Φ ds ∧ z = .list ds) := fun σ B H x en Q q =>
  h σ B H x en _ fun vs B1 H1 ds g1 r1 f1 => ⟨by rw [Paired.length r1]; exact Nat.le_trans (hp ds f1).2 (by decide), fun a hn => by
    have g2 : Go B1 H1 (upd B1 a (.lst vs)) (upd H1 a (.lst vs)) := Go.new g1.sub hn
    exact q _ _ _ (.list ds) (g1.trans g2) (.d (.lst (.inl (.inl upd_same)) ((RtA.ex g2.eb r1).dps (hp ds f1).1))) ⟨ds, f1, rfl⟩⟩
theorem dxs_ret (h : DX K te G φ) : DXS K (tRet te) G φ := fun D σ B H x en q => h σ B H x en _ q
theorem dxs_imp (h : DXS K ts G φ1) (e : ∀ d, φ1 d → φ d) : DXS K ts G φ := fun D σ B H x en q => h D σ B H x en fun v B' H' d g r f => q v B' H' d g r (e d f)
theorem dxs_set {i : Nat} (h : DX K te G φ1) (hr : ∀ d, φ1 d → DXS K ts (G.set i (some d)) φ) : DXS K (tSeq (tAsg te (gName i)) ts) G φ := fun D σ B H x en q =>
  h σ B H x en _ fun v B1 H1 d g1 r1 f1 => hr d f1 D _ B1 H1 g1.sub ((en.ex g1.eb).set i r1) fun v B2 H2 e g2 r2 f2 => q v B2 H2 e (g1.trans g2) r2 f2
theorem dxs_guard {β : Bool → Prop} (h : DXT K tt G β) (h1 : β true → DXS K t1 G φ) (h2 : β false → DXS K t2 G φ) : DXS K (tSeq (tIfS tt t1 tNext) t2) G φ := fun D σ B H x en q =>
  h σ B H x en _ fun b B1 H1 g1 f1 => by
    cases b with
    | true =>
      rw [if_pos rfl]
      exact h1 f1 _ σ B1 H1 g1.sub (en.ex g1.eb) fun v B2 H2 d g2 r2 f2 => q v B2 H2 d (g1.trans g2) r2 f2
    | false =>
      rw [if_neg Bool.false_ne_true]
      exact h2 f1 D σ B1 H1 g1.sub (en.ex g1.eb) fun v B2 H2 d g2 r2 f2 => q v B2 H2 d (g1.trans g2) r2 f2
theorem dxs_seq {ψ : List (Option PyData) → Prop} (h : DXN K t1 G ψ) (hr : ∀ G', ψ G' → DXS K t2 G' φ) : DXS K (tSeq t1 t2) G φ := fun D σ B H x en q =>
  h _ σ B H x en fun σ1 B1 H1 G1 g1 f1 en1 => hr G1 f1 D σ1 B1 H1 g1.sub en1 fun v B2 H2 d g2 r2 f2 => q v B2 H2 d (g1.trans g2) r2 f2
theorem dxn_set {i : Nat} (h : DX K te G φ) : DXN K (tAsg te (gName i)) G (fun G' => ∃ d, φ d ∧ G' = G.set i (some d)) := fun D σ B H x en q =>
  h σ B H x en _ fun v B1 H1 d g1 r1 f1 => q _ B1 H1 _ g1 ⟨d, f1, rfl⟩ ((en.ex g1.eb).set i r1)
theorem dxn_seq {ψ1 ψ2 : List (Option PyData) → Prop} (h : DXN K t1 G ψ1) (hr : ∀ G', ψ1 G' → DXN K t2 G' ψ2) : DXN K (tSeq t1 t2) G ψ2 := fun D σ B H x en q =>
  h _ σ B H x en fun σ1 B1 H1 G1 g1 f1 en1 => hr G1 f1 D σ1 B1 H1 g1.sub en1 fun σ2 B2 H2 G2 g2 f2 en2 => q σ2 B2 H2 G2 (g1.trans g2) f2 en2
theorem dxn_imp {ψ1 ψ2 : List (Option PyData) → Prop} (h : DXN K ts G ψ1) (e : ∀ G', ψ1 G' → ψ2 G') : DXN K ts G ψ2 := fun D σ B H x en q => h D σ B H x en fun σ' B' H' G' g f en' => q σ' B' H' G' g (e G' f) en'
theorem dxn_if {β : Bool → Prop} {ψ : List (Option PyData) → Prop} (h : DXT K tt G β) (h1 : β true → DXN K t1 G ψ) (h2 : β false → DXN K t2 G ψ) : DXN K (tIfS tt t1 t2) G ψ := fun D σ B H x en q =>
  h σ B H x en _ fun b B1 H1 g1 f1 => by
    cases b with
    | true =>
      rw [if_pos rfl]
      exact h1 f1 D σ B1 H1 g1.sub (en.ex g1.eb) fun σ2 B2 H2 G2 g2 f2 en2 => q σ2 B2 H2 G2 (g1.trans g2) f2 en2
    | false =>
      rw [if_neg Bool.false_ne_true]
      exact h2 f1 D σ B1 H1 g1.sub (en.ex g1.eb) fun σ2 B2 H2 G2 g2 f2 en2 => q σ2 B2 H2 G2 (g1.trans g2) f2 en2
theorem dxn_next : DXN K tNext G (fun G' => G' = G) := fun D σ B H x en q => q σ B H G (.refl x) rfl en
/-- a for over data: I holds of the slots ahead of turn i -/
theorem dxn_for {wi : TI} {g : TG} {T : List Nat} {n : Nat} {ff : Nat → List (Option PyData) → List (Option PyData)} {tb : TS} (I : Nat → List (Option PyData) → Prop) (hi : DI K wi g T G n ff) (h0 : I 0 G) (hs : ∀ i G', i < n → I i G' → DXN K tb (ff i G') (I (i + 1))) : DXN K (tFor wi g tb) G (I n) := fun D σ B H x en q =>
  hi σ B H x en _ fun J B1 H1 Y g1 W turn => by
    refine for_it W (fun i σ' H' => ∃ B' G', Go B1 H1 B' H' ∧ I i G' ∧ En K B' σ' G') ⟨B1, G, .refl g1.sub, h0, en.ex g1.eb⟩ (fun i σ' H' _ ⟨B', G', p', _, _⟩ => p'.eb.trans p'.sub) (fun i y σ2 H2 H3 hil ⟨B2, G2, p2, hI, en2⟩ hy => ?_) (fun σ2 H2 ⟨B2, G2, p2, hI, en2⟩ => q σ2 B2 H2 G2 (g1.trans p2) hI en2)
    refine turn i hil B2 H2 σ2 G2 y H3 p2.eb p2.sub en2 hy _ fun σ' B3 H4 g3 en3 hw => ?_
    exact hs i G2 hil hI _ σ' B3 H4 g3.sub en3 fun σ5 B5 H5 G5 g5 hI5 en5 => ⟨B5, G5, p2.trans (g3.trans g5), hI5, en5⟩
theorem fin_X {N : List Str} {ts : TS} {vs : List V} {ds : List PyData} {B H : Hp} {Q : VK} (h : DXS K ts (startG N ds) φ) (x : Ex B H) (r : RtA K B vs ds) (q : ∀ v B' H' d, Go B H B' H' → Rt K B' v d → φ d → Q v H') :
    ts { nx := fun _ H' => Q .non H', rt := Q } (L2.start N vs) H := h _ _ B H x (En.start r) q
end
end FM
namespace FM
open PySem PySem.Spec PyProof.Rows L2 FC FG FP FJ
open Evl (Ex)
theorem OkVal.mono {kvs : List (Str × PyData)} {n m : Nat} {k : Str} {v : PyData} (h : OkVal kvs n k v) (l : n ≤ m) : OkVal kvs m k v := by
  induction h generalizing m with
  | num hk h1 h2 => exact .num hk h1 h2
  | word hk hw => exact .word hk hw
  | row hk few h ih =>
    obtain ⟨m', rfl⟩ : ∃ m', m = m' + 1 := ⟨m - 1, by omega⟩
    exact .row hk few fun x hx => ih x hx (by omega)
  | maker hk hm hl few h ih =>
    obtain ⟨m', rfl⟩ : ∃ m', m = m' + 1 := ⟨m - 1, by omega⟩
    exact .maker hk hm hl few fun x hx => ih x hx (by omega)
theorem layAll {n : Nat} : ∀ {xs : List PyData}, (∀ x ∈ xs, x.canLay0 = true ∧ x.depth ≤ n) → PyData.canLayAll0 xs = true ∧ PyData.depthAll xs ≤ n
  | [], _ => by simp [PyData.canLayAll0, PyData.depthAll]
  | x :: xs, h => by
    obtain ⟨h1, h2⟩ := layAll (xs := xs) fun y hy => h y (List.mem_cons_of_mem _ hy)
    obtain ⟨h3, h4⟩ := h x (List.mem_cons_self ..)
    simp only [PyData.canLayAll0, PyData.depthAll, h1, h3, Bool.and_self, true_and]
    omega
theorem OkVal.lay {kvs : List (Str × PyData)} (fk : FormsOk kvs) {n : Nat} {k : Str} {v : PyData} (h : OkVal kvs n k v) : v.canLay0 = true ∧ v.depth ≤ n + 1 := by
  induction h with
  | num hk h1 h2 => simp [PyData.canLay0, PyData.depth]
  | word hk hw => exact ⟨by simp only [PyData.canLay0]; exact name_strOk (wordsOk (fk _ _ hk) _ hw), by simp [PyData.depth]⟩
  | @row n k c xs hk few h ih =>
    obtain ⟨h1, h2⟩ := layAll (n := n + 1) ih
    simp only [PyData.canLay0, PyData.depth]
    exact ⟨h1, by omega⟩
  | @maker n k ms m xs hk hm hl few h ih =>
    have hx : ∀ x ∈ xs, x.canLay0 = true ∧ x.depth ≤ n + 1 := fun x hx => by
      obtain ⟨y, hy⟩ := zip_right hl hx
      exact ih _ hy
    obtain ⟨h1, h2⟩ := layAll (n := n + 1) hx
    have hn := (makersOk (fk _ _ hk)).1 m hm
    simp only [PyData.canLay0, PyData.canLayAll0, PyData.depth, PyData.depthAll, h1, name_strOk hn.nm, Bool.and_self, true_and]
    omega
/-- how many values there are at most -/
def aB : Nat → Nat
  | 1 => 3
  | 2 => 9
  | 3 => 27
  | 4 => 162
  | _ => 0
def cB : Nat → Nat
  | 0 => 1
  | 1 => 3
  | 2 => 18
  | 3 => 108
  | _ => 0
def pB : Nat → Nat → Nat
  | 0, 0 => 1
  | 1, t => aB t
  | 2, 2 => 9
  | 2, 3 => 54
  | _, _ => 0
def sumTo (g : Nat → Nat) : Nat → Nat
  | 0 => 0
  | i + 1 => sumTo g i + g (i + 1)
theorem sumTo_mono (g : Nat → Nat) {i j : Nat} (h : i ≤ j) : sumTo g i ≤ sumTo g j := by
  induction h with
  | refl => exact Nat.le_refl _
  | step _ ih => exact Nat.le_trans ih (Nat.le_add_right _ _)
theorem cells_sum {t : Nat} (h1 : 1 ≤ t) (h : t ≤ 3) : sumTo (fun f => aB f * cB (t - f)) t ≤ cB t := by
  have : ∀ t : Fin 4, 1 ≤ t.val → sumTo (fun f => aB f * cB (t.val - f)) t.val ≤ cB t.val := by decide
  exact this ⟨t, by omega⟩ h1
theorem parts_sum {m t : Nat} (hm : m ≤ 1) (h : t ≤ 3) : sumTo (fun f => aB f * pB m (t - f)) t ≤ pB (m + 1) t := by
  have : ∀ m : Fin 2, ∀ t : Fin 4, sumTo (fun f => aB f * pB m.val (t.val - f)) t.val ≤ pB (m.val + 1) t.val := by decide
  exact this ⟨m, by omega⟩ ⟨t, by omega⟩
theorem aB_le {s : Nat} : aB s ≤ 162 := by
  unfold aB
  split <;> omega
theorem cB_le {s : Nat} : cB s ≤ 108 := by
  unfold cB
  split <;> omega
theorem pB_le {m s : Nat} : pB m s ≤ 162 := by
  unfold pB
  have := @aB_le s
  split <;> omega
section
variable {K : PySem.W.Frag} {G : List (Option PyData)}
theorem di_range2 {ta : TA} {lo hi : Int} {j : Nat} (h : DA K ta G [.int lo, .int hi]) (h0 : 0 ≤ lo) (h1 : hi ≤ 100000) (h2 : lo ≤ 100000) (h3 : 0 ≤ hi) : DI K (iRng2 ta) (gName j) [j] G (hi - lo).toNat (fun i G2 => G2.set j (some (.int (lo + (i : Nat))))) := fun σ B H x en R q =>
  h σ B H x en _ fun vs B1 H1 g1 r1 => by
    cases r1 with
    | cons r1 rr =>
    cases rr with
    | cons r2 rr =>
      cases rr
      cases rt_int r1
      cases rt_int r2
      refine ⟨lo, hi, rfl, ⟨by omega, by omega, by omega, by omega⟩, ?_⟩
      refine q (Itr lo (hi - lo).toNat) B1 H1 (YFn fun i => .int (lo + (i : Nat))) g1 ?_ fun i hi B2 H2 σ2 G2 y H3 e1 e2 en2 hy Q k => ?_
      · exact walk_range.mono (fun _ _ => trivial) fun _ _ _ _ _ _ y => y
      · obtain ⟨rfl, rfl⟩ := hy
        exact k _ B2 H3 (.refl e2) (en2.set j (.d (.int _))) fun vs hv => wipe_set (hv j (List.mem_singleton.mpr rfl))
/-- kinds that have a value of a size for sure -/
def BaseK (kvs : List (Str × PyData)) (k : Str) : Prop := ∃ d, FC.look kvs k = some d ∧ BaseOk d
def HasV (kvs : List (Str × PyData)) (k : Str) (s : Nat) : Prop := ∃ d, FC.look kvs k = some d ∧ ((BaseOk d ∧ s = 1) ∨ (∃ c, d = rowsD c ∧ s = 1) ∨ ∃ ms, d = makersD ms ∧ ∃ m ∈ ms, (∀ x ∈ m.2, BaseK kvs x) ∧ s = m.2.length + 1)
theorem HasV.pos {kvs : List (Str × PyData)} {k : Str} {s : Nat} (h : HasV kvs k s) : 1 ≤ s := by
  obtain ⟨d, _, h⟩ := h
  rcases h with h | ⟨c, _, h⟩ | ⟨ms, _, m, _, _, h⟩
  · rw [h.2]; exact Nat.le_refl 1
  · rw [h]; exact Nat.le_refl 1
  · rw [h]; exact Nat.le_add_left 1 _
theorem hasV_base {kvs : List (Str × PyData)} {k : Str} {s : Nat} {d : PyData} (hd : FC.look kvs k = some d) (hb : BaseOk d) (h : HasV kvs k s) : s = 1 := by
  obtain ⟨d', e, h⟩ := h
  obtain rfl : d = d' := Option.some.inj (hd.symm.trans e)
  rcases h with h | ⟨c, _, h⟩ | ⟨ms, e2, _⟩
  · exact h.2
  · exact h
  · rcases hb with ⟨ws, e3, _⟩ | ⟨lo, hi, e3, _⟩
    · exact (words_makers (e3.symm.trans e2)).elim
    · exact (nums_makers (e3.symm.trans e2)).elim
theorem hasV_rows {kvs : List (Str × PyData)} {k c : Str} {s : Nat} (hd : FC.look kvs k = some (rowsD c)) (h : HasV kvs k s) : s = 1 := by
  obtain ⟨d', e, h⟩ := h
  obtain rfl : rowsD c = d' := Option.some.inj (hd.symm.trans e)
  rcases h with h | ⟨c, _, h⟩ | ⟨ms, e2, _⟩
  · exact h.2
  · exact h
  · exact (rows_makers e2).elim
theorem hasV_makers {kvs : List (Str × PyData)} {k : Str} {ms : List (Str × List Str)} {s : Nat} (hd : FC.look kvs k = some (makersD ms)) (h : HasV kvs k s) : ∃ m ∈ ms, (∀ x ∈ m.2, BaseK kvs x) ∧ s = m.2.length + 1 := by
  obtain ⟨d', e, h⟩ := h
  obtain rfl : makersD ms = d' := Option.some.inj (hd.symm.trans e)
  rcases h with h | ⟨c, e2, _⟩ | ⟨ms', e2, h⟩
  · rcases h.1 with ⟨ws, e3, _⟩ | ⟨lo, hi, e3, _⟩
    · exact (words_makers e3.symm).elim
    · exact (nums_makers e3.symm).elim
  · exact (rows_makers e2.symm).elim
  · obtain rfl := makers_inj e2
    exact h
def pre_all (S : Nat) : List PyData → Prop := fun ds => ∃ nms b kvs k, ∃ s : Nat, ds = [dictU kvs, .str k, .int (s : Nat)] ∧ Drawn nms b kvs ∧ k ∈ nms ∧ s ≤ S
def R_all : List PyData → PyData → Prop := fun ds d => ∃ (kvs : List (Str × PyData)) (k : Str) (s : Nat) (vs : List PyData), ds = [dictU kvs, .str k, .int (s : Nat)] ∧ d = .list vs ∧ vs.length ≤ aB s ∧ (∀ v ∈ vs, OkVal kvs s k v) ∧ (HasV kvs k s → vs ≠ [])
def rowsP (rows : List (List PyData)) : PyData := .list (rows.map .list)
def pre_cells (T : Nat) : List PyData → Prop := fun ds => ∃ nms b kvs c, ∃ t : Nat, ds = [dictU kvs, .str c, .int (t : Nat)] ∧ Drawn nms b kvs ∧ c ∈ nms ∧ t ≤ T ∧ t ≤ 3
def R_cells : List PyData → PyData → Prop := fun ds d => ∃ (kvs : List (Str × PyData)) (c : Str) (t : Nat) (rows : List (List PyData)), ds = [dictU kvs, .str c, .int (t : Nat)] ∧ d = rowsP rows ∧ rows.length ≤ cB t ∧ (∀ r ∈ rows, r.length ≤ t ∧ ∀ x ∈ r, OkVal kvs t c x) ∧ (t = 0 → rows ≠ [])
def pre_parts (m T : Nat) : List PyData → Prop := fun ds => ∃ nms b kvs ks, ∃ t : Nat, ds = [dictU kvs, strL ks, .int (t : Nat)] ∧ Drawn nms b kvs ∧ (∀ k ∈ ks, k ∈ nms) ∧ ks.length = m ∧ t ≤ T ∧ t ≤ 3
def R_parts : List PyData → PyData → Prop := fun ds d => ∃ (kvs : List (Str × PyData)) (ks : List Str) (t : Nat) (rows : List (List PyData)), ds = [dictU kvs, strL ks, .int (t : Nat)] ∧ d = rowsP rows ∧ rows.length ≤ pB ks.length t ∧ (∀ r ∈ rows, r.length = ks.length ∧ ∀ q ∈ ks.zip r, OkVal kvs t q.1 q.2) ∧ ((∀ k ∈ ks, BaseK kvs k) → ks.length = t → rows ≠ [])
/-- [[value] + rest for rest in rests], put behind what was found -/
theorem dx_add {v : PyData} {jv jq : Nat} {found rests : List (List PyData)} {tf tr : TE} (hv : plain v = true) (h1 : DE K tf G (rowsP found)) (h2 : DE K tr G (rowsP rests)) (hj : jq < G.length) (hjv : ∀ d, DE K (tVar jv) ((wipeG G [jq]).set jq (some d)) v) (l1 : found.length ≤ 2000) (l2 : rests.length ≤ 2000) (l3 : ∀ r ∈ rests, r.length ≤ 1000) :
    DE K (tOp (rCatL K) tf (tLc (iList K tr) (gName jq) tYes (tOp (rCatL K) (tLst (tCons (tVar jv) tNil)) (tVar jq)) [jq])) G (rowsP (found ++ rests.map (v :: ·))) := by
  refine de_is (de_ofX (de_cat h1 (de_is (de_lc (fun _ => true) (fun i => .list (v :: rests.getD i [])) (di_list (ds := rests.map .list) h2) (by simp) (fun _ _ => dt_yes) (fun i hi _ => ?_) (fun _ _ _ => rfl) (by rw [List.length_map]; exact l2)) (e := .list (rests.map fun r => .list (v :: r))) ?_) (by rw [List.length_map, List.length_map]; omega))) ?_
  · have hi : i < rests.length := by simpa using hi
    show DE K _ ((wipeG G [jq]).set jq (rests.map PyData.list)[i]?) _
    rw [get_map hi, FP.getD_at hi]
    refine de_ofX (de_is (de_cat (de_lst (da_cons (hjv _) da_nil) (by simp [hv]) (by show 1 ≤ 1000; decide)) (de_var (d := .list rests[i]) ?_) (by have := l3 _ (List.getElem_mem hi); show 1 + _ ≤ _; omega)) rfl)
    rw [List.getElem?_set_self (by show jq < (G.set jq none).length; rw [List.length_set]; exact hj)]
  · congr 1
    rw [List.length_map, madeG_filter ([] : List PyData) (fun _ => true) (fun r => PyData.list (v :: r)), List.filter_eq_self.mpr (fun _ _ => rfl)]
  · unfold rowsP
    rw [List.map_append, List.map_map]
    rfl
end
end FM
namespace FM
open PySem PySem.Spec PyProof.Rows L2 FC FG FP FJ
open Evl (Ex)
section
variable {K : PySem.W.Frag} {G : List (Option PyData)} {φ : List PyData → Prop}
/-- a for over a list that is told by a property -/
theorem dxn_forL {te : TE} {j : Nat} {tb : TS} (I : List PyData → Nat → List (Option PyData) → Prop) (h : DX K te G (fun d => ∃ ds, d = .list ds ∧ φ ds)) (h0 : ∀ ds, φ ds → I ds 0 G) (hs : ∀ ds i G', φ ds → i < ds.length → I ds i G' → DXN K tb (G'.set j ds[i]?) (I ds (i + 1))) : DXN K (tFor (iList K te) (gName j) tb) G (fun G' => ∃ ds, φ ds ∧ I ds ds.length G') := fun D σ B H x en q =>
  h σ B H x en _ fun v B1 H1 d g1 r1 ⟨ds, e, f⟩ => by
    subst e
    have r1 := r1.dp rfl
    cases r1 with
    | @lst a xs _ hs' ha =>
    refine ⟨a, rfl, ⟨xs, ex_l g1.sub hs'⟩, ?_⟩
    have hl := dps_len ha
    have W : Walk (Itl K a) ds.length (fun H2 => Ex B1 H2) (YAt xs) := by
      rw [← hl]
      exact walk_list.mono (fun H2 e => ex_l e hs') fun _ _ _ _ _ _ y => y
    refine for_it W (fun i σ' H' => ∃ B' G', Go B1 H1 B' H' ∧ I ds i G' ∧ En K B' σ' G') ⟨B1, G, .refl g1.sub, h0 ds f, en.ex g1.eb⟩ (fun i σ' H' _ ⟨B', G', p', _, _⟩ => p'.eb.trans p'.sub) (fun i y σ2 H2 H3 hil ⟨B2, G2, p2, hI, en2⟩ hy => ?_) (fun σ2 H2 ⟨B2, G2, p2, hI, en2⟩ => q σ2 B2 H2 G2 (g1.trans p2) ⟨ds, f, hI⟩ en2)
    obtain ⟨rfl, hy⟩ := hy
    have hd : ds[i]? = some ds[i] := List.getElem?_eq_getElem hil
    obtain ⟨y', h1, h2⟩ := dps_get ha hd
    obtain rfl : y = y' := Option.some.inj (hy.symm.trans h1)
    have en3 : En K B2 (σ2.set j (some y)) (G2.set j ds[i]?) := by
      rw [hd]
      exact en2.set j (.d (dp_ex p2.eb _ _ h2))
    exact hs ds i G2 f hil hI _ _ B2 H3 p2.sub en3 fun σ5 B5 H5 G5 g5 hI5 en5 => ⟨B5, G5, p2.trans g5, hI5, en5⟩
end
section
variable {P : Program} {w : World} {K : PySem.W.Frag} {mg : Str → Option Value} {base : Heap} {f : Addr} {fd : FuncData}
theorem spE_len {pre : List PyData → Prop} {R : List PyData → PyData → Prop} {j : Nat} (h : ∀ ds, pre ds → ds.length = j) : ∀ vs H Q E, spE K pre R vs H Q E → vs.length = j := by
  rintro vs H Q E ⟨B, ds, _, r, hp, _⟩
  rw [Paired.length r, h ds hp]
theorem sc_lall_cells : FnScope ["kinds", "cell", "size", "found", "first", "rests", "value", "rest"] ["kinds", "cell", "size"] (defScope s_lall_cells) := ⟨rfl, rfl, rfl, by decide +kernel, rfl, by decide +kernel, by decide +kernel⟩
theorem cells_main {T j : Nat} {pc : List PyData → Prop} (F : Fun K "_law_all_cells" "_law_all_cells" s_lall_cells f fd) (M : Bl mg) (ca : Cl P w K mg base j "_law_all" (spE K (pre_all T) R_all)) (cc : Cl P w K mg base j "_law_all_cells" (spE K pc R_cells)) (hp : ∀ T', T = T' + 1 → pc = pre_cells T') : FnOk P w K mg base CX0 (j + 1) f fd ["kinds", "cell", "size"] (spE K (pre_cells T) R_cells) := by
  refine F.ok sc_lall_cells (spE_len (by rintro _ ⟨_, _, _, _, _, rfl, _⟩; rfl)) (fun cdv A outer s H vs Q E hr h => ?_)
  obtain ⟨B, ds, x, r, ⟨nms, b, kvs, c, t, rfl, dr, hc, hT, h3⟩, q⟩ := h
  have hu64 : (A.deeper (envOfC "_law_all_cells" (defScope s_lall_cells) s.heap.objs.size f cdv)).units + 64 < cLine := by have := hr.un; omega
  have nd := sc_lall_cells.nd
  refine ⟨_, pss_cons (ps_if (pt_cmpR (op_eqD hu64) (pv 2) pe_int (nomark _)) (pss_one (ps_ret (pe_lst (pa_cons (pe_lst pa_nil) pa_nil)))) pss_nil)
    (pss_cons (ps_set (i := 3) nd rfl (Or.inl rfl) (pe_lst pa_nil))
    (pss_cons (ps_for PassesOwn.never rfl (pi_range2 (by rfl) M.range (pa_cons pe_int (pa_cons (pe_op op_add (pv 2) pe_int) pa_nil))) (pg_name (i := 4) nd rfl (Or.inl rfl))
      (pss_cons (ps_set (i := 5) nd rfl (Or.inl rfl) (pe_cl cc hr (Nat.le_refl _) (by rfl) (pa_cons (pv 0) (pa_cons (pv 1) (pa_cons (pe_op op_sub (pv 2) (pv 4)) pa_nil)))))
      (pss_one (ps_for PassesOwn.never rfl (pi_list (pe_cl ca hr (Nat.le_refl _) (by rfl) (pa_cons (pv 0) (pa_cons (pv 1) (pa_cons (pv 4) pa_nil))))) (pg_name (i := 6) nd rfl (Or.inr rfl))
        (pss_one (ps_set (i := 3) nd rfl (Or.inl rfl) (pe_op (r := rCatL K) op_catL (pv 3) (pe_lc (own := [("rest", 7)]) (g := gName 7) (tt := tYes) (te := tOp (rCatL K) (tLst (tCons (tVar 6) tNil)) (tVar 7)) rfl nd (pi_list (pv 5)) (blkOk_by (N := ["kinds", "cell", "size", "found", "first", "rests", "value", "rest"]) (sc := defScope s_lall_cells) (by decide +kernel)) (fun _ _ _ _ _ => pg_name (i := 7) nd rfl (Or.inl rfl)) (fun _ _ _ _ _ => pts_nil)
          (fun _ _ _ _ _ => pe_op (r := rCatL K) op_catL (pe_lst (pa_cons (pv 6) pa_nil)) (pv 7))))))))))
    (pss_one (ps_ret (pv 3))))), ?_⟩
  refine fin_X (φ := R_cells [dictU kvs, .str c, .int (t : Nat)]) ?_ x r q
  show DXS K _ [some (dictU kvs), some (.str c), some (.int (t : Nat)), none, none, none, none, none] _
  refine dxs_guard (dxt_of (dt_test (de_op (de_var (d := .int (t : Nat)) rfl) de_int eqI))) (fun z => ?_) (fun z => ?_)
  · have z : ((t : Int) == 0) = true := z.symm
    have ht : t = 0 := by have := eq_of_beq z; omega
    subst ht
    refine dxs_ret (dx_imp (dx_of (de_lst (da_cons (de_lst da_nil rfl (by decide)) da_nil) rfl (by show 1 ≤ 1000; decide))) ?_)
    rintro d rfl
    exact ⟨kvs, c, 0, [[]], rfl, rfl, Nat.le_refl 1, (fun r hr => by rw [List.mem_singleton.mp hr]; exact ⟨Nat.le_refl 0, fun _ h => nomatch h⟩), fun _ z => by cases z⟩
  have z : ((t : Int) == 0) = false := z.symm
  have ht : 1 ≤ t := by
    have : ¬ ((t : Int) = 0) := by simpa using z
    omega
  obtain ⟨T', rfl⟩ : ∃ T', T = T' + 1 := ⟨T - 1, by omega⟩
  obtain rfl := hp T' rfl
  refine dxs_set (dx_of (de_lst da_nil rfl (by decide))) fun d e => ?_
  subst e
  let Gc : List (List PyData) → Option PyData → Option PyData → Option PyData → List (Option PyData) := fun rows x4 x5 x6 => [some (dictU kvs), some (.str c), some (.int (t : Nat)), some (rowsP rows), x4, x5, x6, none]
  let Ok : Nat → List (List PyData) → Prop := fun m rows => rows.length ≤ m ∧ ∀ r ∈ rows, r.length ≤ t ∧ ∀ x ∈ r, OkVal kvs t c x
  let bd : Nat → Nat := sumTo (fun f => aB f * cB (t - f))
  have hbd : bd t ≤ 108 := Nat.le_trans (cells_sum ht h3) cB_le
  show DXS K _ (Gc [] none none none) _
  refine dxs_seq (dxn_for (fun i G' => ∃ rows x4 x5 x6, G' = Gc rows x4 x5 x6 ∧ Ok (bd i) rows) (di_range2 (lo := 1) (hi := (t : Int) + 1) (da_cons de_int (da_cons (de_op (de_var (d := .int (t : Nat)) rfl) de_int rd_add) da_nil)) (by decide) (by omega) (by decide) (by omega)) ⟨[], none, none, none, rfl, Nat.zero_le _, fun _ h => nomatch h⟩ fun i G' hi hG => ?_) fun G' hG => ?_
  · obtain ⟨rows, x4, x5, x6, rfl, hok⟩ := hG
    have hi : i < t := by omega
    have e4 : (1 : Int) + (i : Nat) = ((i + 1 : Nat) : Int) := by omega
    show DXN K _ (Gc rows (some (.int (1 + (i : Nat)))) x5 x6) _
    rw [e4]
    have v0 : ∀ {r a b d}, DE K (tVar 0) (Gc r a b d) (dictU kvs) := de_var rfl
    have v1 : ∀ {r a b d}, DE K (tVar 1) (Gc r a b d) (.str c) := de_var rfl
    have v2 : ∀ {r a b d}, DE K (tVar 2) (Gc r a b d) (.int (t : Nat)) := de_var rfl
    have v4 : ∀ {r b d}, DE K (tVar 4) (Gc r (some (.int ((i + 1 : Nat) : Int))) b d) (.int ((i + 1 : Nat) : Int)) := de_var rfl
    refine dxn_seq (dxn_set (dx_imp (φ := fun d => ∃ rests, d = rowsP rests ∧ rests.length ≤ cB (t - (i + 1)) ∧ ∀ r ∈ rests, r.length ≤ t - (i + 1) ∧ ∀ x ∈ r, OkVal kvs (t - (i + 1)) c x) (dx_call (dxa_of (da_cons v0 (da_cons v1 (da_cons (de_is (de_op v2 v4 rd_sub) (e := .int ((t - (i + 1) : Nat) : Int)) (congrArg PyData.int (by omega))) da_nil)))) ?_) ?_)) fun G1 hG1 => ?_
    · rintro ds rfl
      exact ⟨nms, b, kvs, c, t - (i + 1), rfl, dr, hc, by omega, by omega⟩
    · rintro d ⟨ds, rfl, kvs', c', t', rests, e, rfl, hl, hr, _⟩
      have e1 := dictU_inj (List.cons.inj e).1
      have e2 := PyData.str.inj (List.cons.inj (List.cons.inj e).2).1
      have e3 := PyData.int.inj (List.cons.inj (List.cons.inj (List.cons.inj e).2).2).1
      have e3 : t - (i + 1) = t' := by omega
      subst e1 e2 e3
      exact ⟨rests, rfl, hl, hr⟩
    · obtain ⟨d, ⟨rests, rfl, hrl, hrr⟩, rfl⟩ := hG1
      show DXN K _ (Gc rows (some (.int ((i + 1 : Nat) : Int))) (some (rowsP rests)) x6) _
      refine dxn_imp (dxn_forL (φ := fun vs => vs.length ≤ aB (i + 1) ∧ ∀ v ∈ vs, OkVal kvs (i + 1) c v) (fun vs m G' => ∃ rows x6, G' = Gc rows (some (.int ((i + 1 : Nat) : Int))) (some (rowsP rests)) x6 ∧ Ok (bd i + m * cB (t - (i + 1))) rows) (dx_imp (dx_call (dxa_of (da_cons v0 (da_cons v1 (da_cons v4 da_nil)))) ?_) ?_) (fun vs _ => ⟨rows, x6, rfl, by simpa using hok.1, hok.2⟩) fun vs m G2 hvs hm hG2 => ?_) ?_
      · rintro ds rfl
        exact ⟨nms, b, kvs, c, i + 1, rfl, dr, hc, by omega⟩
      · rintro d ⟨ds, rfl, kvs', c', s', vs, e, rfl, hl, hv, _⟩
        have e1 := dictU_inj (List.cons.inj e).1
        have e2 := PyData.str.inj (List.cons.inj (List.cons.inj e).2).1
        have e3 := PyData.int.inj (List.cons.inj (List.cons.inj (List.cons.inj e).2).2).1
        have e3 : i + 1 = s' := by omega
        subst e1 e2 e3
        exact ⟨vs, rfl, hl, hv⟩
      · obtain ⟨rows2, x6', rfl, hok2⟩ := hG2
        show DXN K _ (Gc rows2 (some (.int ((i + 1 : Nat) : Int))) (some (rowsP rests)) vs[m]?) _
        rw [List.getElem?_eq_getElem hm]
        have hv := hvs.2 _ (List.getElem_mem hm)
        have hb2 : bd i + (m + 1) * cB (t - (i + 1)) ≤ 108 := by
          have h1 : bd (i + 1) ≤ bd t := sumTo_mono _ hi
          have h2 : bd (i + 1) = bd i + aB (i + 1) * cB (t - (i + 1)) := rfl
          have h3' : (m + 1) * cB (t - (i + 1)) ≤ aB (i + 1) * cB (t - (i + 1)) := Nat.mul_le_mul_right _ (by have := hvs.1; omega)
          omega
        have hb3 : (m + 1) * cB (t - (i + 1)) = m * cB (t - (i + 1)) + cB (t - (i + 1)) := Nat.succ_mul _ _
        have hcb := @cB_le (t - (i + 1))
        refine dxn_imp (dxn_set (dx_of (dx_add (v := vs[m]) hv.plain (de_var (d := rowsP rows2) rfl) (de_var (d := rowsP rests) rfl) (by show 7 < 8; decide) (fun d => de_var rfl) (by have := hok2.1; omega) (by omega) (fun r hr => by have := (hrr r hr).1; omega)))) ?_
        rintro G3 ⟨d, rfl, rfl⟩
        refine ⟨rows2 ++ rests.map (vs[m] :: ·), some vs[m], rfl, ?_, fun r hr => ?_⟩
        · rw [List.length_append, List.length_map, hb3]
          have := hok2.1
          omega
        · rcases List.mem_append.mp hr with h | h
          · exact hok2.2 r h
          · obtain ⟨r', hr', rfl⟩ := List.mem_map.mp h
            obtain ⟨hl', hx'⟩ := hrr r' hr'
            refine ⟨by rw [List.length_cons]; omega, fun y hy => ?_⟩
            rcases List.mem_cons.mp hy with rfl | hy
            · exact OkVal.mono hv (by omega)
            · exact OkVal.mono (hx' y hy) (by omega)
      · rintro G3 ⟨vs, hvs, rows2, x6', rfl, hok2⟩
        refine ⟨rows2, _, _, _, rfl, Nat.le_trans hok2.1 ?_, hok2.2⟩
        show bd i + vs.length * cB (t - (i + 1)) ≤ bd i + aB (i + 1) * cB (t - (i + 1))
        have := Nat.mul_le_mul_right (cB (t - (i + 1))) hvs.1
        omega
  · obtain ⟨rows, x4, x5, x6, rfl, hok⟩ := hG
    have e : ((t : Int) + 1 - 1).toNat = t := by omega
    rw [e] at hok
    refine dxs_ret (dx_imp (dx_of (de_var (d := rowsP rows) rfl)) ?_)
    rintro d rfl
    exact ⟨kvs, c, t, rows, rfl, rfl, Nat.le_trans hok.1 (cells_sum ht h3), hok.2, fun z => by omega⟩
end
end FM
namespace FM
open PySem PySem.Spec PyProof.Rows L2 FC FG FP FJ
open Evl (Ex)
theorem rows_shaped {kvs : List (Str × PyData)} (fk : FormsOk kvs) {n : Nat} {rows : List (List PyData)} (hn : n ≤ 10) (h : ∀ r ∈ rows, ∀ x ∈ r, ∃ k, OkVal kvs n k x) : SeqAt.shaped (rowsP rows) = true := by
  have key := layAll (n := n + 2) (xs := rows.map .list) fun d hd => by
    obtain ⟨r, hr, rfl⟩ := List.mem_map.mp hd
    obtain ⟨h1, h2⟩ := layAll (n := n + 1) (xs := r) fun x hx => by
      obtain ⟨k, ok⟩ := h r hr x hx
      exact FM.OkVal.lay fk ok
    simp only [PyData.canLay0, PyData.depth]
    exact ⟨h1, by omega⟩
  unfold SeqAt.shaped rowsP
  simp only [PyData.canLay0, PyData.depth, key.1, Bool.true_and]
  exact decide_eq_true (by omega)
theorem strL_shaped {ws : List Str} (h : ∀ w ∈ ws, isNameS w = true) : SeqAt.shaped (strL ws) = true := by
  obtain ⟨h1, h2⟩ := strs_shaped h
  unfold SeqAt.shaped strL
  simp only [PyData.canLay0, PyData.depth, h1, Bool.true_and]
  exact decide_eq_true (by omega)
section
variable {P : Program} {w : World} {K : PySem.W.Frag} {mg : Str → Option Value} {base : Heap} {f : Addr} {fd : FuncData}
theorem sc_lall_parts : FnScope ["kinds", "names", "size", "found", "first", "rests", "value", "rest"] ["kinds", "names", "size"] (defScope s_lall_parts) := ⟨rfl, rfl, rfl, by decide +kernel, rfl, by decide +kernel, by decide +kernel⟩
theorem parts_main {m T j : Nat} {pc : List PyData → Prop} (hm2 : m ≤ 2) (F : Fun K "_law_all_parts" "_law_all_parts" s_lall_parts f fd) (M : Bl mg) (ca : Cl P w K mg base j "_law_all" (spE K (pre_all T) R_all)) (cc : Cl P w K mg base j "_law_all_parts" (spE K pc R_parts)) (hp : ∀ m', m = m' + 1 → pc = pre_parts m' T) : FnOk P w K mg base CX0 (j + 1) f fd ["kinds", "names", "size"] (spE K (pre_parts m T) R_parts) := by
  refine F.ok sc_lall_parts (spE_len (by rintro _ ⟨_, _, _, _, _, rfl, _⟩; rfl)) (fun cdv A outer s H vs Q E hr h => ?_)
  obtain ⟨B, ds, x, r, ⟨nms, b, kvs, ks, t, rfl, dr, hks, hkl, hT, h3⟩, q⟩ := h
  have hu64 : (A.deeper (envOfC "_law_all_parts" (defScope s_lall_parts) s.heap.objs.size f cdv)).units + 64 < cLine := by have := hr.un; omega
  have nd := sc_lall_parts.nd
  refine ⟨_, pss_cons (ps_if (pt_cmpR (op_eqD hu64) (pv 1) (pe_lst pa_nil) (nomark _)) (pss_one (ps_ret (pe_ifExp (pt_cmpR (op_eqD hu64) (pv 2) pe_int (nomark _)) (pe_lst (pa_cons (pe_lst pa_nil) pa_nil)) (pe_lst pa_nil)))) pss_nil)
    (pss_cons (ps_set (i := 3) nd rfl (Or.inl rfl) (pe_lst pa_nil))
    (pss_cons (ps_for PassesOwn.never rfl (pi_range2 (by rfl) M.range (pa_cons pe_int (pa_cons (pe_op op_add (pv 2) pe_int) pa_nil))) (pg_name (i := 4) nd rfl (Or.inl rfl))
      (pss_cons (ps_set (i := 5) nd rfl (Or.inl rfl) (pe_cl cc hr (Nat.le_refl _) (by rfl) (pa_cons (pv 0) (pa_cons (pe_slice sl_list (pv 1) (po_some pe_int) po_none) (pa_cons (pe_op op_sub (pv 2) (pv 4)) pa_nil)))))
      (pss_one (ps_if (pt_cmpR (op_neD hu64) (pv 5) (pe_lst pa_nil) (nomark _)) (pss_one (ps_for PassesOwn.never rfl (pi_list (pe_cl ca hr (Nat.le_refl _) (by rfl) (pa_cons (pv 0) (pa_cons (pe_ix ix_list (pv 1) pe_int (fun _ _ => rfl)) (pa_cons (pv 4) pa_nil))))) (pg_name (i := 6) nd rfl (Or.inr rfl))
        (pss_one (ps_set (i := 3) nd rfl (Or.inl rfl) (pe_op (r := rCatL K) op_catL (pv 3) (pe_lc (own := [("rest", 7)]) (g := gName 7) (tt := tYes) (te := tOp (rCatL K) (tLst (tCons (tVar 6) tNil)) (tVar 7)) rfl nd (pi_list (pv 5)) (blkOk_by (N := ["kinds", "names", "size", "found", "first", "rests", "value", "rest"]) (sc := defScope s_lall_parts) (by decide +kernel)) (fun _ _ _ _ _ => pg_name (i := 7) nd rfl (Or.inl rfl)) (fun _ _ _ _ _ => pts_nil)
          (fun _ _ _ _ _ => pe_op (r := rCatL K) op_catL (pe_lst (pa_cons (pv 6) pa_nil)) (pv 7)))))))) pss_nil))))
    (pss_one (ps_ret (pv 3))))), ?_⟩
  refine fin_X (φ := R_parts [dictU kvs, strL ks, .int (t : Nat)]) ?_ x r q
  show DXS K _ [some (dictU kvs), some (strL ks), some (.int (t : Nat)), none, none, none, none, none] _
  have hkn : ∀ k ∈ ks, isNameS k = true := fun k hk => dr.nm k (hks k hk)
  have fk := dr.ok.forms
  refine dxs_guard (dxt_of (dt_test (de_op (de_var (d := strL ks) rfl) (de_lst da_nil rfl (by decide)) (rd_eq (strL_shaped hkn) rfl rfl rfl)))) (fun z => ?_) (fun z => ?_)
  · have z : true = (ks.map PyData.str).isEmpty := z.trans (eqv_nil _)
    have hk0 : ks = [] := by
      cases ks with
      | nil => rfl
      | cons => cases z
    subst hk0
    refine dxs_ret (dx_imp (dx_of (de_if (d := .list (if t = 0 then [.list []] else [])) (dt_test (de_op (de_var (d := .int (t : Nat)) rfl) de_int eqI)) (fun z => ?_) (fun z => ?_))) ?_)
    · have : t = 0 := by have := eq_of_beq z; omega
      rw [if_pos this]
      exact de_lst (da_cons (de_lst da_nil rfl (by decide)) da_nil) rfl (by show 1 ≤ 1000; decide)
    · have : ¬ t = 0 := fun e => by subst e; cases z
      rw [if_neg this]
      exact de_lst da_nil rfl (by decide)
    · rintro d rfl
      by_cases h0 : t = 0
      · subst h0
        exact ⟨kvs, [], 0, [[]], rfl, rfl, Nat.le_refl 1, (fun r hr => by rw [List.mem_singleton.mp hr]; exact ⟨rfl, fun _ h => nomatch h⟩), fun _ _ z => by cases z⟩
      · rw [if_neg h0]
        exact ⟨kvs, [], t, [], rfl, rfl, Nat.zero_le _, (fun _ h => nomatch h), fun _ z => absurd z.symm h0⟩
  have z : false = (ks.map PyData.str).isEmpty := z.trans (eqv_nil _)
  obtain ⟨k0, kr, rfl⟩ : ∃ k0 kr, ks = k0 :: kr := by
    cases ks with
    | nil => cases z
    | cons k0 kr => exact ⟨k0, kr, rfl⟩
  obtain ⟨m', rfl⟩ : ∃ m', m = m' + 1 := ⟨m - 1, by rw [← hkl, List.length_cons]; omega⟩
  have hkl : kr.length = m' := by simpa using hkl
  obtain rfl := hp m' rfl
  refine dxs_set (dx_of (de_lst da_nil rfl (by decide))) fun d e => ?_
  subst e
  let Gc : List (List PyData) → Option PyData → Option PyData → Option PyData → List (Option PyData) := fun rows x4 x5 x6 => [some (dictU kvs), some (strL (k0 :: kr)), some (.int (t : Nat)), some (rowsP rows), x4, x5, x6, none]
  let Ok : Nat → List (List PyData) → Prop := fun n rows => rows.length ≤ n ∧ ∀ r ∈ rows, r.length = (k0 :: kr).length ∧ ∀ q ∈ (k0 :: kr).zip r, OkVal kvs t q.1 q.2
  let Cond : Prop := (∀ k ∈ k0 :: kr, BaseK kvs k) ∧ (k0 :: kr).length = t
  let bd : Nat → Nat := sumTo (fun f => aB f * pB m' (t - f))
  have hbd : bd t ≤ 162 := Nat.le_trans (parts_sum (by omega) h3) pB_le
  show DXS K _ (Gc [] none none none) _
  refine dxs_seq (dxn_for (fun i G' => ∃ rows x4 x5 x6, G' = Gc rows x4 x5 x6 ∧ Ok (bd i) rows ∧ (Cond → 1 ≤ i → rows ≠ [])) (di_range2 (lo := 1) (hi := (t : Int) + 1) (da_cons de_int (da_cons (de_op (de_var (d := .int (t : Nat)) rfl) de_int rd_add) da_nil)) (by decide) (by omega) (by decide) (by omega)) ⟨[], none, none, none, rfl, ⟨Nat.zero_le _, fun _ h => nomatch h⟩, fun _ z => by omega⟩ fun i G' hi hG => ?_) fun G' hG => ?_
  · obtain ⟨rows, x4, x5, x6, rfl, hok, hne⟩ := hG
    have hi : i < t := by omega
    have e4 : (1 : Int) + (i : Nat) = ((i + 1 : Nat) : Int) := by omega
    show DXN K _ (Gc rows (some (.int (1 + (i : Nat)))) x5 x6) _
    rw [e4]
    have v0 : ∀ {r a b d}, DE K (tVar 0) (Gc r a b d) (dictU kvs) := de_var rfl
    have v1 : ∀ {r a b d}, DE K (tVar 1) (Gc r a b d) (.list ((k0 :: kr).map .str)) := de_var rfl
    have v2 : ∀ {r a b d}, DE K (tVar 2) (Gc r a b d) (.int (t : Nat)) := de_var rfl
    have v4 : ∀ {r b d}, DE K (tVar 4) (Gc r (some (.int ((i + 1 : Nat) : Int))) b d) (.int ((i + 1 : Nat) : Int)) := de_var rfl
    have hbs : bd (i + 1) = bd i + aB (i + 1) * pB m' (t - (i + 1)) := rfl
    refine dxn_seq (dxn_set (dx_imp (φ := fun d => ∃ rests, d = rowsP rests ∧ rests.length ≤ pB m' (t - (i + 1)) ∧ (∀ r ∈ rests, r.length = kr.length ∧ ∀ q ∈ kr.zip r, OkVal kvs (t - (i + 1)) q.1 q.2) ∧ ((∀ k ∈ kr, BaseK kvs k) → kr.length = t - (i + 1) → rests ≠ [])) (dx_call (dxa_of (da_cons v0 (da_cons (de_is (de_ofX (de_from (n := 1) v1 de_int rfl (by simp))) (e := strL kr) rfl) (da_cons (de_is (de_op v2 v4 rd_sub) (e := .int ((t - (i + 1) : Nat) : Int)) (congrArg PyData.int (by omega))) da_nil)))) ?_) ?_)) fun G1 hG1 => ?_
    · rintro ds rfl
      exact ⟨nms, b, kvs, kr, t - (i + 1), rfl, dr, fun k hk => hks k (List.mem_cons_of_mem _ hk), hkl, by omega, by omega⟩
    · rintro d ⟨ds, rfl, kvs', ks', t', rests, e, rfl, hl, hr, hx⟩
      have e1 := dictU_inj (List.cons.inj e).1
      have e2 := strL_inj (List.cons.inj (List.cons.inj e).2).1
      have e3 := PyData.int.inj (List.cons.inj (List.cons.inj (List.cons.inj e).2).2).1
      have e3 : t - (i + 1) = t' := by omega
      subst e1 e2 e3
      rw [hkl] at hl
      exact ⟨rests, rfl, hl, hr, hx⟩
    · obtain ⟨d, ⟨rests, rfl, hrl, hrr, hrx⟩, rfl⟩ := hG1
      show DXN K _ (Gc rows (some (.int ((i + 1 : Nat) : Int))) (some (rowsP rests)) x6) _
      have rsh : SeqAt.shaped (rowsP rests) = true := rows_shaped fk (n := t - (i + 1)) (by omega) fun r hr x hx => by
        obtain ⟨h1, h2⟩ := hrr r hr
        obtain ⟨y, hy⟩ := zip_right (xs := kr) h1 hx
        exact ⟨y, h2 _ hy⟩
      refine dxn_if (dxt_of (dt_test (de_op (de_var (d := rowsP rests) rfl) (de_lst da_nil rfl (by decide)) (rd_ne rsh rfl rfl rfl)))) (fun zt => ?_) (fun zf => dxn_imp dxn_next fun G2 e => ⟨rows, _, _, _, e, ⟨by rw [hbs]; exact Nat.le_trans hok.1 (Nat.le_add_right _ _), hok.2⟩, fun hc _ => ?_⟩)
      rotate_left
      · have zf : false = !(rests.map PyData.list).isEmpty := zf.trans (congrArg Bool.not (eqv_nil _))
        rcases Nat.eq_zero_or_pos i with hi0 | hi0
        · subst hi0
          have h1 := hrx (fun k hk => hc.1 k (List.mem_cons_of_mem _ hk)) (by have := hc.2; rw [List.length_cons] at this; omega)
          cases rests with
          | nil => exact absurd rfl h1
          | cons => cases zf
        · exact hne hc hi0
      have hrn : rests ≠ [] := by
        rintro rfl
        have zt : true = !((([] : List (List PyData)).map PyData.list).isEmpty) := zt.trans (congrArg Bool.not (eqv_nil _))
        cases zt
      refine dxn_imp (dxn_forL (φ := fun vs => vs.length ≤ aB (i + 1) ∧ (∀ v ∈ vs, OkVal kvs (i + 1) k0 v) ∧ (HasV kvs k0 (i + 1) → vs ≠ [])) (fun vs n G' => ∃ rows x6, G' = Gc rows (some (.int ((i + 1 : Nat) : Int))) (some (rowsP rests)) x6 ∧ Ok (bd i + n * pB m' (t - (i + 1))) rows ∧ (Cond → 1 ≤ i ∨ 1 ≤ n → rows ≠ [])) (dx_imp (dx_call (dxa_of (da_cons v0 (da_cons (de_op v1 de_int (rd_ixL (j := 0) (d := .str k0) rfl rfl)) (da_cons v4 da_nil)))) ?_) ?_) (fun vs _ => ⟨rows, x6, rfl, ⟨by simpa using hok.1, hok.2⟩, fun hc h => hne hc (by omega)⟩) fun vs n G2 hvs hn hG2 => ?_) ?_
      · rintro ds rfl
        exact ⟨nms, b, kvs, k0, i + 1, rfl, dr, hks k0 (List.mem_cons_self ..), by omega⟩
      · rintro d ⟨ds, rfl, kvs', c', s', vs, e, rfl, hl, hv, hx⟩
        have e1 := dictU_inj (List.cons.inj e).1
        have e2 := PyData.str.inj (List.cons.inj (List.cons.inj e).2).1
        have e3 := PyData.int.inj (List.cons.inj (List.cons.inj (List.cons.inj e).2).2).1
        have e3 : i + 1 = s' := by omega
        subst e1 e2 e3
        exact ⟨vs, rfl, hl, hv, hx⟩
      · obtain ⟨rows2, x6', rfl, hok2, hne2⟩ := hG2
        show DXN K _ (Gc rows2 (some (.int ((i + 1 : Nat) : Int))) (some (rowsP rests)) vs[n]?) _
        rw [List.getElem?_eq_getElem hn]
        have hv := hvs.2.1 _ (List.getElem_mem hn)
        have hb2 : bd i + (n + 1) * pB m' (t - (i + 1)) ≤ 162 := by
          have h1 : bd (i + 1) ≤ bd t := sumTo_mono _ hi
          have h3' : (n + 1) * pB m' (t - (i + 1)) ≤ aB (i + 1) * pB m' (t - (i + 1)) := Nat.mul_le_mul_right _ (by have := hvs.1; omega)
          omega
        have hb3 : (n + 1) * pB m' (t - (i + 1)) = n * pB m' (t - (i + 1)) + pB m' (t - (i + 1)) := Nat.succ_mul _ _
        have hcb := @pB_le m' (t - (i + 1))
        refine dxn_imp (dxn_set (dx_of (dx_add (v := vs[n]) hv.plain (de_var (d := rowsP rows2) rfl) (de_var (d := rowsP rests) rfl) (by show 7 < 8; decide) (fun d => de_var rfl) (by have := hok2.1; omega) (by omega) (fun r hr => by have := (hrr r hr).1; omega)))) ?_
        rintro G3 ⟨d, rfl, rfl⟩
        refine ⟨rows2 ++ rests.map (vs[n] :: ·), some vs[n], rfl, ⟨?_, fun r hr => ?_⟩, fun _ _ z => hrn (List.map_eq_nil_iff.mp (List.append_eq_nil_iff.mp z).2)⟩
        · rw [List.length_append, List.length_map, hb3]
          have := hok2.1
          omega
        · rcases List.mem_append.mp hr with h | h
          · exact hok2.2 r h
          · obtain ⟨r', hr', rfl⟩ := List.mem_map.mp h
            obtain ⟨hl', hx'⟩ := hrr r' hr'
            refine ⟨by rw [List.length_cons, List.length_cons, hl'], fun q hq => ?_⟩
            rw [List.zip_cons_cons] at hq
            rcases List.mem_cons.mp hq with rfl | hq
            · exact OkVal.mono hv (by omega)
            · exact OkVal.mono (hx' q hq) (by omega)
      · rintro G3 ⟨vs, hvs, rows2, x6', rfl, hok2, hne2⟩
        refine ⟨rows2, _, _, _, rfl, ⟨Nat.le_trans hok2.1 ?_, hok2.2⟩, fun hc _ => hne2 hc ?_⟩
        rotate_left
        · rcases Nat.eq_zero_or_pos i with hi0 | hi0
          · subst hi0
            obtain ⟨d0, e0, b0⟩ := hc.1 k0 (List.mem_cons_self ..)
            have := hvs.2.2 ⟨d0, e0, .inl ⟨b0, rfl⟩⟩
            exact .inr (List.length_pos_iff.mpr this)
          · exact .inl hi0
        rw [hbs]
        have := Nat.mul_le_mul_right (pB m' (t - (i + 1))) hvs.1
        omega
  · obtain ⟨rows, x4, x5, x6, rfl, hok, hne⟩ := hG
    have e : ((t : Int) + 1 - 1).toNat = t := by omega
    rw [e] at hok hne
    refine dxs_ret (dx_imp (dx_of (de_var (d := rowsP rows) rfl)) ?_)
    rintro d rfl
    refine ⟨kvs, k0 :: kr, t, rows, rfl, rfl, ?_, hok.2, fun h1 h2 => hne ⟨h1, h2⟩ (by rw [← h2, List.length_cons]; omega)⟩
    rw [List.length_cons, hkl]
    exact Nat.le_trans hok.1 (parts_sum (by omega) h3)
end
end FM
namespace FM
open PySem PySem.Spec PyProof.Rows L2 FC FG FP FJ
open Evl (Ex)
def rgD (a b : Int) : List PyData := (List.range (b - a).toNat).map fun i => .int (a + (i : Nat))
section
variable {K : PySem.W.Frag} {G : List (Option PyData)} {ta tb : TE}
theorem rg_dps {B : Hp} (a : Int) : ∀ ns : List Nat, DpAll K B (ns.map fun i => V.int (a + (i : Nat))) (ns.map fun i => PyData.int (a + (i : Nat)))
  | [] => .nil
  | _ :: ns => .cons (.int _) (rg_dps a ns)
/-- list(range(a, b)) -/
theorem de_listRg {a b : Int} (h1 : DE K ta G (.int a)) (h2 : DE K tb G (.int b)) (ha : -1000 ≤ a ∧ a ≤ 1000) (hb : -1000 ≤ b ∧ b ≤ 1000) : DE K (tLstRg (tRg2 ta tb)) G (.list (rgD a b)) := fun σ B H x en Q q =>
  h1 σ B H x en _ fun v B1 H1 g1 r1 => h2 σ B1 H1 g1.sub (en.ex g1.eb) _ fun w B2 H2 g2 r2 => by
    refine ⟨a, b, rt_int r1, rt_int r2, ⟨by omega, by omega, by omega, by omega, by omega⟩, fun c hc => ?_⟩
    have g3 := Go.new g2.sub hc (o := .lst (rgV a b))
    exact q _ _ _ (g1.trans (g2.trans g3)) (.d (.lst (.inl (.inl upd_same)) (rg_dps a _)))
end
/-- a comprehension over a list that is told by a property -/
theorem dx_lcL {K : PySem.W.Frag} {G : List (Option PyData)} {te tel : TE} {j : Nat} {vs : List Nat} {φ : List PyData → Prop} (f : List PyData → Nat → PyData) (h : DX K te G (fun d => ∃ ds, d = .list ds ∧ φ ds)) (hj : j ∈ vs) (he : ∀ ds i, φ ds → i < ds.length → DE K tel ((wipeG G vs).set j ds[i]?) (f ds i)) (hp : ∀ ds i, φ ds → i < ds.length → plain (f ds i) = true) (hn : ∀ ds, φ ds → ds.length ≤ 2000) :
    DX K (tLc (iList K te) (gName j) tYes tel vs) G (fun z => ∃ ds, φ ds ∧ z = .list (madeG (fun _ => true) (f ds) ds.length)) := fun σ B H x en Q q =>
  h σ B H x en _ fun v B1 H1 d g1 r1 ⟨ds, e, fd⟩ => by
    subst e
    have r1 := r1.dp rfl
    cases r1 with
    | @lst a xs _ hs' ha =>
    refine ⟨a, rfl, ⟨xs, ex_l g1.sub hs'⟩, fun D hD => ?_⟩
    have hl := dps_len ha
    have W : Walk (Itl K a) ds.length (fun H2 => Ex B1 H2) (YAt xs) := by
      rw [← hl]
      exact walk_list.mono (fun H2 e => ex_l e hs') fun _ _ _ _ _ _ y => y
    refine lc_it W (fun i H' => ∃ B', LcI K B1 H1 D (madeG (fun _ => true) (f ds) i) B' H') ⟨B1, Go.own g1.sub hD, sub_none g1.sub hD, [], upd_same, .nil⟩ (fun i H' _ ⟨B', p'⟩ => p'.go.eb.trans p'.go.sub) (fun i y H2 H3 hil ⟨B2, p2⟩ hy => ?_) (fun H2 ⟨B2, p2⟩ => ?_)
    · obtain ⟨rfl, hy⟩ := hy
      have hd : ds[i]? = some ds[i] := List.getElem?_eq_getElem hil
      obtain ⟨y', h1, h2⟩ := dps_get ha hd
      obtain rfl : y = y' := Option.some.inj (hy.symm.trans h1)
      refine ⟨(wipe_set hj).trans (wipe_wipe fun _ h => h), ?_⟩
      dsimp only [tYes]
      rw [if_pos rfl]
      have en2 : En K B2 ((L2.wipe σ vs).set j (some y)) ((wipeG G vs).set j ds[i]?) := by
        rw [hd]
        exact ((en.ex (g1.eb.trans p2.go.eb)).wipe vs).set j (.d (dp_ex p2.go.eb _ _ h2))
      refine he ds i fd hil _ B2 H3 p2.go.sub en2 _ fun z B5 H6 g5 r5 => ?_
      have p5 := p2.step g5
      obtain ⟨acc, h1, h2, h3⟩ := p5.app hD (Nat.le_trans (madeG_len _ _ i) (by have := hn ds fd; omega)) (r5.dp (hp ds i fd hil))
      refine ⟨acc, h1, h2, B5, ?_⟩
      rw [madeG_yes (p := fun _ => true) rfl]
      exact h3
    · obtain ⟨vs', h1, h2⟩ := p2.acc
      have gg : Go B H (upd B2 D (.lst vs')) H2 := by
        have g2 := g1.trans p2.go
        refine ⟨g2.eb.trans (Evl.Ex.new p2.nD), g2.eh, fun a o e => ?_, fun a o e nb => ?_⟩
        · by_cases ha : a = D
          · subst ha
            rw [upd_same] at e
            rw [← e]
            exact h1
          · rw [upd_ne ha] at e
            exact g2.sub a o e
        · have ha : a ≠ D := by
            intro z
            subst z
            have := Evl.fresh_back g1.eh hD
            rw [this] at e
            cases e
          rw [upd_ne ha]
          exact g2.fr a o e nb
      exact q _ _ _ _ gg (.d (.lst (SqL.of upd_same) (dps_ex (Evl.Ex.new p2.nD) _ _ h2))) ⟨ds, fd, rfl⟩
theorem all_sum {s : Nat} (h1 : 1 ≤ s) (h4 : s ≤ 4) : cB (s - 1) ≤ aB s ∧ ∀ m, m ≤ 2 → 3 * pB m (s - 1) ≤ aB s := by
  have h := (by decide : ∀ s : Fin 5, 1 ≤ s.val → cB (s.val - 1) ≤ aB s.val ∧ ∀ m : Fin 3, 3 * pB m.val (s.val - 1) ≤ aB s.val) ⟨s, by omega⟩ h1
  exact ⟨h.1, fun m hm => h.2 ⟨m, by omega⟩⟩
def KB_rTup (K : PySem.W.Frag) : List V → Hp → VK → Prop := fun xs H Q => ∃ p ys, xs = [.ref p] ∧ ((SqL K H p ys ∧ ∀ l, H l = none → Q (.ref l) (upd H l (.tup ys))) ∨ (SqT K H p ys ∧ Q (.ref p) H))
theorem cd_tup {K : PySem.W.Frag} {ds : List PyData} : CD K (KB_rTup K) [.list ds] (.tuple ds) := fun B H vs x r Q q => by
  cases r with
  | cons r1 r2 =>
    cases r2
    have r1 := r1.dp rfl
    cases r1 with
    | @lst a us _ hs ha => exact ⟨_, _, rfl, .inl ⟨ex_l x hs, fun l nl => q _ (upd B l (.tup us)) _ (Go.new x nl) (.d (.tup (SqT.of upd_same) (dps_ex (Evl.Ex.new (sub_none x nl)) _ _ ha)))⟩⟩
def pre_partsA (T : Nat) : List PyData → Prop := fun ds => ∃ m, m ≤ 2 ∧ pre_parts m T ds
section
variable {P : Program} {w : World} {K : PySem.W.Frag} {mg : Str → Option Value} {base : Heap} {f : Addr} {fd : FuncData}
theorem ok_partsA {T j : Nat} (h : ∀ m, m ≤ 2 → FnOk P w K mg base CX0 j f fd ["kinds", "names", "size"] (spE K (pre_parts m T) R_parts)) : FnOk P w K mg base CX0 j f fd ["kinds", "names", "size"] (spE K (pre_partsA T) R_parts) := by
  refine ⟨fun vs H Q E hs => ?_, fun A outer s H args us vs Q E hr e0 hb r hs => ?_⟩
  · obtain ⟨B, ds, x, r, ⟨m, hm, hp⟩, q⟩ := hs
    exact (h m hm).len vs H Q E ⟨B, ds, x, r, hp, q⟩
  · obtain ⟨B, ds, x, r', ⟨m, hm, hp⟩, q⟩ := hs
    exact (h m hm).run A outer s H args us vs Q E hr e0 hb r ⟨B, ds, x, r', hp, q⟩
theorem sc_lall : FnScope ["kinds", "kind", "size", "form", "found", "maker", "parts", "row"] ["kinds", "kind", "size"] (defScope s_lall) := ⟨rfl, rfl, rfl, by decide +kernel, rfl, by decide +kernel, by decide +kernel⟩
theorem all_main {S j : Nat} (hS : S ≤ 4) {pc pp : List PyData → Prop} (F : Fun K "_law_all" "_law_all" s_lall f fd) (M : Bl mg) (cc : Cl P w K mg base j "_law_all_cells" (spE K pc R_cells)) (cp : Cl P w K mg base j "_law_all_parts" (spE K pp R_parts)) (hp : ∀ S', S = S' + 1 → pc = pre_cells S' ∧ pp = pre_partsA S') : FnOk P w K mg base CX0 (j + 1) f fd ["kinds", "kind", "size"] (spE K (pre_all S) R_all) := by
  refine F.ok sc_lall (spE_len (by rintro _ ⟨_, _, _, _, _, rfl, _⟩; rfl)) (fun cdv A outer s0 H vs Q E hr h => ?_)
  obtain ⟨B, ds, x, r, ⟨nms, b, kvs, k, s, rfl, dr, hk, hs⟩, q⟩ := h
  have hu := hu_of hr
  have hu64 : (A.deeper (envOfC "_law_all" (defScope s_lall) s0.heap.objs.size f cdv)).units + 64 < cLine := by have := hr.un; omega
  have nd := sc_lall.nd
  obtain ⟨d, hd, fi⟩ := dr.look hk
  refine ⟨_, pss_cons (ps_set (i := 3) nd rfl (Or.inl rfl) (pe_dget hu (pv 0) (pv 1) (fun _ _ => rfl)))
    (pss_cons (ps_if (pt_cmpR (op_eqD hu64) (pe_ix ix_tup (pv 3) pe_int (fun _ _ => rfl)) pe_str (nomark _)) (pss_one (ps_ret (pe_ifExp (pt_cmpR (op_eqD hu64) (pv 2) pe_int (nomark _)) (pe_listRg rfl (by rfl) M.list (prg_2 (by rfl) M.range (pe_ix ix_tup (pv 3) pe_int (fun _ _ => rfl)) (pe_op op_add (pe_ix ix_tup (pv 3) pe_int (fun _ _ => rfl)) pe_int))) (pe_lst pa_nil)))) pss_nil)
    (pss_cons (ps_if (pt_cmpR (op_eqD hu64) (pe_ix ix_tup (pv 3) pe_int (fun _ _ => rfl)) pe_str (nomark _)) (pss_one (ps_ret (pe_ifExp (pt_cmpR (op_eqD hu64) (pv 2) pe_int (nomark _)) (pe_ix ix_tup (pv 3) pe_int (fun _ _ => rfl)) (pe_lst pa_nil)))) pss_nil)
    (pss_cons (ps_if (pt_cmpR (op_eqD hu64) (pv 2) pe_int (nomark _)) (pss_one (ps_ret (pe_lst pa_nil))) pss_nil)
    (pss_cons (ps_if (pt_cmpR (op_eqD hu64) (pe_ix ix_tup (pv 3) pe_int (fun _ _ => rfl)) pe_str (nomark _)) (pss_one (ps_ret (pe_cl cc hr (Nat.le_refl _) (by rfl) (pa_cons (pv 0) (pa_cons (pe_ix ix_tup (pv 3) pe_int (fun _ _ => rfl)) (pa_cons (pe_op op_sub (pv 2) pe_int) pa_nil)))))) pss_nil)
    (pss_cons (ps_set (i := 4) nd rfl (Or.inl rfl) (pe_lst pa_nil))
    (pss_cons (ps_for PassesOwn.never rfl (pi_list (pe_ix ix_tup (pv 3) pe_int (fun _ _ => rfl))) (pg_tup rfl (pgs_cons (pg_name (i := 5) nd rfl (.inr rfl)) (pgs_cons (pg_name (i := 6) nd rfl (.inl rfl)) pgs_nil)))
      (pss_one (ps_set (i := 4) nd rfl (Or.inl rfl) (pe_op (r := rCatL K) op_catL (pv 4) (pe_lc (own := [("row", 7)]) (g := gName 7) (tt := tYes) (te := tCB (KB_rTup K) (tCons (tOp (rCatL K) (tLst (tCons (tVar 5) tNil)) (tVar 7)) tNil)) rfl nd (pi_list (pe_cl cp hr (Nat.le_refl _) (by rfl) (pa_cons (pv 0) (pa_cons (pv 6) (pa_cons (pe_op op_sub (pv 2) pe_int) pa_nil))))) (blkOk_by (N := ["kinds", "kind", "size", "form", "found", "maker", "parts", "row"]) (sc := defScope s_lall) (by decide +kernel)) (fun _ _ _ _ _ => pg_name (i := 7) nd rfl (Or.inl rfl)) (fun _ _ _ _ _ => pts_nil)
        (fun _ _ _ _ _ => pe_callTy (r := KB_rTup K) call_tuple_of (by rfl) M.tuple PyProof.Rows.boot_tuple (pa_cons (pe_op (r := rCatL K) op_catL (pe_lst (pa_cons (pv 5) pa_nil)) (pv 7)) pa_nil)))))))
    (pss_one (ps_ret (pv 4))))))))), ?_⟩
  refine fin_X (φ := R_all [dictU kvs, .str k, .int (s : Nat)]) ?_ x r q
  show DXS K _ [some (dictU kvs), some (.str k), some (.int (s : Nat)), none, none, none, none, none] _
  refine dxs_set (dx_of (de_dget (de_ofU (de_var rfl)) (de_var rfl) hd)) fun d' e => ?_
  subst e
  have fin : ∀ vs : List PyData, vs.length ≤ aB s → (∀ v ∈ vs, OkVal kvs s k v) → (HasV kvs k s → vs ≠ []) → R_all [dictU kvs, .str k, .int (s : Nat)] (.list vs) := fun vs h1 h2 h3 => ⟨kvs, k, s, vs, rfl, rfl, h1, h2, h3⟩
  have v2 : ∀ {d : PyData} {a b c e}, DE K (tVar 2) [some (dictU kvs), some (.str k), some (.int (s : Nat)), some d, a, b, c, e] (.int (s : Nat)) := de_var rfl
  have nz : true = ((s : Int) == 0) → HasV kvs k s → False := fun z h => by
    have z := eq_of_beq z.symm
    have := h.pos
    omega
  have is1 : ((s : Int) == 1) = true → s = 1 := fun z => by have := eq_of_beq z; omega
  rcases fi with (⟨ws, rfl, ne, nd', few, nm⟩ | ⟨lo, hi, rfl, hle, hlo, hhi, h2⟩) | ⟨c, hc, rfl⟩ | ⟨ms, rfl, ok⟩
  · have h5 : DE K (tVar 3) [some (dictU kvs), some (.str k), some (.int (s : Nat)), some (wordsD ws), none, none, none, none] (.tuple [.str "words", strL ws]) := de_var rfl
    refine dxs_guard (dxt_of (b := false) (dt_is (dt_head h5) (by decide +kernel))) (fun z => nomatch z) fun _ => ?_
    refine dxs_guard (dxt_of (b := true) (dt_is (dt_head h5) (by decide +kernel))) (fun _ => dxs_ret (dx_imp (dx_of (de_if (d := .list (if s = 1 then ws.map .str else [])) (dt_test (de_op v2 de_int eqI)) (fun z => ?_) (fun z => ?_))) ?_)) (fun z => nomatch z)
    · rw [if_pos (is1 z)]
      exact de_at (j := 1) h5 rfl rfl
    · rw [if_neg fun e => by subst e; cases z]
      exact de_lst da_nil rfl (by decide)
    · rintro d rfl
      by_cases h1 : s = 1
      · rw [if_pos h1]
        subst h1
        refine fin _ (by rw [List.length_map]; exact few) (fun v hv => ?_) fun _ z => ne (List.map_eq_nil_iff.mp z)
        obtain ⟨y, hy, rfl⟩ := List.mem_map.mp hv
        exact .word hd hy
      · rw [if_neg h1]
        exact fin [] (Nat.zero_le _) (fun _ h => nomatch h) fun h => absurd (hasV_base hd (.inl ⟨ws, rfl, ne, nd', few, nm⟩) h) h1
  · have h5 : DE K (tVar 3) [some (dictU kvs), some (.str k), some (.int (s : Nat)), some (numsD lo hi), none, none, none, none] (.tuple [.str "numbers", .int lo, .int hi]) := de_var rfl
    refine dxs_guard (dxt_of (b := true) (dt_is (dt_head h5) (by decide +kernel))) (fun _ => dxs_ret (dx_imp (dx_of (de_if (d := .list (if s = 1 then rgD lo (hi + 1) else [])) (dt_test (de_op v2 de_int eqI)) (fun z => ?_) (fun z => ?_))) ?_)) (fun z => nomatch z)
    · rw [if_pos (is1 z)]
      exact de_listRg (de_at (j := 1) h5 rfl rfl) (de_op (de_at (j := 2) h5 rfl rfl) de_int rd_add) ⟨by omega, by omega⟩ ⟨by omega, by omega⟩
    · rw [if_neg fun e => by subst e; cases z]
      exact de_lst da_nil rfl (by decide)
    · rintro d rfl
      by_cases h1 : s = 1
      · rw [if_pos h1]
        subst h1
        refine fin _ (by unfold rgD; rw [List.length_map, List.length_range]; show _ ≤ 3; omega) (fun v hv => ?_) fun _ z => ?_
        · obtain ⟨y, hy, rfl⟩ := List.mem_map.mp hv
          have := List.mem_range.mp hy
          exact .num hd (by omega) (by omega)
        · have z := congrArg List.length z
          unfold rgD at z
          rw [List.length_map, List.length_range] at z
          have z : (hi + 1 - lo).toNat = 0 := z
          omega
      · rw [if_neg h1]
        exact fin [] (Nat.zero_le _) (fun _ h => nomatch h) fun h => absurd (hasV_base hd (.inr ⟨lo, hi, rfl, hle, hlo, hhi, h2⟩) h) h1
  · have h5 : DE K (tVar 3) [some (dictU kvs), some (.str k), some (.int (s : Nat)), some (rowsD c), none, none, none, none] (.tuple [.str "rows", .str c]) := de_var rfl
    refine dxs_guard (dxt_of (b := false) (dt_is (dt_head h5) (by decide +kernel))) (fun z => nomatch z) fun _ => ?_
    refine dxs_guard (dxt_of (b := false) (dt_is (dt_head h5) (by decide +kernel))) (fun z => nomatch z) fun _ => ?_
    refine dxs_guard (dxt_of (dt_test (de_op v2 de_int eqI))) (fun z => dxs_ret (dx_imp (dx_of (de_lst da_nil rfl (by decide))) fun d e => e ▸ fin [] (Nat.zero_le _) (fun _ h => nomatch h) fun h => (nz z h).elim)) fun z => ?_
    have z : ((s : Int) == 0) = false := z.symm
    have s1 : 1 ≤ s := by
      have : ¬ ((s : Int) = 0) := by simpa using z
      omega
    obtain ⟨S', rfl⟩ : ∃ S', S = S' + 1 := ⟨S - 1, by omega⟩
    obtain ⟨rfl, rfl⟩ := hp S' rfl
    refine dxs_guard (dxt_of (b := true) (dt_is (dt_head h5) (by decide +kernel))) (fun _ => dxs_ret (dx_imp (dx_call (dxa_of (da_cons (de_var (d := dictU kvs) rfl) (da_cons (de_at (j := 1) h5 rfl rfl) (da_cons (de_is (de_op v2 de_int rd_sub) (e := .int ((s - 1 : Nat) : Int)) (congrArg PyData.int (by omega))) da_nil)))) ?_) ?_)) (fun z => nomatch z)
    · rintro ds rfl
      exact ⟨nms, b, kvs, c, s - 1, rfl, dr, hc, by omega, by omega⟩
    · rintro d ⟨ds, rfl, kvs', c', t', rows, e, rfl, hl, hr, hx⟩
      have e1 := dictU_inj (List.cons.inj e).1
      have e2 := PyData.str.inj (List.cons.inj (List.cons.inj e).2).1
      have e3 := PyData.int.inj (List.cons.inj (List.cons.inj (List.cons.inj e).2).2).1
      have e3 : s - 1 = t' := by omega
      subst e1 e2 e3
      refine fin _ (by rw [List.length_map]; exact Nat.le_trans hl (all_sum s1 (by omega)).1) (fun v hv => ?_) fun h z => hx (by have := hasV_rows hd h; omega) (List.map_eq_nil_iff.mp z)
      obtain ⟨row, hrow, rfl⟩ := List.mem_map.mp hv
      obtain ⟨h1, h2⟩ := hr row hrow
      have hs1 : s = (s - 1) + 1 := by omega
      rw [hs1]
      exact .row hd (by omega) h2
  · have h5 : ∀ {a b c e}, DE K (tVar 3) [some (dictU kvs), some (.str k), some (.int (s : Nat)), some (makersD ms), a, b, c, e] (.tuple [.str "makers", .list (ms.map makerD)]) := de_var rfl
    refine dxs_guard (dxt_of (b := false) (dt_is (dt_head h5) (by decide +kernel))) (fun z => nomatch z) fun _ => ?_
    refine dxs_guard (dxt_of (b := false) (dt_is (dt_head h5) (by decide +kernel))) (fun z => nomatch z) fun _ => ?_
    refine dxs_guard (dxt_of (dt_test (de_op v2 de_int eqI))) (fun z => dxs_ret (dx_imp (dx_of (de_lst da_nil rfl (by decide))) fun d e => e ▸ fin [] (Nat.zero_le _) (fun _ h => nomatch h) fun h => (nz z h).elim)) fun z => ?_
    have z : ((s : Int) == 0) = false := z.symm
    have s1 : 1 ≤ s := by
      have : ¬ ((s : Int) = 0) := by simpa using z
      omega
    obtain ⟨S', rfl⟩ : ∃ S', S = S' + 1 := ⟨S - 1, by omega⟩
    obtain ⟨rfl, rfl⟩ := hp S' rfl
    refine dxs_guard (dxt_of (b := false) (dt_is (dt_head h5) (by decide +kernel))) (fun z => nomatch z) fun _ => ?_
    refine dxs_set (dx_of (de_lst da_nil rfl (by decide))) fun d e => ?_
    subst e
    have hs := all_sum s1 (show s ≤ 4 by omega)
    have hC : ∀ m, m ≤ 2 → pB m (s - 1) ≤ aB s / 3 := fun m hm => (Nat.le_div_iff_mul_le (by decide)).mpr (by have := hs.2 m hm; omega)
    have hC3 : ms.length * (aB s / 3) ≤ aB s := by
      have h1 : ms.length * (aB s / 3) ≤ 3 * (aB s / 3) := Nat.mul_le_mul_right _ ok.few
      have h2 := Nat.div_mul_le_self (aB s) 3
      omega
    let Gm : List PyData → Option PyData → Option PyData → List (Option PyData) := fun vs x5 x6 => [some (dictU kvs), some (.str k), some (.int (s : Nat)), some (makersD ms), some (.list vs), x5, x6, none]
    let ps : List (PyData × PyData) := ms.map fun m => (.str m.1, strL m.2)
    show DXS K _ (Gm [] none none) _
    refine dxs_seq (dxn_for (n := ps.length) (fun i G' => ∃ vs x5 x6, G' = Gm vs x5 x6 ∧ vs.length ≤ i * (aB s / 3) ∧ (∀ v ∈ vs, OkVal kvs s k v) ∧ (∀ j m, j < i → ms[j]? = some m → (∀ x ∈ m.2, BaseK kvs x) → s = m.2.length + 1 → vs ≠ [])) (di_listP (ps := ps) (de_is (de_at (j := 1) h5 rfl rfl) (congrArg PyData.list (makers_pairs ms).symm))) ⟨[], none, none, rfl, Nat.zero_le _, (fun _ h => nomatch h), fun _ _ z => by omega⟩ fun i G' hi hG => ?_) fun G' hG => ?_
    · obtain ⟨vs, x5, x6, rfl, hl, hv, hne⟩ := hG
      have hi : i < ms.length := by simpa [ps] using hi
      have e : ps[i]? = some (.str ms[i].1, strL ms[i].2) := by
        show (ms.map _)[i]? = _
        rw [List.getElem?_map, List.getElem?_eq_getElem hi]
        rfl
      rw [e]
      show DXN K _ (Gm vs (some (.str ms[i].1)) (some (strL ms[i].2))) _
      have hm := List.getElem_mem hi
      have hpt := ok.parts _ hm
      have hpk : ∀ y ∈ ms[i].2, y ∈ nms := fun y hy => by
        rcases List.mem_append.mp (hpt.2 y hy) with h | h
        · exact h
        · rw [List.mem_singleton.mp h]; exact dr.base_in
      let φ : List PyData → Prop := fun ds => ∃ rows : List (List PyData), ds = rows.map .list ∧ rows.length ≤ pB ms[i].2.length (s - 1) ∧ (∀ r ∈ rows, r.length = ms[i].2.length ∧ ∀ q ∈ ms[i].2.zip r, OkVal kvs (s - 1) q.1 q.2) ∧ ((∀ x ∈ ms[i].2, BaseK kvs x) → ms[i].2.length = s - 1 → rows ≠ [])
      have hcall : DX K (tCall (spE K (pre_partsA S') R_parts) [] E0 (tCons (tVar 0) (tCons (tVar 6) (tCons (tOp (rI0 fun i j => .int (i - j)) (tVar 2) (tC (.int 1))) tNil)))) (Gm vs (some (.str ms[i].1)) (some (strL ms[i].2))) (fun d => ∃ ds, d = .list ds ∧ φ ds) := by
        refine dx_imp (dx_call (dxa_of (da_cons (de_var (d := dictU kvs) rfl) (da_cons (de_var (d := strL ms[i].2) rfl) (da_cons (de_is (de_op v2 de_int rd_sub) (e := .int ((s - 1 : Nat) : Int)) (congrArg PyData.int (by omega))) da_nil)))) ?_) ?_
        · rintro ds rfl
          exact ⟨ms[i].2.length, hpt.1, nms, b, kvs, ms[i].2, s - 1, rfl, dr, hpk, rfl, by omega, by omega⟩
        · rintro d ⟨ds, rfl, kvs', ks', t', rows, e, rfl, hl, hr, hx⟩
          have e1 := dictU_inj (List.cons.inj e).1
          have e2 := strL_inj (List.cons.inj (List.cons.inj e).2).1
          have e3 := PyData.int.inj (List.cons.inj (List.cons.inj (List.cons.inj e).2).2).1
          have e3 : s - 1 = t' := by omega
          subst e1 e2 e3
          exact ⟨_, rfl, rows, rfl, hl, hr, hx⟩
      have rowOf : ∀ ds n, φ ds → n < ds.length → ∃ row : List PyData, ds[n]? = some (.list row) ∧ row.length ≤ 2 := fun ds n ⟨rows, e, hl, hr, _⟩ hn => by
        subst e
        rw [List.length_map] at hn
        exact ⟨rows[n], get_map hn, by rw [(hr _ (List.getElem_mem hn)).1]; exact hpt.1⟩
      refine dxn_imp (dxn_set (dx_op (ρ := fun z => ∃ rows : List (List PyData), z = .list (vs ++ rows.map fun r => .tuple (.str ms[i].1 :: r)) ∧ rows.length ≤ pB ms[i].2.length (s - 1) ∧ (∀ r ∈ rows, r.length = ms[i].2.length ∧ ∀ q ∈ ms[i].2.zip r, OkVal kvs (s - 1) q.1 q.2) ∧ ((∀ x ∈ ms[i].2, BaseK kvs x) → ms[i].2.length = s - 1 → rows ≠ [])) (dx_of (de_var (d := .list vs) rfl)) (dx_lcL (φ := φ) (fun ds n => match ds[n]? with | some (.list row) => .tuple (.str ms[i].1 :: row) | _ => .none) hcall (by decide) (fun ds n hφ hn => ?_) (fun ds n hφ hn => ?_) (fun ds hφ => ?_)) (fun d e hd2 he => ?_))) ?_
      · obtain ⟨row, er, hrl⟩ := rowOf ds n hφ hn
        rw [er]
        show DE K _ [some (dictU kvs), some (.str k), some (.int (s : Nat)), some (makersD ms), some (.list vs), some (.str ms[i].1), some (strL ms[i].2), some (.list row)] _
        exact de_cb (da_cons (de_ofX (de_cat (de_lst (da_cons (de_var (d := .str ms[i].1) rfl) da_nil) rfl (by show 1 ≤ 1000; decide)) (de_var (d := .list row) rfl) (by show 1 + row.length ≤ _; omega))) da_nil) cd_tup
      · obtain ⟨row, er, hrl⟩ := rowOf ds n hφ hn
        simp only [er]
        rfl
      · obtain ⟨rows, e, hl2, hr, hx⟩ := hφ
        subst e
        rw [List.length_map]
        have := @pB_le ms[i].2.length (s - 1)
        omega
      · obtain ⟨ds, ⟨rows, e3, hl2, hr, hx⟩, rfl⟩ := he
        subst hd2 e3
        have := @pB_le ms[i].2.length (s - 1)
        have e4 : madeG (fun _ => true) (fun n => match (rows.map PyData.list)[n]? with | some (.list row) => PyData.tuple (.str ms[i].1 :: row) | _ => .none) (rows.map PyData.list).length = rows.map fun r => .tuple (.str ms[i].1 :: r) := by
          refine madeG_of (by rw [List.length_map, List.length_map]) fun n hn => ?_
          have hn : n < rows.length := by simpa using hn
          rw [get_map hn, get_map hn]
        refine ⟨_, ⟨rows, rfl, hl2, hr, hx⟩, fun B H v w x r1 r2 Q q => ?_⟩
        rw [e4] at r2
        have h3 : i * (aB s / 3) ≤ ms.length * (aB s / 3) := Nat.mul_le_mul_right _ (by omega)
        have h4 := @aB_le s
        have r1 := r1.dp rfl
        have r2 := r2.dp rfl
        cases r1 with
        | @lst a1 as1 _ hs1 ha1 =>
        cases r2 with
        | @lst a2 as2 _ hs2 ha2 =>
        have l1 := dps_len ha1
        have l2 := dps_len ha2
        rw [List.length_map] at l2
        refine ⟨_, _, _, _, rfl, rfl, ex_l x hs1, ex_l x hs2, Nat.le_trans (show _ ≤ 100000 by omega) (by decide), fun p hp => ?_⟩
        have g3 := Go.new x hp (o := .lst (as1 ++ as2))
        exact q _ _ _ g3 (.d (.lst (.inl (.inl upd_same)) (dps_ex g3.eb _ _ (dps_append ha2 ha1))))
      · rintro G3 ⟨d, ⟨rows, rfl, hl2, hr, hx⟩, rfl⟩
        refine ⟨vs ++ rows.map fun r => .tuple (.str ms[i].1 :: r), _, _, rfl, ?_, (fun v hv' => ?_), fun j m hj hm2 hb hs2 z => ?_⟩
        rotate_left 2
        · obtain ⟨z1, z2⟩ := List.append_eq_nil_iff.mp z
          by_cases e : j = i
          · subst e
            rw [List.getElem?_eq_getElem hi] at hm2
            obtain rfl := Option.some.inj hm2
            exact hx hb (by omega) (List.map_eq_nil_iff.mp z2)
          · exact hne j m (by omega) hm2 hb hs2 z1
        · rw [List.length_append, List.length_map, Nat.succ_mul]
          have := hC ms[i].2.length hpt.1
          omega
        · rcases List.mem_append.mp hv' with h | h
          · exact hv v h
          · obtain ⟨row, hrow, rfl⟩ := List.mem_map.mp h
            obtain ⟨h1, h2⟩ := hr row hrow
            have hs1 : s = (s - 1) + 1 := by omega
            rw [hs1]
            exact .maker hd hm h1 (by omega) h2
    · obtain ⟨vs, x5, x6, rfl, hl, hv, hne⟩ := hG
      have hpl : ps.length = ms.length := List.length_map _
      rw [hpl] at hl
      exact dxs_ret (dx_imp (dx_of (de_var (d := .list vs) rfl)) fun d e => by
        rw [e]
        refine fin vs (Nat.le_trans hl hC3) hv fun h => ?_
        obtain ⟨m, hm, hb, hs2⟩ := hasV_makers hd h
        obtain ⟨j, hj, e2⟩ := List.getElem_of_mem hm
        exact hne j m (by rw [hpl]; exact hj) (by rw [List.getElem?_eq_getElem hj, e2]) hb hs2)
end
end FM
namespace FM
open PySem PySem.Spec PyProof.Rows L2 FC FG FP FJ
open Evl (Ex)
/-! ### how long what is noted gets -/
structure Lit (W D : Nat) (d : PyData) : Prop where
  sh : d.showable = true
  ls : d.leavesShort 13 = true
  wt : d.weight ≤ W
  dp : d.depth ≤ D
theorem Lit.up {W D W' D' : Nat} {d : PyData} (h : Lit W D d) (h1 : W ≤ W') (h2 : D ≤ D') : Lit W' D' d := ⟨h.sh, h.ls, Nat.le_trans h.wt h1, Nat.le_trans h.dp h2⟩
structure LitA (W D : Nat) (ds : List PyData) : Prop where
  sh : PyData.showableAll ds = true
  ls : PyData.leavesShortAll 13 ds = true
  wt : PyData.weightAll ds ≤ W
  dp : PyData.depthAll ds ≤ D
theorem lit_nil : LitA 0 0 [] := ⟨rfl, rfl, Nat.le_refl _, Nat.le_refl _⟩
theorem lit_cons {W W' D : Nat} {d : PyData} {ds : List PyData} (h : Lit W D d) (h2 : LitA W' D ds) : LitA (W + 1 + W') D (d :: ds) := by
  refine ⟨?_, ?_, ?_, ?_⟩
  · simp only [PyData.showableAll, h.sh, h2.sh, Bool.and_self]
  · simp only [PyData.leavesShortAll, h.ls, h2.ls, Bool.and_self]
  · have := h.wt; have := h2.wt
    simp only [PyData.weightAll]
    omega
  · have := h.dp; have := h2.dp
    simp only [PyData.depthAll]
    omega
theorem LitA.up {W D W' D' : Nat} {d : List PyData} (h : LitA W D d) (h1 : W ≤ W') (h2 : D ≤ D') : LitA W' D' d := ⟨h.sh, h.ls, Nat.le_trans h.wt h1, Nat.le_trans h.dp h2⟩
theorem lit_all {W D : Nat} : ∀ {ds : List PyData}, (∀ d ∈ ds, Lit W D d) → LitA (ds.length * (W + 1)) D ds
  | [], _ => lit_nil.up (Nat.zero_le _) (Nat.zero_le _)
  | d :: ds, h => by
    have h1 := lit_cons (h d (List.mem_cons_self ..)) (lit_all (ds := ds) fun x hx => h x (List.mem_cons_of_mem _ hx))
    refine h1.up ?_ (Nat.le_refl _)
    rw [List.length_cons, Nat.succ_mul]
    omega
theorem lit_lst {W D : Nat} {ds : List PyData} (h : LitA W D ds) : Lit W (D + 1) (.list ds) := by
  refine ⟨by simpa only [PyData.showable] using h.sh, by simpa only [PyData.leavesShort] using h.ls, by simpa only [PyData.weight] using h.wt, ?_⟩
  have := h.dp
  simp only [PyData.depth]
  omega
theorem lit_tup {W D : Nat} {ds : List PyData} (h : LitA W D ds) : Lit W (D + 1) (.tuple ds) := by
  refine ⟨by simpa only [PyData.showable] using h.sh, by simpa only [PyData.leavesShort] using h.ls, by simpa only [PyData.weight] using h.wt, ?_⟩
  have := h.dp
  simp only [PyData.depth]
  omega
theorem lit_name {s : Str} (h : isNameS s = true) : Lit 10 0 (.str s) := by
  refine ⟨rfl, ?_, ?_, by simp [PyData.depth]⟩
  · simp only [PyData.leavesShort, List.all_eq_true, decide_eq_true_eq]
    intro c hc
    have h1 := name_strOk h
    unfold PyData.strOk at h1
    rw [Array.all_eq_true'] at h1
    have h2 := of_decide_eq_true (h1 c (Array.mem_def.mpr hc))
    exact Nat.lt_trans h2 (by decide +kernel)
  · unfold isNameS at h
    rw [Bool.and_eq_true, Bool.and_eq_true] at h
    have h1 := of_decide_eq_true h.1.2
    simp only [PyData.weight]
    have : s.length = s.cps.size := rfl
    omega
theorem lit_int {i : Int} (h : i.natAbs ≤ 1000) : Lit 11 0 (.int i) := by
  have e : i.natAbs < 10 ^ 10 := Nat.lt_of_le_of_lt h (by decide)
  have e2 : i.natAbs.log2 < 10 := by
    rcases Nat.eq_zero_or_pos i.natAbs with z | z
    · rw [z]; decide
    · exact (Nat.log2_lt (by omega)).mpr (Nat.lt_of_le_of_lt h (by decide))
  refine ⟨?_, ?_, ?_, by simp [PyData.depth]⟩
  · show decide (i.natAbs.log2 < 1920) = true
    exact decide_eq_true (by omega)
  · have z := int_text_length_le10 (k := 10) (by decide) e
    show decide ((PyData.shown (.int i)).length ≤ 13) = true
    refine decide_eq_true ?_
    show (Str.ofString (toString i)).length ≤ 13
    rw [PySem.ofString_length]
    omega
  · show (if (i == 0) = true then 0 else i.natAbs.log2 + 1) ≤ 11
    split <;> omega
theorem lit_bnd {d : PyData} (h : bnd d = true) : Lit 11 0 d := by
  cases d with
  | none => exact ⟨rfl, rfl, Nat.zero_le _, Nat.le_refl _⟩
  | int i => exact lit_int (of_decide_eq_true h)
  | _ => cases h
def WP : Nat → Nat
  | 0 => 60
  | n + 1 => 60 + 9 * (WP n + 1)
theorem WP_ge (n : Nat) : 60 ≤ WP n := by
  cases n with
  | zero => exact Nat.le_refl _
  | succ n => exact Nat.le_add_right _ _
theorem lit9 {W D : Nat} {ds : List PyData} (h : ∀ d ∈ ds, Lit W D d) (hl : ds.length ≤ 9) : Lit (9 * (W + 1)) (D + 1) (.list ds) := lit_lst ((lit_all h).up (Nat.mul_le_mul_right _ hl) (Nat.le_refl _))
theorem OkPat.lit {kvs : List (Str × PyData)} (fk : FormsOk kvs) {n : Nat} {k : Str} {p : PyData} (h : OkPat kvs n k p) : Lit (WP n) (2 * n + 1) p := by
  have lor : Lit 10 0 (.str "or") := lit_name (by decide +kernel)
  have lfrom : Lit 10 0 (.str "from") := lit_name (by decide +kernel)
  have lword : Lit 10 0 (.str "word") := lit_name (by decide +kernel)
  have lmaker : Lit 10 0 (.str "maker") := lit_name (by decide +kernel)
  have lrow : Lit 10 0 (.str "row") := lit_name (by decide +kernel)
  have lgap : Lit 10 0 (.str "gap") := lit_name (by decide +kernel)
  induction h with
  | any n k => exact ⟨rfl, rfl, Nat.zero_le _, Nat.zero_le _⟩
  | @or n k ps ne few h ih =>
    refine (lit_tup (lit_cons (lor.up (Nat.le_refl _) (Nat.zero_le _)) (lit_cons (lit9 ih few) (lit_nil.up (Nat.le_refl _) (Nat.zero_le _))))).up ?_ (by omega)
    show _ ≤ 60 + 9 * (WP n + 1)
    omega
  | @range n k lo hi a b hk ha hb =>
    have := WP_ge n
    exact (lit_tup (lit_cons lfrom (lit_cons (lit_bnd ha) (lit_cons (lit_bnd hb) lit_nil)))).up (by omega) (by omega)
  | @word n k ws w hk hw =>
    have := WP_ge n
    exact (lit_tup (lit_cons lword (lit_cons (lit_name (wordsOk (fk _ _ hk) _ hw)) lit_nil))).up (by omega) (by omega)
  | @maker n k ms m ps hk hm hl few h ih =>
    have hx : ∀ x ∈ ps, Lit (WP n) (2 * n + 1) x := fun x hx => by
      obtain ⟨y, hy⟩ := zip_right hl hx
      exact ih _ hy
    have hn := (makersOk (fk _ _ hk)).1 m hm
    refine (lit_tup (lit_cons (lmaker.up (Nat.le_refl _) (Nat.zero_le _)) (lit_cons ((lit_name hn.nm).up (Nat.le_refl _) (Nat.zero_le _)) (lit_cons (lit9 hx few) (lit_nil.up (Nat.le_refl _) (Nat.zero_le _)))))).up ?_ (by omega)
    show _ ≤ 60 + 9 * (WP n + 1)
    omega
  | @row n k c ps hk few h ih =>
    refine (lit_tup (lit_cons (lrow.up (Nat.le_refl _) (Nat.zero_le _)) (lit_cons (lit9 ih few) (lit_nil.up (Nat.le_refl _) (Nat.zero_le _))))).up ?_ (by omega)
    show _ ≤ 60 + 9 * (WP n + 1)
    omega
  | @gap n k c ps qs hk few h ih =>
    have h1 := lit_lst (lit_all fun x hx => ih x (List.mem_append_left qs hx))
    have h2 := lit_lst (lit_all fun x hx => ih x (List.mem_append_right ps hx))
    refine (lit_tup (lit_cons (lgap.up (Nat.le_refl _) (Nat.zero_le _)) (lit_cons h1 (lit_cons h2 (lit_nil.up (Nat.le_refl _) (Nat.zero_le _)))))).up ?_ (by omega)
    have h3 := Nat.mul_le_mul_right (WP n + 1) few
    rw [Nat.add_mul] at h3
    show _ ≤ 60 + 9 * (WP n + 1)
    omega
def WV : Nat → Nat
  | 0 => 20
  | n + 1 => 20 + 9 * (WV n + 1)
theorem WV_ge (n : Nat) : 20 ≤ WV n := by
  cases n with
  | zero => exact Nat.le_refl _
  | succ n => exact Nat.le_add_right _ _
theorem OkVal.lit {kvs : List (Str × PyData)} (fk : FormsOk kvs) (hb : ∀ s lo hi, FC.look kvs s = some (numsD lo hi) → -1000 ≤ lo ∧ hi ≤ 1000) {n : Nat} {k : Str} {v : PyData} (h : OkVal kvs n k v) : Lit (WV n) (n + 1) v := by
  induction h with
  | @num n k lo hi i hk h1 h2 =>
    have := hb _ _ _ hk
    have := WV_ge n
    exact (lit_int (i := i) (by omega)).up (by omega) (by omega)
  | @word n k ws w hk hw =>
    have := WV_ge n
    exact (lit_name (wordsOk (fk _ _ hk) _ hw)).up (by omega) (by omega)
  | @row n k c xs hk few h ih => exact (lit9 ih few).up (by show _ ≤ 20 + 9 * (WV n + 1); omega) (by omega)
  | @maker n k ms m xs hk hm hl few h ih =>
    have hx : ∀ x ∈ xs, Lit (WV n) (n + 1) x := fun x hx => by
      obtain ⟨y, hy⟩ := zip_right hl hx
      exact ih _ hy
    have hn := (makersOk (fk _ _ hk)).1 m hm
    have h9 := (lit_all hx).up (Nat.mul_le_mul_right _ few) (Nat.le_refl _)
    exact (lit_tup (lit_cons ((lit_name hn.nm).up (Nat.le_refl _) (Nat.zero_le _)) h9)).up (by show _ ≤ 20 + 9 * (WV n + 1); omega) (by omega)
end FM
namespace FM
open PySem PySem.Spec PyProof.Rows L2 FC FG FP FJ
open Evl (Ex)
theorem lit_strs {ws : List Str} (h : ∀ w ∈ ws, isNameS w = true) : Lit (ws.length * 11) 1 (strL ws) := by
  have h1 := lit_all (W := 10) (D := 0) (ds := ws.map .str) fun d hd => by
    obtain ⟨w, hw, rfl⟩ := List.mem_map.mp hd
    exact lit_name (h w hw)
  rw [List.length_map] at h1
  exact lit_lst h1
theorem form_lit {nms : List Str} {b : Str} {kvs : List (Str × PyData)} (dr : Drawn nms b kvs) {d : PyData} (h : FormIn nms b d) : Lit 300 5 d := by
  have lw : Lit 10 0 (.str "words") := lit_name (by decide +kernel)
  have ln : Lit 10 0 (.str "numbers") := lit_name (by decide +kernel)
  have lr : Lit 10 0 (.str "rows") := lit_name (by decide +kernel)
  have lm : Lit 10 0 (.str "makers") := lit_name (by decide +kernel)
  rcases h with (⟨ws, rfl, ne, nd', few, nm⟩ | ⟨lo, hi, rfl, hle, hlo, hhi, h2⟩) | ⟨c, hc, rfl⟩ | ⟨ms, rfl, ok⟩
  · exact (lit_tup (lit_cons (lw.up (Nat.le_refl _) (Nat.zero_le 1)) (lit_cons (lit_strs nm) (lit_nil.up (Nat.le_refl _) (Nat.zero_le _))))).up (by omega) (by omega)
  · exact (lit_tup (lit_cons ln (lit_cons (lit_int (i := lo) (by omega)) (lit_cons (lit_int (i := hi) (by omega)) lit_nil)))).up (by omega) (by omega)
  · exact (lit_tup (lit_cons lr (lit_cons (lit_name (dr.nm c hc)) lit_nil))).up (by omega) (by omega)
  · have hb := dr.base_in
    have h1 : ∀ d ∈ ms.map makerD, Lit 40 2 d := fun d hd => by
      obtain ⟨m, hm, rfl⟩ := List.mem_map.mp hd
      have hp := ok.parts m hm
      have hs := lit_strs (ws := m.2) fun y hy => by
        rcases List.mem_append.mp (hp.2 y hy) with h | h
        · exact dr.nm y h
        · rw [List.mem_singleton.mp h]; exact dr.nm b hb
      exact (lit_tup (lit_cons ((lit_name (ok.nm m hm)).up (Nat.le_refl _) (Nat.zero_le 1)) (lit_cons hs (lit_nil.up (Nat.le_refl _) (Nat.zero_le _))))).up (by omega) (by omega)
    have h2 := lit_lst (lit_all h1)
    rw [List.length_map] at h2
    have := ok.few
    exact (lit_tup (lit_cons (lm.up (Nat.le_refl _) (Nat.zero_le _)) (lit_cons h2 (lit_nil.up (Nat.le_refl _) (Nat.zero_le _))))).up (by omega) (by omega)
theorem lit_dict {W D : Nat} : ∀ {kvs : List (Str × PyData)}, (∀ q ∈ kvs, isNameS q.1 = true ∧ Lit W D q.2) → PyData.showableKv (bodyOf kvs) = true ∧ PyData.leavesShortKv 13 (bodyOf kvs) = true ∧ PyData.weightKv (bodyOf kvs) ≤ kvs.length * (W + 12) ∧ PyData.depthKv (bodyOf kvs) ≤ D
  | [], _ => by simp [bodyOf, PyData.showableKv, PyData.leavesShortKv, PyData.weightKv, PyData.depthKv]
  | q :: kvs, h => by
    obtain ⟨h1, h2, h3, h4⟩ := lit_dict (kvs := kvs) fun x hx => h x (List.mem_cons_of_mem _ hx)
    obtain ⟨a, b⟩ := h q (List.mem_cons_self ..)
    have a := lit_name a
    have e : bodyOf (q :: kvs) = (.str q.1, q.2) :: bodyOf kvs := rfl
    have w1 := a.wt
    have w2 := b.wt
    have d1 := a.dp
    have d2 := b.dp
    rw [e]
    refine ⟨?_, ?_, ?_, ?_⟩
    · simp only [PyData.showableKv, a.sh, b.sh, h1, Bool.and_self]
    · simp only [PyData.leavesShortKv, a.ls, b.ls, h2, Bool.and_self]
    · simp only [PyData.weightKv]
      rw [List.length_cons, Nat.succ_mul]
      omega
    · simp only [PyData.depthKv]
      omega
theorem kinds_lit {nms : List Str} {b : Str} {kvs : List (Str × PyData)} (dr : Drawn nms b kvs) : Lit 1300 6 (.dict (bodyOf kvs)) := by
  have hl : kvs.length ≤ 4 := by
    have := dr.few
    rw [← dr.keys, List.length_map] at this
    exact this
  obtain ⟨h1, h2, h3, h4⟩ := lit_dict (W := 300) (D := 5) (kvs := kvs) fun q hq => ⟨dr.nm _ (by rw [← dr.keys]; exact List.mem_map.mpr ⟨q, hq, rfl⟩), form_lit dr (dr.fm q hq)⟩
  refine ⟨by simpa only [PyData.showable] using h1, by simpa only [PyData.leavesShort] using h2, ?_, ?_⟩
  · simp only [PyData.weight]
    omega
  · simp only [PyData.depth]
    omega
theorem Drawn.bounded {nms : List Str} {b : Str} {kvs : List (Str × PyData)} (dr : Drawn nms b kvs) : ∀ s lo hi, FC.look kvs s = some (numsD lo hi) → -1000 ≤ lo ∧ hi ≤ 1000 := fun s lo hi h => by
  obtain ⟨q, hq, _, e⟩ := look_mem h
  rcases dr.fm q hq with (⟨ws, e2, _⟩ | ⟨lo', hi', e2, _, h1, h2, _⟩) | ⟨c, _, e2⟩ | ⟨ms, e2, _⟩
  · rw [e] at e2; exact (nums_words e2).elim
  · rw [e] at e2
    have e3 := List.cons.inj (List.cons.inj (PyData.tuple.inj e2)).2
    have e4 := PyData.int.inj e3.1
    have e5 := PyData.int.inj (List.cons.inj e3.2).1
    omega
  · rw [e] at e2; exact (nums_rows e2).elim
  · rw [e] at e2; exact (nums_makers e2).elim
/-- what value_right notes can be shown -/
theorem shows_note {nms : List Str} {b k : Str} {kvs : List (Str × PyData)} (dr : Drawn nms b kvs) {cs : List (PyData × Str)} (hc : ClausesOk kvs k cs) (h3 : cs.length ≤ 3) {n : Nat} (hn : n ≤ 4) {v : PyData} (hv : OkVal kvs n k v) : Shows (noteD kvs (.list (cs.map clauseD)) v) := by
  have fk := dr.ok.forms
  have l1 := kinds_lit dr
  have l2 : Lit 20000 8 (.list (cs.map clauseD)) := by
    have h := lit_lst (lit_all (W := 5600) (D := 6) (ds := cs.map clauseD) fun d hd => by
      obtain ⟨c, hc', rfl⟩ := List.mem_map.mp hd
      have h1 := OkPat.lit fk (hc.pat c hc')
      have e : WP 2 = 5550 := by decide
      rw [e] at h1
      exact (lit_tup (lit_cons h1 (lit_cons ((lit_name (hc.nm c hc')).up (Nat.le_refl _) (Nat.zero_le _)) (lit_nil.up (Nat.le_refl _) (Nat.zero_le _))))).up (by omega) (by omega))
    rw [List.length_map] at h
    exact h.up (by omega) (by omega)
  have l3 : Lit 200000 8 v := by
    have h1 := OkVal.lit fk (Drawn.bounded dr) (OkVal.mono hv hn)
    have e : WV 4 ≤ 200000 := by decide
    exact h1.up e (by omega)
  have l := lit_lst (lit_cons (l1.up (Nat.le_refl _) (show 6 ≤ 8 by decide)) (lit_cons l2 (lit_cons l3 (lit_nil.up (Nat.le_refl _) (Nat.zero_le _)))))
  refine ⟨l.sh, ?_, PyData.shown_fits (B := 13) (by decide) (by decide) l.ls ?_⟩
  · have := l.dp
    show (PyData.list [.dict (bodyOf kvs), .list (cs.map clauseD), v]).depth ≤ 40
    omega
  · have := l.wt
    have e : (2 : Nat) ^ 20 = 1048576 := by decide
    show (PyData.list [.dict (bodyOf kvs), .list (cs.map clauseD), v]).weight ≤ _
    omega
end FM
namespace FM
open PySem PySem.Spec PyProof.Rows L2 FC FG FP FJ
open Evl (Ex)
section
variable {P : Program} {w : World} {K : PySem.W.Frag} {mg : Str → Option Value} {base : Heap} {f : Addr} {fd : FuncData}
theorem fnokE_false {R : List PyData → PyData → Prop} {ps : List Str} : FnOk P w K mg base CX0 0 f fd ps (spE K (fun _ => False) R) := ⟨fun vs H Q E h => by obtain ⟨_, _, _, _, z, _⟩ := h; exact z.elim, fun A outer s H args us vs Q E hr e0 hb r h => by obtain ⟨_, _, _, _, z, _⟩ := h; exact z.elim⟩
theorem clE_mono {j k : Nat} {x : Str} {sp : Sp} (c : Cl P w K mg base j x sp) (h : j ≤ k) : Cl P w K mg base k x sp := by
  obtain ⟨f, fd, ps, F, a, b, d⟩ := c.ex
  exact ⟨f, fd, ps, F.mono h, a, b, d⟩
/-- the three defs by the size -/
theorem ok_alls {fa fc fp : Addr} {fda fdc fdp : FuncData} (Fa : Fun K "_law_all" "_law_all" s_lall fa fda) (Fc : Fun K "_law_all_cells" "_law_all_cells" s_lall_cells fc fdc) (Fp : Fun K "_law_all_parts" "_law_all_parts" s_lall_parts fp fdp) (M : Bl mg) (ma : mg "_law_all" = some (.ref fa)) (mc : mg "_law_all_cells" = some (.ref fc)) (mp : mg "_law_all_parts" = some (.ref fp)) :
    ∀ S, S ≤ 4 → FnOk P w K mg base CX0 (5 * S + 1) fa fda ["kinds", "kind", "size"] (spE K (pre_all S) R_all) ∧ FnOk P w K mg base CX0 (5 * S + 2) fc fdc ["kinds", "cell", "size"] (spE K (pre_cells S) R_cells) ∧ FnOk P w K mg base CX0 (5 * S + 4) fp fdp ["kinds", "names", "size"] (spE K (pre_partsA S) R_parts) := by
  have ba : Binds K fda ["kinds", "kind", "size"] [] := Fa.binds (ps := ["kinds", "kind", "size"]) fun _ _ _ _ _ _ us hl => match us, hl with | [_, _, _], _ => rfl
  have bc : Binds K fdc ["kinds", "cell", "size"] [] := Fc.binds (ps := ["kinds", "cell", "size"]) fun _ _ _ _ _ _ us hl => match us, hl with | [_, _, _], _ => rfl
  have bp : Binds K fdp ["kinds", "names", "size"] [] := Fp.binds (ps := ["kinds", "names", "size"]) fun _ _ _ _ _ _ us hl => match us, hl with | [_, _, _], _ => rfl
  have dc : ∀ {R}, Cl P w K mg base 0 "_law_all_cells" (spE K (fun _ => False) R) := ⟨fc, fdc, _, fnokE_false, mc, Fc.kp, bc⟩
  have dp : ∀ {R}, Cl P w K mg base 0 "_law_all_parts" (spE K (fun _ => False) R) := ⟨fp, fdp, _, fnokE_false, mp, Fp.kp, bp⟩
  -- the parts, from the values
  have parts : ∀ S, FnOk P w K mg base CX0 (5 * S + 1) fa fda ["kinds", "kind", "size"] (spE K (pre_all S) R_all) → FnOk P w K mg base CX0 (5 * S + 4) fp fdp ["kinds", "names", "size"] (spE K (pre_partsA S) R_parts) := by
    intro S ga
    have ca : Cl P w K mg base (5 * S + 1) "_law_all" (spE K (pre_all S) R_all) := ⟨fa, fda, _, ga, ma, Fa.kp, ba⟩
    have p0 : FnOk P w K mg base CX0 (5 * S + 2) fp fdp ["kinds", "names", "size"] (spE K (pre_parts 0 S) R_parts) := parts_main (pc := fun _ => False) (by decide) Fp M ca (clE_mono dp (Nat.zero_le _)) fun m' z => nomatch z
    have c0 : Cl P w K mg base (5 * S + 2) "_law_all_parts" (spE K (pre_parts 0 S) R_parts) := ⟨fp, fdp, _, p0, mp, Fp.kp, bp⟩
    have p1 : FnOk P w K mg base CX0 (5 * S + 3) fp fdp ["kinds", "names", "size"] (spE K (pre_parts 1 S) R_parts) := parts_main (by decide) Fp M (clE_mono ca (by omega)) c0 fun m' z => by cases z; rfl
    have c1 : Cl P w K mg base (5 * S + 3) "_law_all_parts" (spE K (pre_parts 1 S) R_parts) := ⟨fp, fdp, _, p1, mp, Fp.kp, bp⟩
    have p2 : FnOk P w K mg base CX0 (5 * S + 4) fp fdp ["kinds", "names", "size"] (spE K (pre_parts 2 S) R_parts) := parts_main (by decide) Fp M (clE_mono ca (by omega)) c1 fun m' z => by cases z; rfl
    refine ok_partsA fun m hm => ?_
    match m, hm with
    | 0, _ => exact p0.mono (by omega)
    | 1, _ => exact p1.mono (by omega)
    | 2, _ => exact p2
  intro S
  induction S with
  | zero =>
    intro _
    have ga : FnOk P w K mg base CX0 (5 * 0 + 1) fa fda ["kinds", "kind", "size"] (spE K (pre_all 0) R_all) := all_main (pc := fun _ => False) (pp := fun _ => False) (by decide) Fa M dc dp fun S' z => nomatch z
    have ca : Cl P w K mg base 1 "_law_all" (spE K (pre_all 0) R_all) := ⟨fa, fda, _, ga, ma, Fa.kp, ba⟩
    exact ⟨ga, cells_main (pc := fun _ => False) Fc M ca (clE_mono dc (Nat.zero_le _)) (fun T' z => nomatch z), parts 0 ga⟩
  | succ S ih =>
    intro hS
    obtain ⟨ga, gc, gp⟩ := ih (by omega)
    have cc : Cl P w K mg base (5 * S + 2) "_law_all_cells" (spE K (pre_cells S) R_cells) := ⟨fc, fdc, _, gc, mc, Fc.kp, bc⟩
    have cp : Cl P w K mg base (5 * S + 4) "_law_all_parts" (spE K (pre_partsA S) R_parts) := ⟨fp, fdp, _, gp, mp, Fp.kp, bp⟩
    have ga' : FnOk P w K mg base CX0 (5 * S + 5) fa fda ["kinds", "kind", "size"] (spE K (pre_all (S + 1)) R_all) := all_main hS Fa M (clE_mono cc (by omega)) cp fun S' z => by cases z; exact ⟨rfl, rfl⟩
    have ga2 : FnOk P w K mg base CX0 (5 * (S + 1) + 1) fa fda ["kinds", "kind", "size"] (spE K (pre_all (S + 1)) R_all) := ga'.mono (by omega)
    have ca : Cl P w K mg base (5 * (S + 1) + 1) "_law_all" (spE K (pre_all (S + 1)) R_all) := ⟨fa, fda, _, ga2, ma, Fa.kp, ba⟩
    exact ⟨ga2, cells_main Fc M ca (clE_mono cc (by omega)) (fun T' z => by cases z; rfl), parts (S + 1) ga2⟩
/-- the drawing of patterns by the depth: 0, 1, 2 -/
theorem ok_pats2 {fq fs : Addr} {fdq fds : FuncData} (Fq : Fun K "_law_pattern" "_law_pattern" s_lpattern fq fdq) (Fs : Fun K "_law_patterns" "_law_patterns" s_lpatterns fs fds) (M : Bl mg) (mq : mg "_law_pattern" = some (.ref fq)) (ms : mg "_law_patterns" = some (.ref fs)) (cd : CD1 P w K mg base) (co : Cl P w K mg base 3 "_law_one_of" (spP K pre_one R_one 1)) :
    FnOk P w K mg base CX0 8 fq fdq ["purse", "kinds", "kind", "deep"] (spP K (pre_pat 2) (R_pat 2) (cpat 2)) := by
  have bq : Binds K fdq ["purse", "kinds", "kind", "deep"] [] := Fq.binds (ps := ["purse", "kinds", "kind", "deep"]) fun _ _ _ _ _ _ us hl => match us, hl with | [_, _, _, _], _ => rfl
  have bs : Binds K fds ["purse", "kinds", "names", "deep"] [] := Fs.binds (ps := ["purse", "kinds", "names", "deep"]) fun _ _ _ _ _ _ us hl => match us, hl with | [_, _, _, _], _ => rfl
  have q0 : Cl P w K mg base 4 "_law_pattern" (spP K (pre_pat 0) (R_pat 0) (cpat 0)) := ⟨fq, fdq, _, ok_lpattern0 Fq M cd co, mq, Fq.kp, bq⟩
  have s0 : Cl P w K mg base 5 "_law_patterns" (spP K (pre_pats 0) (R_pats 0) (3 * cpat 0)) := ⟨fs, fds, _, ok_lpatterns (by have := cpat_pos 0; omega) Fs q0, ms, Fs.kp, bs⟩
  have q1 : Cl P w K mg base 6 "_law_pattern" (spP K (pre_pat 1) (R_pat 1) (cpat 1)) := ⟨fq, fdq, _, ok_lpatternS (n := 0) (by decide) Fq M cd co s0 s0, mq, Fq.kp, bq⟩
  have s1 : Cl P w K mg base 7 "_law_patterns" (spP K (pre_pats 1) (R_pats 1) (3 * cpat 1)) := ⟨fs, fds, _, ok_lpatterns (by have := cpat_pos 1; omega) Fs q1, ms, Fs.kp, bs⟩
  exact ok_lpatternS (n := 1) (by decide) Fq M cd co s1 (clE_mono s0 (by decide))
end
end FM
/-! _law_long_right -/
namespace FN
open PySem PySem.Spec PyProof.Rows L2 FC FG FP FJ FM
open Evl (Ex)
theorem Drawn.baseK {nms : List Str} {b : Str} {kvs : List (Str × PyData)} (dr : Drawn nms b kvs) : BaseK kvs b := by
  have hb := dr.base
  have e := dr.keys
  have f := dr.first
  cases kvs with
  | nil => exact absurd e.symm dr.ne
  | cons q rest =>
    rw [← e] at f
    obtain rfl : q.1 = b := by simpa using f
    refine ⟨q.2, ?_, hb q rfl⟩
    unfold FC.look
    rw [List.find?_cons, decide_eq_true rfl]
    rfl
theorem Drawn.hasV {nms : List Str} {b c : Str} {kvs : List (Str × PyData)} (dr : Drawn nms b kvs) (hc : c ∈ nms) : ∃ s, s < 3 ∧ HasV kvs c (s + 1) := by
  obtain ⟨d, hd, fi⟩ := dr.look hc
  rcases fi with h | ⟨c', hc', rfl⟩ | ⟨ms, rfl, ok⟩
  · exact ⟨0, by decide, d, hd, .inl ⟨h, rfl⟩⟩
  · exact ⟨0, by decide, _, hd, .inr (.inl ⟨c', rfl, rfl⟩)⟩
  · obtain ⟨m, hm, hx⟩ := ok.built
    refine ⟨m.2.length, by have := (ok.parts m hm).1; omega, _, hd, .inr (.inr ⟨ms, rfl, m, hm, fun x h => ?_, rfl⟩)⟩
    rw [hx x h]
    exact Drawn.baseK dr
section
variable {K : PySem.W.Frag} {p : Addr} {G : List (Option PyData)} {te : TE} {φ : PyData → Prop}
theorem dp_ofX (h : DX K te G φ) : DP K p te G 0 φ := fun σ B H n s _ Q q => h σ B H s.x s.en Q fun v B' H' d g r f => q v B' H' d (.of g s.nb s.pu) r f (by rw [Int.add_zero]; exact s.pu.ex g.eh)
/-- what is handed back when nothing more is drawn -/
theorem dps_bl {b : Bool} {k : Int} (pk : 0 ≤ k) : DPS K p (tRet (tC (.bl b))) G k (fun d => d = .bool b) := dps_up (dps_ret (dp_of de_bl)) pk
end
def pre_long : List PyData → Prop := fun ds => ∃ nms b kvs k, ∃ cs : List (PyData × Str), ds = [dictU kvs, .str k, .list (cs.map clauseD)] ∧ Drawn nms b kvs ∧ k ∈ nms ∧ ClausesOk kvs k cs ∧ cs.length ≤ 3
def R_true : List PyData → PyData → Prop := fun _ d => d = .bool true
section
variable {P : Program} {w : World} {K : PySem.W.Frag} {mg : Str → Option Value} {base : Heap} {f : Addr} {fd : FuncData} {p : Addr}
theorem sc_llong : FnScope ["purse", "kinds", "kind", "clauses", "cells", "size", "turn", "row", "spot"] ["purse", "kinds", "kind", "clauses"] (defScope s_llong_right) := ⟨rfl, rfl, rfl, by decide +kernel, rfl, by decide +kernel, by decide +kernel⟩
theorem ok_llong (F : Fun K "_law_long_right" "_law_long_right" s_llong_right f fd) (M : Bl mg) (cd : CD1 P w K mg base) (co : Cl P w K mg base 3 "_law_one_of" (spP K pre_one R_one 1)) (ca : Cl P w K mg base 16 "_law_all" (spE K (pre_all 3) R_all)) (cv : ClG P w K mg base 13 "_law_value_right" (spR K Rw_value_right)) : GOk P w K mg base 17 f fd ["purse", "kinds", "kind", "clauses"] (spP K pre_long R_true 40) := by
  refine okG F sc_llong (spP_len (by rintro _ ⟨_, _, _, _, _, rfl, _⟩; rfl)) (fun cdv A outer s0 H vs Q E hgu hr h => ?_)
  obtain ⟨p, us, B, ds, n, rfl, x, nb, rr, pu, n0, hn, ⟨nms, b, kvs, k, cs, rfl, dr, hk, hc, hc3⟩, q⟩ := h
  have hu := hu_of hr
  have hu64 : (A.deeper (envOfC "_law_long_right" (defScope s_llong_right) s0.heap.objs.size f cdv)).units + 64 < cLine := by have := hr.un; omega
  have nd := sc_llong.nd
  obtain ⟨d, hd, fi⟩ := dr.look hk
  refine ⟨_, pss_cons (ps_if (pt_cmpR (op_neD hu64) (pe_ix ix_tup (pe_dget hu (pv 1) (pv 2) (fun _ _ => rfl)) pe_int (fun _ _ => rfl)) pe_str (nomark _)) (pss_one (ps_ret pe_bl)) pss_nil)
    (pss_cons (ps_set (i := 4) nd rfl (Or.inr rfl) (pe_lst pa_nil))
    (pss_cons (ps_for PassesOwn.never rfl (pi_range2 (by rfl) M.range (pa_cons pe_int (pa_cons pe_int pa_nil))) (pg_name (i := 5) nd rfl (Or.inl rfl))
      (pss_one (ps_set (i := 4) nd rfl (Or.inr rfl) (pe_op (r := rCatL K) op_catL (pv 4) (pe_cl ca hr (by decide) (by rfl) (pa_cons (pv 1) (pa_cons (pe_ix ix_tup (pe_dget hu (pv 1) (pv 2) (fun _ _ => rfl)) pe_int (fun _ _ => rfl)) (pa_cons (pv 5) pa_nil))))))))
    (pss_cons (ps_for PassesOwn.never rfl (pi_range1 (by rfl) M.range (pa_cons pe_int pa_nil)) (pg_name (i := 6) nd rfl (Or.inl rfl))
      (pss_cons (ps_setLc (i := 7) (own := [("spot", 8)]) (g := gName 8) (tt := tYes) (te := tCall (spP K pre_one R_one 1) [] E0 (tCons (tVar 0) (tCons (tVar 4) tNil))) rfl nd rfl rfl (sw_true rfl rfl rfl rfl) (pi_range1 (by rfl) M.range (pa_cons (pe_op op_add pe_int (pe_cl cd hr (by decide) (by rfl) (pa_cons (pv 0) (pa_cons pe_int pa_nil)))) pa_nil)) (blkOk_by (N := ["purse", "kinds", "kind", "clauses", "cells", "size", "turn", "row", "spot"]) (sc := defScope s_llong_right) (by decide +kernel)) (fun _ _ _ _ _ => pg_name (i := 8) nd rfl (Or.inl rfl)) (fun _ _ _ _ _ => pts_nil)
        (fun _ _ _ _ _ => pe_cl co hr (by decide) (by rfl) (pa_cons (pv 0) (pa_cons (pv 4) pa_nil))))
      (pss_one (ps_if (pt_not (pt_val (pe_clG cv hgu hr (by decide) (by rfl) (pa_cons (pv 1) (pa_cons (pv 2) (pa_cons (pv 3) (pa_cons (pv 7) pa_nil))))))) pss_never pss_nil))))
    (pss_one (ps_ret pe_bl))))), ?_⟩
  refine fin_P (φ := fun d => d = .bool true) ?_ x nb rr pu hn fun v B' H' d g r f pu' => q v B' H' d g r f pu'
  show DPS K p _ [none, some (dictU kvs), some (.str k), some (.list (cs.map clauseD)), none, none, none, none, none] 40 _
  have fin : ∀ {ts : TS} {a : Str} {es : List PyData}, d = .tuple (.str a :: es) → SeqAt.shaped (.str a) = true → (!(a == "rows")) = true → DPS K p (tSeq (tIfS (tTest (tOp (rNeD K) (tOp (rIxT K) (tDGet (tVar 1) (tVar 2)) (tC (.int 0))) (tC (.str "rows")))) (tRet (tC (.bl true))) tNext) ts) [none, some (dictU kvs), some (.str k), some (.list (cs.map clauseD)), none, none, none, none, none] 40 (fun d => d = .bool true) := fun e hs he => by
    subst e
    exact dps_up (dps_guard (k1 := 0) (k2 := 40) (dpt_of (b := true) (dt_is (dt_headN (de_dget (de_ofU (de_var rfl)) (de_var rfl) hd) hs) he)) (fun _ => dps_bl (by decide)) (fun z => nomatch z) (by decide)) (by decide)
  rcases fi with (⟨ws, rfl, ne, nd', few, nm⟩ | ⟨lo, hi, rfl, hle, hlo, hhi, h2⟩) | ⟨c, hcn, rfl⟩ | ⟨ms, rfl, ok⟩
  · exact fin rfl (by decide +kernel) (by decide +kernel)
  · exact fin rfl (by decide +kernel) (by decide +kernel)
  rotate_left
  · exact fin rfl (by decide +kernel) (by decide +kernel)
  let Gc : List PyData → Option PyData → Option PyData → Option PyData → List (Option PyData) := fun cl x5 x6 x7 => [none, some (dictU kvs), some (.str k), some (.list (cs.map clauseD)), some (.list cl), x5, x6, x7, none]
  have v1 : ∀ {cl a b e}, DE K (tVar 1) (Gc cl a b e) (dictU kvs) := de_var rfl
  have v2 : ∀ {cl a b e}, DE K (tVar 2) (Gc cl a b e) (.str k) := de_var rfl
  have v3 : ∀ {cl a b e}, DE K (tVar 3) (Gc cl a b e) (.list (cs.map clauseD)) := de_var rfl
  have v4 : ∀ {cl a b e}, DE K (tVar 4) (Gc cl a b e) (.list cl) := de_var rfl
  refine dps_up (dps_guard (k1 := 0) (k2 := 40) (dpt_of (b := false) (dt_is (dt_headN (de_dget (de_ofU (de_var rfl)) (de_var rfl) hd)) (by decide +kernel))) (fun z => nomatch z) (fun _ => ?_) (by decide)) (by decide)
  refine dps_up (dps_set (k1 := 0) (k2 := 40) (by decide) (dp_of (de_lst da_nil rfl (by decide))) (fun d' e => ?_) (by decide)) (by decide)
  subst e
  show DPS K p _ (Gc [] none none none) 40 _
  obtain ⟨sz, hsz, hv⟩ := Drawn.hasV dr hcn
  -- the cells
  refine dps_up (dps_seq (k1 := 0 + ((3 : Nat) : Int) * 0) (k2 := 40) (dpn_for (nm := 3) (k2 := 0) (fun m ff i G' => ∃ cl x5, G' = Gc cl x5 none none ∧ cl.length ≤ i * 27 ∧ (∀ v ∈ cl, OkVal kvs 3 c v) ∧ (sz < i → cl ≠ [])) (dpi_of (di_range2 (lo := 1) (hi := 4) (da_cons de_int (da_cons de_int da_nil)) (by decide) (by decide) (by decide) (by decide))) (by decide) (by decide) (fun m ff h => by obtain ⟨rfl, _⟩ := h; decide) (fun m ff h => ⟨[], none, rfl, Nat.zero_le _, (fun _ h => nomatch h), fun z => by omega⟩) (fun m ff i G' h hi hG => ?_)) (fun G' hG => ?_) (by decide)) (by decide)
  · obtain ⟨rfl, rfl⟩ := h
    have hi : i < 3 := hi
    obtain ⟨cl, x5, rfl, hl, hcl, hne⟩ := hG
    have e5 : (1 : Int) + (i : Nat) = ((i + 1 : Nat) : Int) := by omega
    show DPN K p _ (Gc cl (some (.int (1 + (i : Nat)))) none none) 0 _
    rw [e5]
    refine dpn_imp (dpn_set (by decide) (dp_ofX (dx_op (ρ := fun z => ∃ vs : List PyData, z = .list (cl ++ vs) ∧ vs.length ≤ aB (i + 1) ∧ (∀ v ∈ vs, OkVal kvs (i + 1) c v) ∧ (HasV kvs c (i + 1) → vs ≠ [])) (dx_of v4) (dx_imp (φ := fun d => ∃ vs, d = .list vs ∧ vs.length ≤ aB (i + 1) ∧ (∀ v ∈ vs, OkVal kvs (i + 1) c v) ∧ (HasV kvs c (i + 1) → vs ≠ [])) (dx_call (dxa_of (da_cons v1 (da_cons (de_at (j := 1) (de_dget (de_ofU v1) v2 hd) rfl rfl) (da_cons (de_var (d := .int ((i + 1 : Nat) : Int)) rfl) da_nil)))) ?_) ?_) ?_))) ?_
    · rintro ds rfl
      exact ⟨nms, b, kvs, c, i + 1, rfl, dr, hcn, by omega⟩
    · rintro d ⟨ds, rfl, kvs', c', s', vs, e, rfl, hl, hv, hx⟩
      have e1 := dictU_inj (List.cons.inj e).1
      have e2 := PyData.str.inj (List.cons.inj (List.cons.inj e).2).1
      have e3 := PyData.int.inj (List.cons.inj (List.cons.inj (List.cons.inj e).2).2).1
      have e3 : i + 1 = s' := by omega
      subst e1 e2 e3
      exact ⟨vs, rfl, hl, hv, hx⟩
    · rintro d e rfl ⟨vs, rfl, hl2, hv2, hx2⟩
      refine ⟨_, ⟨vs, rfl, hl2, hv2, hx2⟩, fun B H v w x r1 r2 Q q => ?_⟩
      have h4 := @aB_le (i + 1)
      have r1 := r1.dp rfl
      have r2 := r2.dp rfl
      cases r1 with
      | @lst a1 as1 _ hs1 ha1 =>
      cases r2 with
      | @lst a2 as2 _ hs2 ha2 =>
      have l1 := dps_len ha1
      have l2 := dps_len ha2
      refine ⟨_, _, _, _, rfl, rfl, ex_l x hs1, ex_l x hs2, Nat.le_trans (show _ ≤ 100000 by omega) (by decide), fun p hp => ?_⟩
      have g3 := Go.new x hp (o := .lst (as1 ++ as2))
      exact q _ _ _ g3 (.d (.lst (.inl (.inl upd_same)) (dps_ex g3.eb _ _ (dps_append ha2 ha1))))
    · rintro G3 ⟨d, ⟨vs, rfl, hl2, hv2, hx2⟩, rfl⟩
      have ha : aB (i + 1) ≤ 27 := (by decide : ∀ i : Fin 3, aB (i.val + 1) ≤ 27) ⟨i, hi⟩
      refine ⟨cl ++ vs, some (.int ((i + 1 : Nat) : Int)), rfl, ?_, fun v h => ?_, fun hs z => ?_⟩
      · rw [List.length_append]
        omega
      · rcases List.mem_append.mp h with h | h
        · exact hcl v h
        · exact OkVal.mono (hv2 v h) (by omega)
      · obtain ⟨z1, z2⟩ := List.append_eq_nil_iff.mp z
        by_cases e : sz = i
        · subst e
          exact hx2 hv z2
        · exact hne (by omega) z1
  obtain ⟨m, ff, ⟨rfl, rfl⟩, cl, x5, rfl, hl, hcl, hne⟩ := hG
  have hl : cl.length ≤ 81 := hl
  have hne : cl ≠ [] := hne hsz
  have hl1 : 1 ≤ cl.length := List.length_pos_iff.mpr hne
  -- the rows
  have one : ∀ {E : XK} {x6 x7 x8 : Option PyData}, DP K p (tCall (spP K pre_one R_one 1) [] E (tCons (tVar 0) (tCons (tVar 4) tNil))) [none, some (dictU kvs), some (.str k), some (.list (cs.map clauseD)), some (.list cl), x5, x6, x7, x8] 1 (fun d => FC.plain d = true ∧ OkVal kvs 3 c d) := fun {E x6 x7 x8} => by
    refine dp_up (dp_imp (dp_one (φ := fun xs => xs = cl) (dp_imp (dp_of (de_var (d := .list cl) rfl)) ?_) (Int.le_refl 0)) ?_) (by decide)
    · rintro d rfl
      exact ⟨cl, rfl, hl1, by omega, rfl⟩
    · rintro z ⟨xs, rfl, hz⟩
      exact ⟨(hcl z hz).plain, hcl z hz⟩
  refine dps_up (dps_seq (k1 := 0 + ((4 : Nat) : Int) * 8) (k2 := 0) (dpn_for (nm := 4) (k2 := 8) (fun m ff i G' => ∃ x6 x7, G' = Gc cl x5 x6 x7) (dpi_of (di_range (m := 4) (da_cons de_int da_nil) (by decide) (by decide))) (by decide) (by decide) (fun m ff h => by obtain ⟨rfl, _⟩ := h; decide) (fun m ff h => ⟨none, none, rfl⟩) (fun m ff i G' h hi hG => ?_)) (fun G' hG => dps_bl (Int.le_refl 0)) (by decide)) (by decide)
  obtain ⟨rfl, rfl⟩ := h
  obtain ⟨x6, x7, rfl⟩ := hG
  show DPN K p _ (Gc cl x5 (some (.int (i : Nat))) x7) 8 _
  refine dpn_up (dpn_seq (k1 := 8) (k2 := 0) (ψ1 := fun G' => ∃ row : List PyData, G' = Gc cl x5 (some (.int (i : Nat))) (some (.list row)) ∧ row.length ≤ 9 ∧ ∀ v ∈ row, OkVal kvs 3 c v) (dpn_imp (dpn_set (by decide) (dp_up (dp_lc (k := 1) (k2 := 1) (nm := 7) (ψ := fun _ _ _ d => OkVal kvs 3 c d) (χ := fun m ff => (m : Int) ≤ 7 ∧ ff = fun i G2 => G2.set 8 (some (.int (i : Nat)))) (dpi_range (φ := fun m => m ≤ 7) (dpa_imp (dpa_cons (dp_opI dp_int (dp_drawI (dp_of de_int) (Int.le_refl 0) (by decide) (by decide)) (Int.le_refl 0) (by decide)) dpa_nil (by decide) (by decide)) ?_)) (by decide) (by decide) (by decide) ?_ (by decide) ?_) (by decide))) ?_) (fun G' hG => ?_) (by decide)) (by decide)
  · rintro ds ⟨d, es, rfl, ⟨r, rfl, ⟨a, b', rfl, ⟨b0, b1⟩, rfl⟩⟩, rfl⟩
    exact ⟨_, rfl, by omega, by omega, by omega⟩
  · rintro n ff ⟨h, _⟩
    omega
  · rintro n ff i' ⟨h, rfl⟩ hi'
    exact one
  · rintro G' ⟨d, ⟨n, ff, ds, ⟨h, _⟩, rfl, hlen, hψ⟩, rfl⟩
    refine ⟨ds, rfl, by omega, fun v hv => ?_⟩
    obtain ⟨j, hj, e⟩ := List.getElem_of_mem hv
    exact hψ j v (by rw [List.getElem?_eq_getElem hj, e])
  · obtain ⟨row, rfl, hr9, hrow⟩ := hG
    have okr : OkVal kvs 4 k (.list row) := .row hd hr9 hrow
    refine dpn_up (dpn_if (k1 := 0) (k2 := 0) (dpt_of (b := false) (dt_is (dt_not (dt_B (de_call' (da_cons v1 (da_cons v2 (da_cons v3 (da_cons (de_var (d := .list row) rfl) da_nil)))) ⟨kvs, k, cs, 4, .list row, rfl, dr.ok, hc, okr, Nat.le_refl 4, shows_note dr hc hc3 (Nat.le_refl 4) okr, rfl⟩))) rfl)) (fun z => nomatch z) (fun _ => dpn_imp dpn_next fun G' e => ⟨_, _, e⟩) (by decide)) (by decide)
end
end FN
/-! _law_five_right -/
namespace FN
open PySem PySem.Spec PyProof.Rows L2 FC FG FP FJ FM
open Evl (Ex)
section
variable {X : Cx} {k j : Nat} {x : Str} {sp : Sp} {p pos : Pos}
theorem pe_cl0 (c : Cl X.prog X.w X.K X.mg X.base k x sp) (hr : Room j X.A) (hk : k ≤ j) (hg : Gl X x) (hdb : (x == ("__debug__" : Str)) = false := by decide) : PE X (.Call (.Name x p) [] [] pos) (tCall sp [] E0 tNil) := by
  obtain ⟨f, fd, ps, F, hm, kp, b⟩ := c.ex
  exact pe_call0 F (hr.mono hk) hg hm kp b .nil pass0 hdb
end
section
variable {K : PySem.W.Frag} {G : List (Option PyData)}
theorem de_disp1 {te : TE} {k : Str} {d : PyData} (h : DE K te G d) (hp : plain d = true) : DE K (tDisp [(tC (.str k), te)]) G (dictU [(k, d)]) := fun σ B H x en Q q => fun p hp0 => by
  have g0 : Go B H B (upd H p (.dK [])) := Go.own x hp0
  have nb : B p = none := sub_none x hp0
  refine h σ B _ g0.sub en _ fun v B1 H1 g1 r1 => ?_
  have e1 : H1 p = some (.dK []) := g1.eh p _ upd_same
  have nb1 : B1 p = none := g1.fr p _ upd_same nb
  refine ⟨e1, [(Sum.inr k, v)], rfl, by show 1 ≤ 15; decide, ?_⟩
  have em : mergeK [] [((Sum.inr k : Key), v)] = [((Sum.inr k : Key), v)] := rfl
  rw [em]
  have gg : Go B H (upd B1 p (.dK [(Sum.inr k, v)])) (upd H1 p (.dK [(Sum.inr k, v)])) := by
    have g2 := g0.trans g1
    refine ⟨g2.eb.trans (Evl.Ex.new nb1), Evl.Ex.mut g2.eh hp0, fun a o e => ?_, fun a o e na => ?_⟩
    · by_cases ha : a = p
      · subst ha
        rw [upd_same] at e ⊢
        exact e
      · rw [upd_ne ha] at e ⊢
        exact g1.sub a o e
    · have ha : a ≠ p := by
        intro z
        subst z
        rw [hp0] at e
        cases e
      rw [upd_ne ha]
      exact g2.fr a o e na
  refine q _ _ _ gg (.dictU upd_same (.cons ⟨rfl, dp_ex (Evl.Ex.new nb1) _ _ (r1.dp hp)⟩ .nil) (by simp))
theorem rd_ixS {z s : Str} {i : Int} {c : Nat} (hl : z.length ≤ sizeLine) (h : atI z.cps.toList i = some c) (hs : s = ⟨#[c]⟩) : RD K rIxS (.str z) (.int i) (.str s) := fun B H v w x r1 r2 Q q => by
  cases rt_str r1
  cases rt_int r2
  subst hs
  exact ⟨z, i, c, rfl, rfl, hl, h, q _ B H (.refl x) (.d (.str _))⟩
end
def kvs5 : List (Str × PyData) := [("num", numsD 0 9)]
theorem kinds5 : KindsOk kvs5 where
  ne := by decide
  few := by decide
  nm := fun q hq => by
    cases hq with
    | head => show isNameS "num" = true; decide +kernel
    | tail _ h => cases h
  fm := fun q hq => by
    cases hq with
    | head => exact .nums (by decide)
    | tail _ h => cases h
  nd := by simp [kvs5]
  hv := by decide +kernel
theorem look5 : look kvs5 "num" = some (numsD 0 9) := by
  unfold look kvs5
  simp
def let5 (i : Nat) : Str := (["a", "b", "c", "d"] : List Str).getD i Str.empty
def fiveC (i : Nat) : PyData × Str := (fromD (.int (i : Nat)) (.int (i : Nat)), let5 i)
def cs5 : List (PyData × Str) := [fiveC 0, fiveC 1, fiveC 2, fiveC 3, (.none, "rest")]
theorem clauses5 : ClausesOk kvs5 "num" cs5 where
  pat := fun c hc => by
    simp only [cs5, List.mem_cons, List.not_mem_nil, or_false] at hc
    rcases hc with rfl | rfl | rfl | rfl | rfl
    · exact .range look5 rfl rfl
    · exact .range look5 rfl rfl
    · exact .range look5 rfl rfl
    · exact .range look5 rfl rfl
    · exact .any 2 _
  nm := by decide +kernel
  few := by decide
def told5 : PyData := .list [.tuple [.int 0, .str "a"], .tuple [.int 1, .str "b"], .tuple [.int 2, .str "c"], .tuple [.int 3, .str "d"], .tuple [.int 4, .str "rest"], .tuple [.int 4, .str "rest"]]
def R_five : List PyData → PyData → Prop := fun ds d => ds = [] ∧ d = .bool true
section
variable {P : Program} {w : World} {K : PySem.W.Frag} {mg : Str → Option Value} {base : Heap} {f : Addr} {fd : FuncData}
theorem sc_lfive : FnScope ["kinds", "clauses", "told", "at", "value"] [] (defScope s_lfive_right) := ⟨rfl, rfl, rfl, by decide +kernel, rfl, by decide +kernel, by decide +kernel⟩
theorem ok_lfive (F : Fun K "_law_five_right" "_law_five_right" s_lfive_right f fd) (M : Bl mg) (ct : CL P w K mg base 11 "taker" Rw_taker) (cb : CL P w K mg base 12 "label" Rw_label) : FnOk P w K mg base CX0 13 f fd [] (spR K R_five) := by
  refine F.ok sc_lfive (spR_len (by rintro _ _ ⟨rfl, _⟩; rfl)) (fun cdv A outer s H vs Q E hr h => ?_)
  obtain ⟨B, ds, o, x, r, ⟨rfl, rfl⟩, q⟩ := h
  have hu64 : (A.deeper (envOfC "_law_five_right" (defScope s_lfive_right) s.heap.objs.size f cdv)).units + 64 < cLine := by have := hr.un; omega
  have nd := sc_lfive.nd
  refine ⟨_, pss_cons (ps_set (i := 0) nd rfl (Or.inr rfl) (pe_disp (pps_cons pe_str (pe_tup (pa_cons pe_str (pa_cons pe_int (pa_cons pe_int pa_nil)))) pps_nil) rfl rfl (by simp) (by show 1 ≤ 15; decide)))
    (pss_cons (ps_set (i := 1) nd rfl (Or.inr rfl) (pe_op (r := rCatL K) op_catL (pe_lc (own := [("at", 3)]) (g := gName 3) (tt := tYes) (te := tTup (tCons (tTup (tCons (tC (.str "from")) (tCons (tVar 3) (tCons (tVar 3) tNil)))) (tCons (tOp rIxS (tC (.str "abcde")) (tVar 3)) tNil))) rfl nd (pi_range1 (by rfl) M.range (pa_cons pe_int pa_nil)) (blkOk_by (N := ["kinds", "clauses", "told", "at", "value"]) (sc := defScope s_lfive_right) (by decide +kernel)) (fun _ _ _ _ _ => pg_name (i := 3) nd rfl (Or.inl rfl)) (fun _ _ _ _ _ => pts_nil)
        (fun _ _ _ _ _ => pe_tup (pa_cons (pe_tup (pa_cons pe_str (pa_cons (pv 3) (pa_cons (pv 3) pa_nil)))) (pa_cons (pe_ix (r := rIxS) ix_str pe_str (pv 3) (fun _ _ => rfl)) pa_nil))))
      (pe_lst (pa_cons (pe_tup (pa_cons pe_non (pa_cons pe_str pa_nil))) pa_nil))))
    (pss_cons (ps_setLc (i := 2) (own := [("value", 4)]) (g := gName 4) (tt := tYes) (te := tTup (tCons (tCall (spR K Rw_taker) [] E0 (tCons (tVar 0) (tCons (tC (.str "num")) (tCons (tVar 1) (tCons (tVar 4) tNil))))) (tCons (tCall (spR K Rw_label) [] E0 (tCons (tVar 0) (tCons (tC (.str "num")) (tCons (tVar 1) (tCons (tVar 4) tNil))))) tNil))) rfl nd rfl rfl (sw_true rfl rfl rfl rfl) (pi_range1 (by rfl) M.range (pa_cons pe_int pa_nil)) (blkOk_by (N := ["kinds", "clauses", "told", "at", "value"]) (sc := defScope s_lfive_right) (by decide +kernel)) (fun _ _ _ _ _ => pg_name (i := 4) nd rfl (Or.inl rfl)) (fun _ _ _ _ _ => pts_nil)
        (fun _ _ _ _ _ => pe_tup (pa_cons (pe_cl ct hr (by decide) (by rfl) (pa_cons (pv 0) (pa_cons pe_str (pa_cons (pv 1) (pa_cons (pv 4) pa_nil))))) (pa_cons (pe_cl cb hr (by decide) (by rfl) (pa_cons (pv 0) (pa_cons pe_str (pa_cons (pv 1) (pa_cons (pv 4) pa_nil))))) pa_nil))))
    (pss_one (ps_ret (pe_cmpR (op_eqD hu64) (pv 2) (pe_lst (pa_cons (pe_tup (pa_cons pe_int (pa_cons pe_str pa_nil))) (pa_cons (pe_tup (pa_cons pe_int (pa_cons pe_str pa_nil))) (pa_cons (pe_tup (pa_cons pe_int (pa_cons pe_str pa_nil))) (pa_cons (pe_tup (pa_cons pe_int (pa_cons pe_str pa_nil))) (pa_cons (pe_tup (pa_cons pe_int (pa_cons pe_str pa_nil))) (pa_cons (pe_tup (pa_cons pe_int (pa_cons pe_str pa_nil))) pa_nil))))))) (nomark _)))))), ?_⟩
  refine fin_rt ?_ x r q
  show DS K _ [none, none, none, none, none] _
  refine ds_seq (ds_set (de_disp1 (k := "num") (d := numsD 0 9) (de_tup (da_cons de_str (da_cons de_int (da_cons de_int da_nil))) rfl (by show 3 ≤ 1000; decide)) rfl)) ?_
  show DS K _ [some (dictU kvs5), none, none, none, none] _
  have key : ∀ i : Fin 4, ∃ c, atI ("abcde" : Str).cps.toList ((i.val : Nat) : Int) = some c ∧ let5 i.val = ⟨#[c]⟩ := fun i => by
    have h := (by decide +kernel : ∀ i : Fin 4, atI ("abcde" : Str).cps.toList ((i.val : Nat) : Int) = some (97 + i.val) ∧ let5 i.val = ⟨#[97 + i.val]⟩) i
    exact ⟨_, h.1, h.2⟩
  refine ds_seq (ds_set (d := .list (cs5.map clauseD)) (de_is (de_ofX (de_cat (de_lc (fun _ => true) (fun i => clauseD (fiveC i)) (di_range (m := 4) (da_cons de_int da_nil) (by decide) (by decide)) (by decide) (fun _ _ => dt_yes) (fun i hi _ => ?_) (fun _ _ _ => rfl) (by decide)) (de_lst (da_cons (de_tup (da_cons de_non (da_cons de_str da_nil)) rfl (by show 2 ≤ 1000; decide)) da_nil) rfl (by show 1 ≤ 1000; decide)) (by decide))) rfl)) ?_
  · show DE K _ [some (dictU kvs5), none, none, some (.int (i : Nat)), none] _
    obtain ⟨c, h1, h2⟩ := key ⟨i, hi⟩
    exact de_tup (da_cons (de_tup (da_cons de_str (da_cons (de_var rfl) (da_cons (de_var rfl) da_nil))) rfl (by show 3 ≤ 1000; decide)) (da_cons (de_op de_str (de_var (d := .int (i : Nat)) rfl) (rd_ixS (by decide) h1 h2)) da_nil)) rfl (by show 2 ≤ 1000; decide)
  show DS K _ [some (dictU kvs5), some (.list (cs5.map clauseD)), none, none, none] _
  refine ds_seq (ds_set (d := told5) (de_is (de_lc (fun _ => true) (fun i => .tuple [takeN (.int (i : Nat)) cs5, labN (.int (i : Nat)) cs5]) (di_range (m := 6) (da_cons de_int da_nil) (by decide) (by decide)) (by decide) (fun _ _ => dt_yes) (fun i hi _ => ?_) (fun _ _ _ => rfl) (by decide)) ?_)) ?_
  · show DE K _ [some (dictU kvs5), some (.list (cs5.map clauseD)), none, none, some (.int (i : Nat))] _
    have hi : i < 6 := hi
    have ov : OkVal kvs5 4 "num" (.int (i : Nat)) := .num look5 (by omega) (by omega)
    have pl : [takeN (.int (i : Nat)) cs5, labN (.int (i : Nat)) cs5].all plain = true := by
      rcases takeN_shape (.int (i : Nat)) clauses5.few with h | ⟨j, h, _⟩ <;> rcases labN_shape (.int (i : Nat)) clauses5.nm with h2 | ⟨j2, h2, _⟩ <;> rw [h, h2] <;> rfl
    exact de_tup (da_cons (de_call' (da_cons (de_var rfl) (da_cons de_str (da_cons (de_var rfl) (da_cons (de_var rfl) da_nil)))) ⟨kvs5, "num", cs5, 4, _, rfl, kinds5, clauses5, ov, Nat.le_refl 4, rfl⟩) (da_cons (de_call' (da_cons (de_var rfl) (da_cons de_str (da_cons (de_var rfl) (da_cons (de_var rfl) da_nil)))) ⟨kvs5, "num", cs5, 4, _, rfl, kinds5, clauses5, ov, Nat.le_refl 4, rfl⟩) da_nil)) pl (by show 2 ≤ 1000; decide)
  · rfl
  show DS K _ [some (dictU kvs5), some (.list (cs5.map clauseD)), some told5, none, none] _
  have sh : SeqAt.shaped told5 = true := by decide +kernel
  have e2 : ∀ {i : Int} {s : Str}, DE K (tTup (tCons (tC (.int i)) (tCons (tC (.str s)) tNil))) [some (dictU kvs5), some (.list (cs5.map clauseD)), some told5, none, none] (.tuple [.int i, .str s]) := de_tup (da_cons de_int (da_cons de_str da_nil)) rfl (by show 2 ≤ 1000; decide)
  refine ds_ret (de_is (de_op (de_var (d := told5) rfl) (e := told5) (de_lst (da_cons e2 (da_cons e2 (da_cons e2 (da_cons e2 (da_cons e2 (da_cons e2 da_nil)))))) rfl (by show 6 ≤ 1000; decide)) (rd_eq sh sh rfl rfl)) ?_)
  exact congrArg PyData.bool (by decide +kernel)
end
end FN
/-! Data logic with a purse in slot 2. -/
namespace FN
open PySem PySem.Spec PyProof.Rows L2 FC FG FP FJ FM
open Evl (Ex)
structure StQ (K : PySem.W.Frag) (p : Addr) (B H : Hp) (σ : L2.St) (G : List (Option PyData)) (n : Int) : Prop where
  x : Ex B H
  nb : B p = none
  en : En K B σ G
  pu : Purse H n p
  sl : σ[2]? = some (some (V.ref p))
section
variable {K : PySem.W.Frag} {p : Addr} {B H B1 H1 : Hp} {σ : L2.St} {G : List (Option PyData)} {n m : Int}
theorem StQ.go (s : StQ K p B H σ G n) (g : GoP p B H B1 H1) (pu : Purse H1 m p) : StQ K p B1 H1 σ G m := ⟨g.sub, g.np, s.en.ex g.eb, pu, s.sl⟩
theorem StQ.set {v : V} {d : PyData} {i : Nat} (s : StQ K p B H σ G n) (hi : i ≠ 2) (r : Rt K B v d) : StQ K p B H (σ.set i (some v)) (G.set i (some d)) n := ⟨s.x, s.nb, s.en.set i r, s.pu, by rw [List.getElem?_set_ne hi]; exact s.sl⟩
theorem StQ.same {B' H' : Hp} {σ' : L2.St} {G' : List (Option PyData)} {vs : List Nat} (s : StQ K p B H σ G n) (g : Go B H B' H') (en : En K B' σ' G') (h : 2 ∉ vs) (hw : L2.wipe σ' vs = L2.wipe σ vs) : StQ K p B' H' σ' G' n := by
  have gp : GoP p B H B' H' := .of g s.nb s.pu
  exact ⟨gp.sub, gp.np, en, s.pu.ex g.eh, by rw [← wipe_get (vs := vs) h, hw, wipe_get h]; exact s.sl⟩
end
section
variable (K : PySem.W.Frag) (p : Addr)
def DQ (te : TE) (G : List (Option PyData)) (k : Int) (φ : PyData → Prop) : Prop :=
  ∀ σ B H n, StQ K p B H σ G n → n + k ≤ LIM → ∀ Q : VK, (∀ v B' H' d, GoP p B H B' H' → Rt K B' v d → φ d → Purse H' (n + k) p → Q v H') → te σ H Q
def DQT (tt : TT) (G : List (Option PyData)) (k : Int) (φ : Bool → Prop) : Prop :=
  ∀ σ B H n, StQ K p B H σ G n → n + k ≤ LIM → ∀ Q : Bool → Hp → Prop, (∀ b B' H', GoP p B H B' H' → φ b → Purse H' (n + k) p → Q b H') → tt σ H Q
def DQN (ts : TS) (G : List (Option PyData)) (k : Int) (ψ : List (Option PyData) → Prop) : Prop :=
  ∀ D σ B H n, StQ K p B H σ G n → n + k ≤ LIM → (∀ σ' B' H' G', GoP p B H B' H' → ψ G' → StQ K p B' H' σ' G' (n + k) → D.nx σ' H') → ts D σ H
end
section
variable {K : PySem.W.Frag} {p : Addr} {G : List (Option PyData)} {ta tb te : TE} {tt : TT} {t1 t2 ts : TS} {k k1 k2 : Int} {φ φ1 : PyData → Prop}
theorem dq_of {d : PyData} (h : DE K te G d) : DQ K p te G 0 (fun e => e = d) := fun σ B H n s _ Q q => h σ B H s.x s.en Q fun v B' H' g r => q v B' H' d (.of g s.nb s.pu) r rfl (by rw [Int.add_zero]; exact s.pu.ex g.eh)
theorem dq_ofX (h : DX K te G φ) : DQ K p te G 0 φ := fun σ B H n s _ Q q => h σ B H s.x s.en Q fun v B' H' d g r f => q v B' H' d (.of g s.nb s.pu) r f (by rw [Int.add_zero]; exact s.pu.ex g.eh)
theorem dq_imp (h : DQ K p te G k φ1) (e : ∀ d, φ1 d → φ d) : DQ K p te G k φ := fun σ B H n s l Q q => h σ B H n s l Q fun v B' H' d g r f pu => q v B' H' d g r (e d f) pu
theorem dqt_of {b : Bool} (h : DT K tt G b) : DQT K p tt G 0 (fun e => e = b) := fun σ B H n s _ Q q => h σ B H s.x s.en Q fun B' H' g => q b B' H' (.of g s.nb s.pu) rfl (by rw [Int.add_zero]; exact s.pu.ex g.eh)
theorem dqt_not (h : DQ K p te G k (fun d => d = .bool true)) : DQT K p (tNot (tB te)) G k (fun b => b = false) := fun σ B H n s l Q q => h σ B H n s l _ fun v B' H' d g r e pu => by
  subst e
  exact ⟨true, rt_bool r, q false B' H' g rfl pu⟩
/-- a call that is given the purse first, and data -/
theorem dq_call {tr : TA} {ds : List PyData} {pre : List PyData → Prop} {R : List PyData → PyData → Prop} {E : XK} (h : DA K tr G ds) (hp : pre ds) : DQ K p (tCall (spP K pre R k) [] E (tCons (tVar 2) tr)) G k (fun z => R ds z) := fun σ B H n s l Q q => by
  refine ⟨V.ref p, s.sl, ?_⟩
  refine h σ B H s.x s.en _ fun vs B1 H1 g1 r1 => ?_
  show spP K pre R k ((V.ref p :: vs) ++ []) H1 Q E
  rw [List.append_nil]
  have gp : GoP p B H B1 H1 := .of g1 s.nb s.pu
  exact ⟨p, vs, B1, ds, n, rfl, g1.sub, gp.np, r1, s.pu.ex g1.eh, n_pos s.pu, l, hp, fun v B' H' d g r hR pu => q v B' H' d (gp.trans g (s.pu.ex g1.eh) s.nb) r hR pu⟩
theorem dqn_set {i : Nat} (hi : i ≠ 2) (h : DQ K p te G k φ) : DQN K p (tAsg te (gName i)) G k (fun G' => ∃ d, φ d ∧ G' = G.set i (some d)) := fun D σ B H n s l q =>
  h σ B H n s l _ fun v B1 H1 d g1 r1 f1 pu1 => q _ B1 H1 _ g1 ⟨d, f1, rfl⟩ ((s.go g1 pu1).set hi r1)
theorem dqn_seq {ψ1 ψ2 : List (Option PyData) → Prop} (h : DQN K p t1 G k1 ψ1) (hr : ∀ G', ψ1 G' → DQN K p t2 G' k2 ψ2) (p2 : 0 ≤ k2) : DQN K p (tSeq t1 t2) G (k1 + k2) ψ2 := fun D σ B H n s l q =>
  h _ σ B H n s (by omega) fun σ1 B1 H1 G1 g1 f1 s1 => hr G1 f1 D σ1 B1 H1 (n + k1) s1 (by omega) fun σ2 B2 H2 G2 g2 f2 s2 => q σ2 B2 H2 G2 (g1.trans g2 s1.pu s.nb) f2 (by rw [← Int.add_assoc]; exact s2)
theorem dqn_up {ψ : List (Option PyData) → Prop} (h : DQN K p ts G k1 ψ) (e : k1 ≤ k) : DQN K p ts G k ψ := fun D σ B H n s l q => h D σ B H n s (by omega) fun σ' B' H' G' g f s' => q σ' B' H' G' g f ⟨s'.x, s'.nb, s'.en, s'.pu.up (by omega), s'.sl⟩
theorem dqn_imp {ψ1 ψ2 : List (Option PyData) → Prop} (h : DQN K p ts G k ψ1) (e : ∀ G', ψ1 G' → ψ2 G') : DQN K p ts G k ψ2 := fun D σ B H n s l q => h D σ B H n s l fun σ' B' H' G' g f s' => q σ' B' H' G' g (e G' f) s'
/-- if .. : never; a test that is false for sure -/
theorem dqn_never {β : Bool → Prop} (h : DQT K p tt G k β) (hb : ∀ b, β b → b = false) : DQN K p (tIfS tt t1 tNext) G k (fun G' => G' = G) := fun D σ B H n s l q =>
  h σ B H n s l _ fun b B1 H1 g1 f1 pu1 => by
    obtain rfl := hb b f1
    rw [if_neg Bool.false_ne_true]
    exact q σ B1 H1 G g1 rfl (s.go g1 pu1)
theorem dqn_for {wi : TI} {g : TG} {T : List Nat} {m : Nat} {ff : Nat → List (Option PyData) → List (Option PyData)} {tb : TS} (I : Nat → List (Option PyData) → Prop) (hi : DI K wi g T G m ff) (h2 : 2 ∉ T) (p2 : 0 ≤ k) (h0 : I 0 G)
    (hs : ∀ i G', i < m → I i G' → DQN K p tb (ff i G') k (I (i + 1))) : DQN K p (tFor wi g tb) G (m * k) (I m) := fun D σ B H n s l q => by
  have pn := n_pos s.pu
  refine hi σ B H s.x s.en _ fun J B1 H1 Y g1 W turn => ?_
  have gp1 : GoP p B H B1 H1 := .of g1 s.nb s.pu
  have pu1 := s.pu.ex g1.eh
  have s1 := s.go gp1 pu1
  refine for_it W (fun i σ' H' => ∃ B' G', GoP p B1 H1 B' H' ∧ I i G' ∧ StQ K p B' H' σ' G' (n + i * k)) ⟨B1, G, .refl gp1.sub gp1.np, h0, ?_⟩ (fun i σ' H' _ ⟨B', G', p', _, _⟩ => p'.eb.trans p'.sub) (fun i y σ2 H2 H3 hil ⟨B2, G2, p2', hI, s2⟩ hy => ?_) (fun σ2 H2 ⟨B2, G2, p2', hI, s2⟩ => q σ2 B2 H2 G2 (gp1.trans p2' pu1 s.nb) hI s2)
  · have : n + ((0 : Nat) : Int) * k = n := by simp
    rw [this]
    exact s1
  · refine turn i hil B2 H2 σ2 G2 y H3 p2'.eb p2'.sub s2.en hy _ fun σ' B3 H4 g3 en3 hw => ?_
    have s3 := s2.same g3 en3 h2 (hw T fun _ h => h)
    have lim : n + (i : Int) * k + k ≤ LIM := by
      have h1 : ((i : Int) + 1) * k ≤ (m : Int) * k := Int.mul_le_mul_of_nonneg_right (by omega) p2
      rw [Int.add_mul, Int.one_mul] at h1
      omega
    have e : n + ((i + 1 : Nat) : Int) * k = n + (i : Int) * k + k := by
      rw [Int.natCast_add, Int.add_mul]
      simp
      omega
    refine hs i G2 hil hI _ σ' B3 H4 _ s3 lim fun σ5 B5 H5 G5 g5 hI5 s5 => ?_
    have gp3 : GoP p B2 H2 B3 H4 := .of g3 s2.nb s2.pu
    exact ⟨B5, G5, (p2'.trans gp3 s2.pu gp1.np).trans g5 s3.pu gp1.np, hI5, by rw [e]; exact s5⟩
theorem ints_of {B : Hp} : ∀ {ns : List Int} {vs : List V}, DpAll K B vs (ns.map PyData.int) → vs = ns.map V.int
  | [], _, h => by cases h; rfl
  | _ :: ns, _, h => by
    cases h with
    | cons h1 h2 =>
      cases h1
      rw [ints_of h2]
      rfl
theorem ints_dp {B : Hp} : ∀ (ns : List Int), DpAll K B (ns.map V.int) (ns.map PyData.int)
  | [] => .nil
  | n :: ns => .cons (.int n) (ints_dp ns)
/-- purse = _law_purse(script, cell), and what is done with it -/
theorem dxn_purse {E : XK} {ns : List Int} {i : Nat} {ψ : List (Option PyData) → Prop} (h0 : G[0]? = some (some (.list (ns.map .int)))) (h1 : G[1]? = some (some (.int (i : Nat)))) (hi : i ≤ 1000) (hl : 2 < G.length) (hk : 0 ≤ k) (hk2 : k ≤ 1000000) (h : ∀ p, DQN K p ts (G.set 2 none) k ψ) :
    DXN K (tSeq (tAsg (tCall (spPurse K) [] E (tCons (tVar 0) (tCons (tVar 1) tNil))) (gName 2)) ts) G ψ := fun D σ B H x en q => by
  obtain ⟨v0, hv0, r0⟩ := en.get 0 _ h0
  obtain ⟨v1, hv1, r1⟩ := en.get 1 _ h1
  cases rt_int r1
  have r0 := r0.dp rfl
  cases r0 with
  | @lst a us _ hs hus =>
  obtain rfl := ints_of hus
  refine ⟨.ref a, hv0, .int (i : Nat), hv1, ?_⟩
  refine ⟨a, ns, (i : Nat), rfl, ex_l x hs, by omega, by omega, fun p H1 e1 hp pu => ?_⟩
  have nb : B p = none := sub_none x hp
  have hlen := en.len
  have s1 : StQ K p B H1 (σ.set 2 (some (.ref p))) (G.set 2 none) (1000 * (i : Nat)) := ⟨x.trans e1, nb, en.setN 2, pu, List.getElem?_set_self (by omega)⟩
  refine h p D _ B H1 _ s1 (by show 1000 * (i : Int) + k ≤ 9000000; omega) fun σ' B' H' G' g f s' => ?_
  refine q σ' B' H' G' ⟨g.eb, fun b o hb => g.eh b o (fun e => by rw [e, hp] at hb; cases hb) (e1 b o hb), g.sub, fun a o ha hb => g.fr a o (e1 a o ha) hb⟩ f s'.en
def cutD (xs : List PyData) (lo hi : Option Int) : List PyData := (xs.drop (HT.sIx xs.length 0 lo)).take (HT.sIx xs.length xs.length hi - HT.sIx xs.length 0 lo)
theorem cutD_mem {xs : List PyData} {lo hi : Option Int} {x : PyData} (h : x ∈ cutD xs lo hi) : x ∈ xs := List.mem_of_mem_drop (List.mem_of_mem_take h)
/-- a[i:j] of a list -/
theorem de_cut {tl th : TE} {ds : List PyData} {i j : Int} (h : DE K te G (.list ds)) (hl : DE K tl G (.int i)) (hh : DE K th G (.int j)) : DE K (tSl (rSlL K) te (tPart tl) (tPart th)) G (.list (cutD ds (some i) (some j))) := fun σ B H x en Q q =>
  h σ B H x en _ fun v B1 H1 g1 r1 => hl σ B1 H1 g1.sub (en.ex g1.eb) _ fun w B2 H2 g2 r2 => by
    refine ⟨i, rt_int r2, ?_⟩
    refine hh σ B2 H2 g2.sub ((en.ex g1.eb).ex g2.eb) _ fun w3 B3 H3 g3 r3 => ?_
    refine ⟨j, rt_int r3, ?_⟩
    have r1 := ((r1.ex g2.eb).ex g3.eb).dp rfl
    cases r1 with
    | @lst a xs _ hs ha =>
    refine ⟨a, xs, rfl, ex_l g3.sub hs, fun p hp => ?_⟩
    have g4 := Go.new g3.sub hp (o := .lst (cutV xs (some i) (some j)))
    refine q _ _ _ (g1.trans (g2.trans (g3.trans g4))) (.d (.lst (.inl (.inl upd_same)) (dps_ex g4.eb _ _ ?_)))
    unfold cutV cutD
    rw [← dps_len ha]
    exact dps_take _ (dps_drop _ ha)
end
end FN
/-! The law. -/
namespace FN
open PySem PySem.Spec PyProof.Rows L2 FC FG FP FJ FM
open Evl (Ex)
def spLaw (K : PySem.W.Frag) : Sp := fun vs H Q _ => ∃ (a : Addr) (ns : List Int), vs = [.ref a] ∧ SqL K H a (ns.map V.int) ∧ ns.length ≤ 63 ∧ ∀ H', Q (.bl true) H'
section
variable {P : Program} {w : World} {K : PySem.W.Frag} {mg : Str → Option Value} {base : Heap} {f : Addr}
theorem sc_law : FnScope ["script", "cell", "purse", "kinds", "kind", "clauses", "size", "values", "start", "value"] ["script"] (defScope s_law) := ⟨rfl, rfl, rfl, by decide +kernel, rfl, by decide +kernel, by decide +kernel⟩
theorem law_body (M : Bl mg) (c5 : CL P w K mg base 13 "_law_five_right" R_five) (cpu : Cl P w K mg base 1 "_law_purse" (spPurse K)) (cks : Cl P w K mg base 5 "_law_kinds" (spP K (fun ds => ds = []) R_kinds 300)) (ck : Cl P w K mg base 3 "_law_kind" (spP K pre_kind R_kind 2)) (ccl : Cl P w K mg base 9 "_law_clauses" (spP K pre_clauses R_clauses 1000)) (clr : ClG P w K mg base 17 "_law_long_right" (spP K pre_long R_true 40)) (ca : Cl P w K mg base 21 "_law_all" (spE K (pre_all 4) R_all)) (cd : CD1 P w K mg base) (cv : ClG P w K mg base 13 "_law_value_right" (spR K Rw_value_right))
    (cdv : Value) (A : Around) (hg : A.guards = some []) (outer : List Env) (s : Shared) (H : Hp) (vs : List V) (Q : VK) (E : XK) (hr : Room 21 (A.deeper (envOfC "law" (defScope s_law) s.heap.objs.size f cdv))) (h : spLaw K vs H Q E) :
    ∃ t, PSs (cxOf CX0 P w K mg base ["script", "cell", "purse", "kinds", "kind", "clauses", "size", "values", "start", "value"] "law" (defScope s_law) f cdv A outer s H E).nox (defBody s_law) t ∧ t { nx := fun _ H' => Q .non H', rt := Q } (L2.start ["script", "cell", "purse", "kinds", "kind", "clauses", "size", "values", "start", "value"] vs) H := by
  obtain ⟨a, ns, rfl, hS, hlen, q⟩ := h
  have nd := sc_law.nd
  have hgu : (A.deeper (envOfC "law" (defScope s_law) s.heap.objs.size f cdv)).guards = some [] := guards_deeper hg
  refine ⟨_, pss_cons (ps_if (pt_not (pt_val (pe_cl0 c5 hr (by decide) (by rfl)))) pss_never pss_nil)
    (pss_cons (ps_for PassesOwn.never rfl (pi_range1 (by rfl) M.range (pa_cons (pe_callB (r := rMax2) (call_max2 rfl) (by rfl) M.max PyProof.Rows.boot_max (pa_cons pe_int (pa_cons (pe_callB call_lenR (by rfl) M.len PySem.boot_len (pa_cons (pe_slice sl_list (pv 0) po_none (po_some pe_int)) pa_nil)) pa_nil))) pa_nil)) (pg_name (i := 1) nd rfl (Or.inl rfl))
      (pss_cons (ps_set (i := 2) nd rfl (Or.inl rfl) (pe_cl cpu hr (by decide) (by rfl) (pa_cons (pv 0) (pa_cons (pv 1) pa_nil))))
      (pss_cons (ps_set (i := 3) nd rfl (Or.inl rfl) (pe_cl cks hr (by decide) (by rfl) (pa_cons (pv 2) pa_nil)))
      (pss_cons (ps_set (i := 4) nd rfl (Or.inl rfl) (pe_cl ck hr (by decide) (by rfl) (pa_cons (pv 2) (pa_cons (pv 3) pa_nil))))
      (pss_cons (ps_set (i := 5) nd rfl (Or.inl rfl) (pe_cl ccl hr (by decide) (by rfl) (pa_cons (pv 2) (pa_cons (pv 3) (pa_cons (pv 4) (pa_cons pe_int pa_nil))))))
      (pss_cons (ps_if (pt_not (pt_val (pe_clG clr hgu hr (by decide) (by rfl) (pa_cons (pv 2) (pa_cons (pv 3) (pa_cons (pv 4) (pa_cons (pv 5) pa_nil))))))) pss_never pss_nil)
      (pss_one (ps_for PassesOwn.never rfl (pi_range2 (by rfl) M.range (pa_cons pe_int (pa_cons pe_int pa_nil))) (pg_name (i := 6) nd rfl (Or.inl rfl))
        (pss_cons (ps_set (i := 7) nd rfl (Or.inl rfl) (pe_cl ca hr (by decide) (by rfl) (pa_cons (pv 3) (pa_cons (pv 4) (pa_cons (pv 6) pa_nil)))))
        (pss_cons (ps_set (i := 8) nd rfl (Or.inl rfl) (pe_cl cd hr (by decide) (by rfl) (pa_cons (pv 2) (pa_cons (pe_callB (r := rMax2) (call_max2 rfl) (by rfl) M.max PyProof.Rows.boot_max (pa_cons pe_int (pa_cons (pe_op op_sub (pe_callB call_lenR (by rfl) M.len PySem.boot_len (pa_cons (pv 7) pa_nil)) pe_int) pa_nil))) pa_nil))))
        (pss_one (ps_for PassesOwn.never rfl (pi_list (pe_slice sl_list (pv 7) (po_some (pv 8)) (po_some (pe_op op_add (pv 8) pe_int)))) (pg_name (i := 9) nd rfl (Or.inl rfl))
          (pss_one (ps_if (pt_not (pt_val (pe_clG cv hgu hr (by decide) (by rfl) (pa_cons (pv 3) (pa_cons (pv 4) (pa_cons (pv 5) (pa_cons (pv 9) pa_nil))))))) pss_never pss_nil))))))))))))))
    (pss_one (ps_ret pe_bl))), ?_⟩
  have r0 : RtA K H [.ref a] [.list (ns.map PyData.int)] := .cons (.d (.lst hS (ints_dp ns))) .nil
  refine fin_X (φ := fun d => d = .bool true) ?_ (Evl.Ex.refl H) r0 fun v B' H' d g r f => by
    subst f
    rw [rt_bool r]
    exact q H'
  let S : Option PyData := some (.list (ns.map PyData.int))
  show DXS K _ [S, none, none, none, none, none, none, none, none, none] _
  refine dxs_guard (β := fun b => b = false) (dxt_of (b := false) (dt_is (dt_not (dt_B (de_call' (R := R_five) da_nil ⟨rfl, rfl⟩))) rfl)) (fun z => nomatch z) fun _ => ?_
  have hm : ∃ m : Int, 1 ≤ m ∧ m ≤ 12 ∧ DA K (tCons (tCB rMax2 (tCons (tC (.int 1)) (tCons (tCB (FC.rLen K) (tCons (tSl (rSlL K) (tVar 0) tNoPart (tPart (tC (.int 12)))) tNil)) tNil))) tNil) [S, none, none, none, none, none, none, none, none, none] [.int m] := by
    refine ⟨_, ?_, ?_, da_cons (de_cb (da_cons de_int (da_cons (de_cb (da_cons (de_ofX (de_to (n := 12) (de_var (d := .list (ns.map .int)) rfl) de_int rfl)) da_nil) cd_lenL) da_nil)) cd_max2) da_nil⟩
    · split <;> omega
    · have : ((ns.map PyData.int).take 12).length ≤ 12 := by rw [List.length_take]; omega
      split <;> omega
  obtain ⟨m, m1, m2, hm⟩ := hm
  refine dxs_seq (dxn_for (fun i G' => ∃ x1 x3 x4 x5 x6 x7 x8 x9, G' = [S, x1, none, x3, x4, x5, x6, x7, x8, x9]) (di_range hm (by omega) (by omega)) ⟨_, _, _, _, _, _, _, _, rfl⟩ fun i G' hi hG => ?_) fun G' hG => dxs_ret (dx_of de_bl)
  obtain ⟨x1, x3, x4, x5, x6, x7, x8, x9, rfl⟩ := hG
  refine dxn_purse (ns := ns) (i := i) (k := 300 + (2 + (1000 + (40 + ((4 : Nat) : Int) * 1)))) rfl rfl (by omega) (by show 2 < 10; decide) (by decide) (by decide) fun p => ?_
  show DQN K p _ [S, some (.int (i : Nat)), none, x3, x4, x5, x6, x7, x8, x9] _ _
  refine dqn_seq (dqn_set (by decide) (dq_call da_nil rfl)) (fun G1 hG1 => ?_) (by decide)
  obtain ⟨d, ⟨nms, b, kvs, rfl, dr⟩, rfl⟩ := hG1
  show DQN K p _ [S, some (.int (i : Nat)), none, some (dictU kvs), x4, x5, x6, x7, x8, x9] _ _
  have hkl : kvs.length ≤ 4 := by
    have := dr.few
    rw [← dr.keys, List.length_map] at this
    exact this
  have hkn : kvs ≠ [] := fun z => dr.ne (by rw [← dr.keys, z]; rfl)
  refine dqn_seq (dqn_set (by decide) (dq_call (da_cons (de_var (d := dictU kvs) rfl) da_nil) ⟨kvs, rfl, hkn, by omega⟩)) (fun G1 hG1 => ?_) (by decide)
  obtain ⟨d, ⟨kvs', k, e, rfl, hk⟩, rfl⟩ := hG1
  have e1 := dictU_inj (List.cons.inj e).1
  subst e1
  rw [dr.keys] at hk
  show DQN K p _ [S, some (.int (i : Nat)), none, some (dictU kvs), some (.str k), x5, x6, x7, x8, x9] _ _
  refine dqn_seq (dqn_set (by decide) (dq_call (da_cons (de_var (d := dictU kvs) rfl) (da_cons (de_var (d := .str k) rfl) (da_cons de_int da_nil))) ⟨nms, b, kvs, k, rfl, dr, hk⟩)) (fun G1 hG1 => ?_) (by decide)
  obtain ⟨d, ⟨kvs', k', cs, e, rfl, hc, hc3⟩, rfl⟩ := hG1
  have e1 := dictU_inj (List.cons.inj e).1
  have e2 := PyData.str.inj (List.cons.inj (List.cons.inj e).2).1
  subst e1 e2
  let Gl : Option PyData → Option PyData → Option PyData → Option PyData → List (Option PyData) := fun x6 x7 x8 x9 => [S, some (.int (i : Nat)), none, some (dictU kvs), some (.str k), some (.list (cs.map clauseD)), x6, x7, x8, x9]
  have v3 : ∀ {a b c d}, DE K (tVar 3) (Gl a b c d) (dictU kvs) := de_var rfl
  have v4 : ∀ {a b c d}, DE K (tVar 4) (Gl a b c d) (.str k) := de_var rfl
  have v5 : ∀ {a b c d}, DE K (tVar 5) (Gl a b c d) (.list (cs.map clauseD)) := de_var rfl
  show DQN K p _ (Gl x6 x7 x8 x9) _ _
  refine dqn_seq (dqn_never (dqt_not (dq_imp (dq_call (da_cons v3 (da_cons v4 (da_cons v5 da_nil))) ⟨nms, b, kvs, k, cs, rfl, dr, hk, hc, hc3⟩) fun d e => e)) fun b e => e) (fun G1 hG1 => ?_) (by decide)
  subst hG1
  refine dqn_imp (dqn_for (m := 4) (fun j G' => ∃ x6 x7 x8 x9, G' = Gl x6 x7 x8 x9) (di_range2 (lo := 1) (hi := 5) (da_cons de_int (da_cons de_int da_nil)) (by decide) (by decide) (by decide) (by decide)) (by decide) (by decide) ⟨_, _, _, _, rfl⟩ fun j G' hj hG => ?_) fun G' hG => by
    obtain ⟨x6, x7, x8, x9, rfl⟩ := hG
    exact ⟨_, _, _, _, _, _, _, _, rfl⟩
  obtain ⟨x6, x7, x8, x9, rfl⟩ := hG
  have e6 : (1 : Int) + (j : Nat) = ((j + 1 : Nat) : Int) := by omega
  show DQN K p _ (Gl (some (.int (1 + (j : Nat)))) x7 x8 x9) _ _
  rw [e6]
  refine dqn_up (dqn_seq (k1 := 0) (k2 := 1) (dqn_set (by decide) (dq_ofX (dx_imp (φ := fun d => ∃ vs, d = .list vs ∧ vs.length ≤ aB (j + 1) ∧ ∀ v ∈ vs, OkVal kvs 4 k v) (dx_call (dxa_of (da_cons v3 (da_cons v4 (da_cons (de_var (d := .int ((j + 1 : Nat) : Int)) rfl) da_nil)))) ?_) ?_))) (fun G1 hG1 => ?_) (by decide)) (by decide)
  · rintro ds rfl
    exact ⟨nms, b, kvs, k, j + 1, rfl, dr, hk, by omega⟩
  · rintro d ⟨ds, rfl, kvs', c', s', vs, e, rfl, hl, hv, _⟩
    have e1 := dictU_inj (List.cons.inj e).1
    have e2 := PyData.str.inj (List.cons.inj (List.cons.inj e).2).1
    have e3 := PyData.int.inj (List.cons.inj (List.cons.inj (List.cons.inj e).2).2).1
    have e3 : j + 1 = s' := by omega
    subst e1 e2 e3
    exact ⟨vs, rfl, hl, fun v h => OkVal.mono (hv v h) (by omega)⟩
  obtain ⟨d, ⟨vs, rfl, hl, hv⟩, rfl⟩ := hG1
  have h162 := @aB_le (j + 1)
  show DQN K p _ (Gl (some (.int ((j + 1 : Nat) : Int))) (some (.list vs)) x8 x9) _ _
  refine dqn_up (dqn_seq (k1 := 1) (k2 := 0) (dqn_set (by decide) (dq_call (da_cons (de_cb (da_cons de_int (da_cons (de_op (de_cb (da_cons (de_var (d := .list vs) rfl) da_nil) cd_lenL) de_int rd_sub) da_nil)) cd_max2) da_nil) ⟨_, rfl, ?_, ?_⟩)) (fun G1 hG1 => ?_) (by decide)) (by decide)
  · split <;> omega
  · split <;> omega
  obtain ⟨d, ⟨m', r, e, rfl, hr0, hr1⟩, rfl⟩ := hG1
  show DQN K p _ (Gl (some (.int ((j + 1 : Nat) : Int))) (some (.list vs)) (some (.int r)) x9) _ _
  let es : List PyData := cutD vs (some r) (some (r + 40))
  refine dqn_up (k1 := (es.length : Int) * 0) (dqn_imp (dqn_for (m := es.length) (k := 0) (fun l G' => ∃ x9, G' = Gl (some (.int ((j + 1 : Nat) : Int))) (some (.list vs)) (some (.int r)) x9) (di_list (de_cut (de_var (d := .list vs) rfl) (de_var (d := .int r) rfl) (de_op (de_var (d := .int r) rfl) de_int rd_add))) (by decide) (Int.le_refl 0) ⟨_, rfl⟩ fun l G' hl' hG => ?_) fun G' hG => by
    obtain ⟨x9, rfl⟩ := hG
    exact ⟨_, _, _, _, rfl⟩) (by omega)
  obtain ⟨x9, rfl⟩ := hG
  show DQN K p _ (Gl (some (.int ((j + 1 : Nat) : Int))) (some (.list vs)) (some (.int r)) es[l]?) _ _
  rw [List.getElem?_eq_getElem hl']
  have okv := hv _ (cutD_mem (List.getElem_mem hl'))
  exact dqn_imp (dqn_never (dqt_of (b := false) (dt_is (dt_not (dt_B (de_call' (da_cons v3 (da_cons v4 (da_cons v5 (da_cons (de_var (d := es[l]) rfl) da_nil)))) ⟨kvs, k, cs, 4, es[l], rfl, dr.ok, hc, okv, Nat.le_refl 4, shows_note dr hc hc3 (Nat.le_refl 4) okv, rfl⟩))) rfl)) fun b e => e) fun G' e => ⟨_, e⟩
end
end FN
/-! The law's call at the caller (as in KX10). -/
namespace FN
open PySem PySem.Spec PyProof.Rows L2 FC FP
open Evl (Ex)
section
variable {P : Program} {w : World} {K : PySem.W.Frag} {mg mb : Str → Option Value} {fa a : Addr} {sp : Sp} {s₁ : Shared} {vs : List Value} {ns : List Int}
/-- the law's call, from its promise at the caller's place alone -/
theorem call_at (KX : K.In s₁.heap) (n1 : s₁.heap.Ns mainGlobals mg) (n2 : s₁.heap.Ns builtinsNs mb) (n3 : ∀ x : Str, x ≠ "__name__" → mb x = bootBuiltins x) (n4 : s₁.heap.NoLimit) (n5 : s₁.gens = #[])
    (la : s₁.heap.get? a = some { cls := .type "list", data := .seq vs.toArray }) (hi : IntsAre vs ns) (hl : ns.length ≤ sizeLine)
    (F : ∀ (base : Heap) (H : Hp), K.In base → base.Ns mainGlobals mg → Env0 P w K mg base callerA [] s₁ H → sp [.ref a] H (fun v _ => v = .bl true) E0 → codeAny (model P w) callerA (.call (.ref fa) ⟨[.ref a], []⟩) (CR CX0 [] P w H s₁ (fun v _ => v = .bl true) E0) s₁)
    (hs : ∀ H : Hp, SqL K H a (ns.map V.int) → sp [.ref a] H (fun v _ => v = .bl true) E0) :
    codeAny (model P w) callerA (.call (.ref fa) ⟨[.ref a], []⟩) (fun r s' => r = .ok (.ret (.bool true)) ∧ OldK s₁.heap s'.heap ∧ s'.os = s₁.os ∧ AllBare s'.gens) s₁ := by
  have rv := vals_ints hi
  have lv := hi.length
  have main : ∀ H : Hp, Only H → SqL K H a (ns.map V.int) → HOk P w H s₁.heap → (∀ b, H b ≠ none → b = a) → (H a ≠ none → K.lookup a = none) →
      codeAny (model P w) callerA (.call (.ref fa) ⟨[.ref a], []⟩) (fun r s' => r = .ok (.ret (.bool true)) ∧ OldK s₁.heap s'.heap ∧ s'.os = s₁.os ∧ AllBare s'.gens) s₁ := by
    intro H q1 q2 q3 q4 q5
    have nd : ∀ {b : Addr} {o : Obj} {es : Array DictEntry} {ep : Nat}, s₁.heap.get? b = some o → o.data = .dict es ep → H b = none := by
      intro b o es ep e1 e2
      cases z : H b with
      | none => rfl
      | some u =>
        exfalso
        have e3 : b = a := q4 b (by rw [z]; intro y; cases y)
        subst e3
        rw [la] at e1
        cases e1
        have e4 : Data.seq vs.toArray _ = Data.dict es ep := e2
        cases e4
    have nk : ∀ {b : Addr} {m : Str → Option Value}, s₁.heap.Ns b m → (hidT s₁.heap H).Ns b m := fun {b m} y => by
      obtain ⟨o, es, ep, e1, e2, e3⟩ := y
      exact ⟨o, es, ep, hidT_get e1 (nd e1 e2), e2, e3⟩
    have kb : K.In (hidT s₁.heap H) := fun b o e => hidT_get (KX b o e) (by
      cases z : H b with
      | none => rfl
      | some u =>
        exfalso
        have e3 : b = a := q4 b (by rw [z]; intro y; cases y)
        subst e3
        rw [q5 (by rw [z]; intro y; cases y)] at e
        cases e)
    obtain ⟨mc, l1, l2⟩ := n4
    have m0 : Mod K mg (hidT s₁.heap H) := ⟨kb, nk n1, ⟨mb, nk n2, n3⟩, ⟨mc, nk l1, l2⟩⟩
    have ev : Env0 P w K mg (hidT s₁.heap H) callerA [] s₁ H := ⟨rfl, m0, fun b o e => of_hidT e, Nat.le_of_eq (hidT_size _ _), trivial, fun b hb => absurd (show b ∈ ([] : List Addr) from hb) (by simp), q3, .of_eq n5⟩
    refine codeAny_mono (F _ H kb (nk n1) ev (hs H q2)) fun r s' h => ?_
    cases r with
    | error e => exact h.elim
    | ok fl =>
      cases fl with
      | next => exact h.elim
      | brk => exact h.elim
      | cont => exact h.elim
      | ret u =>
        obtain ⟨v, H', os, bare, un, ok', rel, qv⟩ := h
        have qv : v = .bl true := qv
        subst qv
        obtain rfl : u = Value.bool true := rel
        refine ⟨rfl, OldK.of_keep fun b o e => ?_, os, bare⟩
        cases z : H b with
        | none => exact un.keep b o e z (by intro y; exact absurd (show b ∈ ([] : List Addr) from y) (by simp)) (by simp)
        | some u =>
          rcases q1 b with y | ⟨ob, xs, y⟩
          · rw [z] at y
            cases y
          · obtain ⟨e1, _⟩ := q3 b _ y
            obtain ⟨e2, _⟩ := ok' b _ (un.frzs b ob _ y)
            rw [e] at e1
            cases e1
            exact e2
  cases hk : K.lookup a with
  | some o =>
    have e := KX a o hk
    rw [la] at e
    cases e
    refine main (fun _ => none) (fun _ => Or.inl rfl) (Or.inr ⟨_, vs.toArray, _, hk, rfl, rfl, rfl, ?_, by simpa using rv⟩) (fun b u z => by cases (show (none : Option HO) = some u from z)) (fun b z => absurd rfl z) (fun z => absurd rfl z)
    rw [List.size_toArray, lv]
    exact hl
  | none =>
    refine main (fun b => if b = a then some (.frz { cls := .type "list", data := .seq vs.toArray } (.lst (ns.map V.int))) else none) (fun b => ?_) (Or.inl (Or.inr ⟨_, if_pos rfl⟩)) (fun b u z => ?_) (fun b z => ?_) fun _ => hk
    · by_cases hb : b = a
      · exact Or.inr ⟨_, _, if_pos hb⟩
      · exact Or.inl (if_neg hb)
    · by_cases hb : b = a
      · have y := (if_pos hb).symm.trans z
        cases y
        subst hb
        refine ⟨la, ?_⟩
        exact ⟨by rw [List.length_map]; exact hl, vs, _, rv, la⟩
      · cases (if_neg hb).symm.trans z
    · by_cases hb : b = a
      · exact hb
      · exact absurd (if_neg hb) z
end
end FN
namespace FN
open PySem PySem.Spec PyProof.Rows L2 FC FG FP FJ FM
open Evl (Ex)
/-! ### the end -/
/-- where a def stands, as the top has left it -/
structure At (K : PySem.W.Frag) (x : Str) (st : Stmt) (f : Addr) : Prop where
  ex : ∃ (oc : Value) (od an : Option Addr) (sl : Array (Option Value)) (kV dc pm cd ct : Value), PySem.W.nsIn K mainGlobals x = some (some (.ref f)) ∧ K.lookup f = some ⟨oc, od, .func (PySem.W.fnOf x x (defArgs st) (defBody st) (defScope st) .none kV dc pm an cd ct), sl⟩ ∧ PySem.W.codeIn K cd x = true ∧ PySem.W.keepIn K (.ref f) = true
theorem At.mk' {K : PySem.W.Frag} {x : Str} {st : Stmt} {f : Addr} {oc : Value} {od an : Option Addr} {sl : Array (Option Value)} {kV dc pm cd ct : Value} (a : PySem.W.nsIn K mainGlobals x = some (some (.ref f))) (l : K.lookup f = some ⟨oc, od, .func (PySem.W.fnOf x x (defArgs st) (defBody st) (defScope st) .none kV dc pm an cd ct), sl⟩) (c : PySem.W.codeIn K cd x = true) (k : PySem.W.keepIn K (.ref f) = true) : At K x st f :=
  ⟨oc, od, an, sl, kV, dc, pm, cd, ct, a, l, c, k⟩
theorem At.fun {K : PySem.W.Frag} {x : Str} {st : Stmt} {f : Addr} (a : At K x st f) : ∃ fd, Fun K x x st f fd := by
  obtain ⟨oc, od, an, sl, kV, dc, pm, cd, ct, _, l, c, k⟩ := a.ex
  exact ⟨_, fun_mk l c k⟩
theorem At.mg {K : PySem.W.Frag} {x : Str} {st : Stmt} {f : Addr} (a : At K x st f) {h : Heap} {mg : Str → Option Value} (X : K.In h) (G : h.Ns mainGlobals mg) : mg x = some (.ref f) := by
  obtain ⟨oc, od, an, sl, kV, dc, pm, cd, ct, e, _⟩ := a.ex
  exact PySem.W.mg_of X G e
structure Top (K : PySem.W.Frag) : Prop where
  ais_whole : ∃ f, At K "is_whole" s_is_whole f
  ais_name : ∃ f, At K "is_name" s_is_name f
  ais_filled_list : ∃ f, At K "is_filled_list" s_is_filled_list f
  aare_unlike_names : ∃ f, At K "are_unlike_names" s_are_unlike_names f
  ais_sound : ∃ f, At K "is_sound" s_is_sound f
  ais_kind : ∃ f, At K "is_kind" s_is_kind f
  ais_kinds : ∃ f, At K "is_kinds" s_is_kinds f
  ais_form : ∃ f, At K "is_form" s_is_form f
  ais_bounds : ∃ f, At K "is_bounds" s_is_bounds f
  aare_makers : ∃ f, At K "are_makers" s_are_makers f
  ais_maker : ∃ f, At K "is_maker" s_is_maker f
  aall_have_values : ∃ f, At K "all_have_values" s_all_have_values f
  acan_be_built : ∃ f, At K "can_be_built" s_can_be_built f
  aparts_of : ∃ f, At K "parts_of" s_parts_of f
  ais_pattern : ∃ f, At K "is_pattern" s_is_pattern f
  apatterns_within : ∃ f, At K "patterns_within" s_patterns_within f
  ais_range_pattern : ∃ f, At K "is_range_pattern" s_is_range_pattern f
  ais_bound : ∃ f, At K "is_bound" s_is_bound f
  amaker_patterns_within : ∃ f, At K "maker_patterns_within" s_maker_patterns_within f
  arow_patterns_within : ∃ f, At K "row_patterns_within" s_row_patterns_within f
  apattern_fits : ∃ f, At K "pattern_fits" s_pattern_fits f
  aall_fit : ∃ f, At K "all_fit" s_all_fit f
  agap_fits : ∃ f, At K "gap_fits" s_gap_fits f
  ais_clause : ∃ f, At K "is_clause" s_is_clause f
  ais_clauses : ∃ f, At K "is_clauses" s_is_clauses f
  afirst_fitting : ∃ f, At K "first_fitting" s_first_fitting f
  avalues_within : ∃ f, At K "values_within" s_values_within f
  aparts_within : ∃ f, At K "parts_within" s_parts_within f
  acheck_kind : ∃ f, At K "check_kind" s_check_kind f
  acheck_value : ∃ f, At K "check_value" s_check_value f
  acheck_pattern : ∃ f, At K "check_pattern" s_check_pattern f
  acheck_clauses : ∃ f, At K "check_clauses" s_check_clauses f
  acheck_lists : ∃ f, At K "check_lists" s_check_lists f
  afits : ∃ f, At K "fits" s_fits f
  ataker : ∃ f, At K "taker" s_taker f
  alabel : ∃ f, At K "label" s_label f
  a_law_purse : ∃ f, At K "_law_purse" s_lpurse f
  a_law_mixed : ∃ f, At K "_law_mixed" s_lmixed f
  a_law_draw : ∃ f, At K "_law_draw" s_ldraw f
  a_law_one_of : ∃ f, At K "_law_one_of" s_lone_of f
  a_law_shuffled : ∃ f, At K "_law_shuffled" s_lshuffled f
  a_law_base : ∃ f, At K "_law_base" s_lbase f
  a_law_makers : ∃ f, At K "_law_makers" s_lmakers f
  a_law_kinds : ∃ f, At K "_law_kinds" s_lkinds f
  a_law_kind : ∃ f, At K "_law_kind" s_lkind f
  a_law_patterns : ∃ f, At K "_law_patterns" s_lpatterns f
  a_law_pattern : ∃ f, At K "_law_pattern" s_lpattern f
  a_law_clauses : ∃ f, At K "_law_clauses" s_lclauses f
  a_law_all_parts : ∃ f, At K "_law_all_parts" s_lall_parts f
  a_law_all_cells : ∃ f, At K "_law_all_cells" s_lall_cells f
  a_law_all : ∃ f, At K "_law_all" s_lall f
  a_law_row_fits : ∃ f, At K "_law_row_fits" s_lrow_fits f
  a_law_fits : ∃ f, At K "_law_fits" s_lfits f
  a_law_taker : ∃ f, At K "_law_taker" s_ltaker f
  a_law_label : ∃ f, At K "_law_label" s_llabel f
  a_law_value_right : ∃ f, At K "_law_value_right" s_lvalue_right f
  a_law_long_right : ∃ f, At K "_law_long_right" s_llong_right f
  a_law_five_right : ∃ f, At K "_law_five_right" s_lfive_right f
  alaw : ∃ f, At K "law" s_law f
  z_isinstance : PySem.W.nsIn K mainGlobals "isinstance" = some none
  z_len : PySem.W.nsIn K mainGlobals "len" = some none
  z_all : PySem.W.nsIn K mainGlobals "all" = some none
  z_int : PySem.W.nsIn K mainGlobals "int" = some none
  z_bool : PySem.W.nsIn K mainGlobals "bool" = some none
  z_str : PySem.W.nsIn K mainGlobals "str" = some none
  z_tuple : PySem.W.nsIn K mainGlobals "tuple" = some none
  z_list : PySem.W.nsIn K mainGlobals "list" = some none
  z_dict : PySem.W.nsIn K mainGlobals "dict" = some none
  z_enumerate : PySem.W.nsIn K mainGlobals "enumerate" = some none
  z_range : PySem.W.nsIn K mainGlobals "range" = some none
  z_max : PySem.W.nsIn K mainGlobals "max" = some none
  z_sum : PySem.W.nsIn K mainGlobals "sum" = some none
  z_zip : PySem.W.nsIn K mainGlobals "zip" = some none
  z_set : PySem.W.nsIn K mainGlobals "set" = some none
  z_any : PySem.W.nsIn K mainGlobals "any" = some none
  z_repr : PySem.W.nsIn K mainGlobals "repr" = some none
section
variable {P : Program} {w : World} {K : PySem.W.Frag} {mg : Str → Option Value}
theorem all_ok (T : Top K) {h : Heap} (X : K.In h) (G : h.Ns mainGlobals mg) {fa : Addr} (hfa : mg "law" = some (.ref fa)) {s₁ : Shared} {a : Addr} {base : Heap} {H : Hp}
    (e0 : Env0 P w K mg base callerA [] s₁ H) (hs : spLaw K [.ref a] H (fun v _ => v = .bl true) E0) : codeAny (model P w) callerA (.call (.ref fa) ⟨[.ref a], []⟩) (CR CX0 [] P w H s₁ (fun v _ => v = .bl true) E0) s₁ := by
  obtain ⟨f_is_whole, a_is_whole⟩ := T.ais_whole
  obtain ⟨d_is_whole, F_is_whole⟩ := a_is_whole.fun
  have m_is_whole := a_is_whole.mg X G
  obtain ⟨f_is_name, a_is_name⟩ := T.ais_name
  obtain ⟨d_is_name, F_is_name⟩ := a_is_name.fun
  have m_is_name := a_is_name.mg X G
  obtain ⟨f_is_filled_list, a_is_filled_list⟩ := T.ais_filled_list
  obtain ⟨d_is_filled_list, F_is_filled_list⟩ := a_is_filled_list.fun
  have m_is_filled_list := a_is_filled_list.mg X G
  obtain ⟨f_are_unlike_names, a_are_unlike_names⟩ := T.aare_unlike_names
  obtain ⟨d_are_unlike_names, F_are_unlike_names⟩ := a_are_unlike_names.fun
  have m_are_unlike_names := a_are_unlike_names.mg X G
  obtain ⟨f_is_sound, a_is_sound⟩ := T.ais_sound
  obtain ⟨d_is_sound, F_is_sound⟩ := a_is_sound.fun
  have m_is_sound := a_is_sound.mg X G
  obtain ⟨f_is_kind, a_is_kind⟩ := T.ais_kind
  obtain ⟨d_is_kind, F_is_kind⟩ := a_is_kind.fun
  have m_is_kind := a_is_kind.mg X G
  obtain ⟨f_is_kinds, a_is_kinds⟩ := T.ais_kinds
  obtain ⟨d_is_kinds, F_is_kinds⟩ := a_is_kinds.fun
  have m_is_kinds := a_is_kinds.mg X G
  obtain ⟨f_is_form, a_is_form⟩ := T.ais_form
  obtain ⟨d_is_form, F_is_form⟩ := a_is_form.fun
  have m_is_form := a_is_form.mg X G
  obtain ⟨f_is_bounds, a_is_bounds⟩ := T.ais_bounds
  obtain ⟨d_is_bounds, F_is_bounds⟩ := a_is_bounds.fun
  have m_is_bounds := a_is_bounds.mg X G
  obtain ⟨f_are_makers, a_are_makers⟩ := T.aare_makers
  obtain ⟨d_are_makers, F_are_makers⟩ := a_are_makers.fun
  have m_are_makers := a_are_makers.mg X G
  obtain ⟨f_is_maker, a_is_maker⟩ := T.ais_maker
  obtain ⟨d_is_maker, F_is_maker⟩ := a_is_maker.fun
  have m_is_maker := a_is_maker.mg X G
  obtain ⟨f_all_have_values, a_all_have_values⟩ := T.aall_have_values
  obtain ⟨d_all_have_values, F_all_have_values⟩ := a_all_have_values.fun
  have m_all_have_values := a_all_have_values.mg X G
  obtain ⟨f_can_be_built, a_can_be_built⟩ := T.acan_be_built
  obtain ⟨d_can_be_built, F_can_be_built⟩ := a_can_be_built.fun
  have m_can_be_built := a_can_be_built.mg X G
  obtain ⟨f_parts_of, a_parts_of⟩ := T.aparts_of
  obtain ⟨d_parts_of, F_parts_of⟩ := a_parts_of.fun
  have m_parts_of := a_parts_of.mg X G
  obtain ⟨f_is_pattern, a_is_pattern⟩ := T.ais_pattern
  obtain ⟨d_is_pattern, F_is_pattern⟩ := a_is_pattern.fun
  have m_is_pattern := a_is_pattern.mg X G
  obtain ⟨f_patterns_within, a_patterns_within⟩ := T.apatterns_within
  obtain ⟨d_patterns_within, F_patterns_within⟩ := a_patterns_within.fun
  have m_patterns_within := a_patterns_within.mg X G
  obtain ⟨f_is_range_pattern, a_is_range_pattern⟩ := T.ais_range_pattern
  obtain ⟨d_is_range_pattern, F_is_range_pattern⟩ := a_is_range_pattern.fun
  have m_is_range_pattern := a_is_range_pattern.mg X G
  obtain ⟨f_is_bound, a_is_bound⟩ := T.ais_bound
  obtain ⟨d_is_bound, F_is_bound⟩ := a_is_bound.fun
  have m_is_bound := a_is_bound.mg X G
  obtain ⟨f_maker_patterns_within, a_maker_patterns_within⟩ := T.amaker_patterns_within
  obtain ⟨d_maker_patterns_within, F_maker_patterns_within⟩ := a_maker_patterns_within.fun
  have m_maker_patterns_within := a_maker_patterns_within.mg X G
  obtain ⟨f_row_patterns_within, a_row_patterns_within⟩ := T.arow_patterns_within
  obtain ⟨d_row_patterns_within, F_row_patterns_within⟩ := a_row_patterns_within.fun
  have m_row_patterns_within := a_row_patterns_within.mg X G
  obtain ⟨f_pattern_fits, a_pattern_fits⟩ := T.apattern_fits
  obtain ⟨d_pattern_fits, F_pattern_fits⟩ := a_pattern_fits.fun
  have m_pattern_fits := a_pattern_fits.mg X G
  obtain ⟨f_all_fit, a_all_fit⟩ := T.aall_fit
  obtain ⟨d_all_fit, F_all_fit⟩ := a_all_fit.fun
  have m_all_fit := a_all_fit.mg X G
  obtain ⟨f_gap_fits, a_gap_fits⟩ := T.agap_fits
  obtain ⟨d_gap_fits, F_gap_fits⟩ := a_gap_fits.fun
  have m_gap_fits := a_gap_fits.mg X G
  obtain ⟨f_is_clause, a_is_clause⟩ := T.ais_clause
  obtain ⟨d_is_clause, F_is_clause⟩ := a_is_clause.fun
  have m_is_clause := a_is_clause.mg X G
  obtain ⟨f_is_clauses, a_is_clauses⟩ := T.ais_clauses
  obtain ⟨d_is_clauses, F_is_clauses⟩ := a_is_clauses.fun
  have m_is_clauses := a_is_clauses.mg X G
  obtain ⟨f_first_fitting, a_first_fitting⟩ := T.afirst_fitting
  obtain ⟨d_first_fitting, F_first_fitting⟩ := a_first_fitting.fun
  have m_first_fitting := a_first_fitting.mg X G
  obtain ⟨f_values_within, a_values_within⟩ := T.avalues_within
  obtain ⟨d_values_within, F_values_within⟩ := a_values_within.fun
  have m_values_within := a_values_within.mg X G
  obtain ⟨f_parts_within, a_parts_within⟩ := T.aparts_within
  obtain ⟨d_parts_within, F_parts_within⟩ := a_parts_within.fun
  have m_parts_within := a_parts_within.mg X G
  obtain ⟨f_check_kind, a_check_kind⟩ := T.acheck_kind
  obtain ⟨d_check_kind, F_check_kind⟩ := a_check_kind.fun
  have m_check_kind := a_check_kind.mg X G
  obtain ⟨f_check_value, a_check_value⟩ := T.acheck_value
  obtain ⟨d_check_value, F_check_value⟩ := a_check_value.fun
  have m_check_value := a_check_value.mg X G
  obtain ⟨f_check_pattern, a_check_pattern⟩ := T.acheck_pattern
  obtain ⟨d_check_pattern, F_check_pattern⟩ := a_check_pattern.fun
  have m_check_pattern := a_check_pattern.mg X G
  obtain ⟨f_check_clauses, a_check_clauses⟩ := T.acheck_clauses
  obtain ⟨d_check_clauses, F_check_clauses⟩ := a_check_clauses.fun
  have m_check_clauses := a_check_clauses.mg X G
  obtain ⟨f_check_lists, a_check_lists⟩ := T.acheck_lists
  obtain ⟨d_check_lists, F_check_lists⟩ := a_check_lists.fun
  have m_check_lists := a_check_lists.mg X G
  obtain ⟨f_fits, a_fits⟩ := T.afits
  obtain ⟨d_fits, F_fits⟩ := a_fits.fun
  have m_fits := a_fits.mg X G
  obtain ⟨f_taker, a_taker⟩ := T.ataker
  obtain ⟨d_taker, F_taker⟩ := a_taker.fun
  have m_taker := a_taker.mg X G
  obtain ⟨f_label, a_label⟩ := T.alabel
  obtain ⟨d_label, F_label⟩ := a_label.fun
  have m_label := a_label.mg X G
  obtain ⟨f__law_purse, a__law_purse⟩ := T.a_law_purse
  obtain ⟨d__law_purse, F__law_purse⟩ := a__law_purse.fun
  have m__law_purse := a__law_purse.mg X G
  obtain ⟨f__law_mixed, a__law_mixed⟩ := T.a_law_mixed
  obtain ⟨d__law_mixed, F__law_mixed⟩ := a__law_mixed.fun
  have m__law_mixed := a__law_mixed.mg X G
  obtain ⟨f__law_draw, a__law_draw⟩ := T.a_law_draw
  obtain ⟨d__law_draw, F__law_draw⟩ := a__law_draw.fun
  have m__law_draw := a__law_draw.mg X G
  obtain ⟨f__law_one_of, a__law_one_of⟩ := T.a_law_one_of
  obtain ⟨d__law_one_of, F__law_one_of⟩ := a__law_one_of.fun
  have m__law_one_of := a__law_one_of.mg X G
  obtain ⟨f__law_shuffled, a__law_shuffled⟩ := T.a_law_shuffled
  obtain ⟨d__law_shuffled, F__law_shuffled⟩ := a__law_shuffled.fun
  have m__law_shuffled := a__law_shuffled.mg X G
  obtain ⟨f__law_base, a__law_base⟩ := T.a_law_base
  obtain ⟨d__law_base, F__law_base⟩ := a__law_base.fun
  have m__law_base := a__law_base.mg X G
  obtain ⟨f__law_makers, a__law_makers⟩ := T.a_law_makers
  obtain ⟨d__law_makers, F__law_makers⟩ := a__law_makers.fun
  have m__law_makers := a__law_makers.mg X G
  obtain ⟨f__law_kinds, a__law_kinds⟩ := T.a_law_kinds
  obtain ⟨d__law_kinds, F__law_kinds⟩ := a__law_kinds.fun
  have m__law_kinds := a__law_kinds.mg X G
  obtain ⟨f__law_kind, a__law_kind⟩ := T.a_law_kind
  obtain ⟨d__law_kind, F__law_kind⟩ := a__law_kind.fun
  have m__law_kind := a__law_kind.mg X G
  obtain ⟨f__law_patterns, a__law_patterns⟩ := T.a_law_patterns
  obtain ⟨d__law_patterns, F__law_patterns⟩ := a__law_patterns.fun
  have m__law_patterns := a__law_patterns.mg X G
  obtain ⟨f__law_pattern, a__law_pattern⟩ := T.a_law_pattern
  obtain ⟨d__law_pattern, F__law_pattern⟩ := a__law_pattern.fun
  have m__law_pattern := a__law_pattern.mg X G
  obtain ⟨f__law_clauses, a__law_clauses⟩ := T.a_law_clauses
  obtain ⟨d__law_clauses, F__law_clauses⟩ := a__law_clauses.fun
  have m__law_clauses := a__law_clauses.mg X G
  obtain ⟨f__law_all_parts, a__law_all_parts⟩ := T.a_law_all_parts
  obtain ⟨d__law_all_parts, F__law_all_parts⟩ := a__law_all_parts.fun
  have m__law_all_parts := a__law_all_parts.mg X G
  obtain ⟨f__law_all_cells, a__law_all_cells⟩ := T.a_law_all_cells
  obtain ⟨d__law_all_cells, F__law_all_cells⟩ := a__law_all_cells.fun
  have m__law_all_cells := a__law_all_cells.mg X G
  obtain ⟨f__law_all, a__law_all⟩ := T.a_law_all
  obtain ⟨d__law_all, F__law_all⟩ := a__law_all.fun
  have m__law_all := a__law_all.mg X G
  obtain ⟨f__law_row_fits, a__law_row_fits⟩ := T.a_law_row_fits
  obtain ⟨d__law_row_fits, F__law_row_fits⟩ := a__law_row_fits.fun
  have m__law_row_fits := a__law_row_fits.mg X G
  obtain ⟨f__law_fits, a__law_fits⟩ := T.a_law_fits
  obtain ⟨d__law_fits, F__law_fits⟩ := a__law_fits.fun
  have m__law_fits := a__law_fits.mg X G
  obtain ⟨f__law_taker, a__law_taker⟩ := T.a_law_taker
  obtain ⟨d__law_taker, F__law_taker⟩ := a__law_taker.fun
  have m__law_taker := a__law_taker.mg X G
  obtain ⟨f__law_label, a__law_label⟩ := T.a_law_label
  obtain ⟨d__law_label, F__law_label⟩ := a__law_label.fun
  have m__law_label := a__law_label.mg X G
  obtain ⟨f__law_value_right, a__law_value_right⟩ := T.a_law_value_right
  obtain ⟨d__law_value_right, F__law_value_right⟩ := a__law_value_right.fun
  have m__law_value_right := a__law_value_right.mg X G
  obtain ⟨f__law_long_right, a__law_long_right⟩ := T.a_law_long_right
  obtain ⟨d__law_long_right, F__law_long_right⟩ := a__law_long_right.fun
  have m__law_long_right := a__law_long_right.mg X G
  obtain ⟨f__law_five_right, a__law_five_right⟩ := T.a_law_five_right
  obtain ⟨d__law_five_right, F__law_five_right⟩ := a__law_five_right.fun
  have m__law_five_right := a__law_five_right.mg X G
  obtain ⟨f_law, a_law⟩ := T.alaw
  obtain ⟨d_law, F_law⟩ := a_law.fun
  have m_law := a_law.mg X G
  have e := hfa.symm.trans m_law
  cases e
  have M : Bl mg := ⟨PySem.W.mg_none_of X G T.z_isinstance, PySem.W.mg_none_of X G T.z_len, PySem.W.mg_none_of X G T.z_all, PySem.W.mg_none_of X G T.z_int, PySem.W.mg_none_of X G T.z_bool, PySem.W.mg_none_of X G T.z_str, PySem.W.mg_none_of X G T.z_tuple, PySem.W.mg_none_of X G T.z_list, PySem.W.mg_none_of X G T.z_dict, PySem.W.mg_none_of X G T.z_enumerate, PySem.W.mg_none_of X G T.z_range, PySem.W.mg_none_of X G T.z_max, PySem.W.mg_none_of X G T.z_sum, PySem.W.mg_none_of X G T.z_zip, PySem.W.mg_none_of X G T.z_set, PySem.W.mg_none_of X G T.z_any⟩
  have hrp := PySem.W.mg_none_of X G T.z_repr
  have b_is_whole := F_is_whole.binds (ps := ["thing"]) (fun _ _ _ _ _ _ us hl => match us, hl with | [_], _ => rfl)
  have b_is_name := F_is_name.binds (ps := ["thing"]) (fun _ _ _ _ _ _ us hl => match us, hl with | [_], _ => rfl)
  have b_is_filled_list := F_is_filled_list.binds (ps := ["thing"]) (fun _ _ _ _ _ _ us hl => match us, hl with | [_], _ => rfl)
  have b_are_unlike_names := F_are_unlike_names.binds (ps := ["things"]) (fun _ _ _ _ _ _ us hl => match us, hl with | [_], _ => rfl)
  have b_is_sound := F_is_sound.binds (ps := ["kinds", "kind", "thing", "within"]) (fun _ _ _ _ _ _ us hl => match us, hl with | [_, _, _, _], _ => rfl)
  have b_is_kind := F_is_kind.binds (ps := ["kinds", "thing"]) (fun _ _ _ _ _ _ us hl => match us, hl with | [_, _], _ => rfl)
  have b_is_kinds := F_is_kinds.binds (ps := ["thing"]) (fun _ _ _ _ _ _ us hl => match us, hl with | [_], _ => rfl)
  have b_is_form := F_is_form.binds (ps := ["kinds", "thing"]) (fun _ _ _ _ _ _ us hl => match us, hl with | [_, _], _ => rfl)
  have b_is_bounds := F_is_bounds.binds (ps := ["low", "high"]) (fun _ _ _ _ _ _ us hl => match us, hl with | [_, _], _ => rfl)
  have b_are_makers := F_are_makers.binds (ps := ["kinds", "things"]) (fun _ _ _ _ _ _ us hl => match us, hl with | [_, _], _ => rfl)
  have b_is_maker := F_is_maker.binds (ps := ["kinds", "thing"]) (fun _ _ _ _ _ _ us hl => match us, hl with | [_, _], _ => rfl)
  have b_all_have_values := F_all_have_values.binds (ps := ["kinds"]) (fun _ _ _ _ _ _ us hl => match us, hl with | [_], _ => rfl)
  have b_can_be_built := F_can_be_built.binds (ps := ["form", "built"]) (fun _ _ _ _ _ _ us hl => match us, hl with | [_, _], _ => rfl)
  have b_parts_of := F_parts_of.binds (ps := ["makers", "maker"]) (fun _ _ _ _ _ _ us hl => match us, hl with | [_, _], _ => rfl)
  have b_is_pattern := F_is_pattern.binds (ps := ["kinds", "kind", "thing"]) (fun _ _ _ _ _ _ us hl => match us, hl with | [_, _, _], _ => rfl)
  have b_patterns_within := F_patterns_within.binds (ps := ["kinds", "kind", "thing"]) (fun _ _ _ _ _ _ us hl => match us, hl with | [_, _, _], _ => rfl)
  have b_is_range_pattern := F_is_range_pattern.binds (ps := ["thing"]) (fun _ _ _ _ _ _ us hl => match us, hl with | [_], _ => rfl)
  have b_is_bound := F_is_bound.binds (ps := ["thing"]) (fun _ _ _ _ _ _ us hl => match us, hl with | [_], _ => rfl)
  have b_maker_patterns_within := F_maker_patterns_within.binds (ps := ["makers", "thing"]) (fun _ _ _ _ _ _ us hl => match us, hl with | [_, _], _ => rfl)
  have b_row_patterns_within := F_row_patterns_within.binds (ps := ["cell", "thing"]) (fun _ _ _ _ _ _ us hl => match us, hl with | [_, _], _ => rfl)
  have b_pattern_fits := F_pattern_fits.binds (ps := ["pattern", "value"]) (fun _ _ _ _ _ _ us hl => match us, hl with | [_, _], _ => rfl)
  have b_all_fit := F_all_fit.binds (ps := ["patterns", "values"]) (fun _ _ _ _ _ _ us hl => match us, hl with | [_, _], _ => rfl)
  have b_gap_fits := F_gap_fits.binds (ps := ["ahead", "behind", "row"]) (fun _ _ _ _ _ _ us hl => match us, hl with | [_, _, _], _ => rfl)
  have b_is_clause := F_is_clause.binds (ps := ["kinds", "kind", "thing"]) (fun _ _ _ _ _ _ us hl => match us, hl with | [_, _, _], _ => rfl)
  have b_is_clauses := F_is_clauses.binds (ps := ["kinds", "kind", "thing"]) (fun _ _ _ _ _ _ us hl => match us, hl with | [_, _, _], _ => rfl)
  have b_first_fitting := F_first_fitting.binds (ps := ["clauses", "value"]) (fun _ _ _ _ _ _ us hl => match us, hl with | [_, _], _ => rfl)
  have b_values_within := F_values_within.binds (ps := ["kinds", "kind", "thing"]) (fun _ _ _ _ _ _ us hl => match us, hl with | [_, _, _], _ => rfl)
  have b_parts_within := F_parts_within.binds (ps := ["makers", "thing"]) (fun _ _ _ _ _ _ us hl => match us, hl with | [_, _], _ => rfl)
  have b_check_kind := F_check_kind.binds (ps := ["kinds", "kind"]) (fun _ _ _ _ _ _ us hl => match us, hl with | [_, _], _ => rfl)
  have b_check_value := F_check_value.binds (ps := ["kinds", "kind", "value"]) (fun _ _ _ _ _ _ us hl => match us, hl with | [_, _, _], _ => rfl)
  have b_check_pattern := F_check_pattern.binds (ps := ["kinds", "kind", "pattern"]) (fun _ _ _ _ _ _ us hl => match us, hl with | [_, _, _], _ => rfl)
  have b_check_clauses := F_check_clauses.binds (ps := ["kinds", "kind", "clauses"]) (fun _ _ _ _ _ _ us hl => match us, hl with | [_, _, _], _ => rfl)
  have b_check_lists := F_check_lists.binds (ps := ["kinds", "kind", "lists"]) (fun _ _ _ _ _ _ us hl => match us, hl with | [_, _, _], _ => rfl)
  have b_fits := F_fits.binds (ps := ["kinds", "kind", "pattern", "value"]) (fun _ _ _ _ _ _ us hl => match us, hl with | [_, _, _, _], _ => rfl)
  have b_taker := F_taker.binds (ps := ["kinds", "kind", "clauses", "value"]) (fun _ _ _ _ _ _ us hl => match us, hl with | [_, _, _, _], _ => rfl)
  have b_label := F_label.binds (ps := ["kinds", "kind", "clauses", "value"]) (fun _ _ _ _ _ _ us hl => match us, hl with | [_, _, _, _], _ => rfl)
  have b__law_purse := F__law_purse.binds (ps := ["script", "at"]) (fun _ _ _ _ _ _ us hl => match us, hl with | [_, _], _ => rfl)
  have b__law_mixed := F__law_mixed.binds (ps := ["seed", "step"]) (fun _ _ _ _ _ _ us hl => match us, hl with | [_, _], _ => rfl)
  have b__law_draw := F__law_draw.binds (ps := ["purse", "many"]) (fun _ _ _ _ _ _ us hl => match us, hl with | [_, _], _ => rfl)
  have b__law_one_of := F__law_one_of.binds (ps := ["purse", "some"]) (fun _ _ _ _ _ _ us hl => match us, hl with | [_, _], _ => rfl)
  have b__law_shuffled := F__law_shuffled.binds (ps := ["purse", "some"]) (fun _ _ _ _ _ _ us hl => match us, hl with | [_, _], _ => rfl)
  have b__law_base := F__law_base.binds (ps := ["purse"]) (fun _ _ _ _ _ _ us hl => match us, hl with | [_], _ => rfl)
  have b__law_makers := F__law_makers.binds (ps := ["purse", "names", "base"]) (fun _ _ _ _ _ _ us hl => match us, hl with | [_, _, _], _ => rfl)
  have b__law_kinds := F__law_kinds.binds (ps := ["purse"]) (fun _ _ _ _ _ _ us hl => match us, hl with | [_], _ => rfl)
  have b__law_kind := F__law_kind.binds (ps := ["purse", "kinds"]) (fun _ _ _ _ _ _ us hl => match us, hl with | [_, _], _ => rfl)
  have b__law_patterns := F__law_patterns.binds (ps := ["purse", "kinds", "names", "deep"]) (fun _ _ _ _ _ _ us hl => match us, hl with | [_, _, _, _], _ => rfl)
  have b__law_pattern := F__law_pattern.binds (ps := ["purse", "kinds", "kind", "deep"]) (fun _ _ _ _ _ _ us hl => match us, hl with | [_, _, _, _], _ => rfl)
  have b__law_clauses := F__law_clauses.binds (ps := ["purse", "kinds", "kind", "most"]) (fun _ _ _ _ _ _ us hl => match us, hl with | [_, _, _, _], _ => rfl)
  have b__law_all_parts := F__law_all_parts.binds (ps := ["kinds", "names", "size"]) (fun _ _ _ _ _ _ us hl => match us, hl with | [_, _, _], _ => rfl)
  have b__law_all_cells := F__law_all_cells.binds (ps := ["kinds", "cell", "size"]) (fun _ _ _ _ _ _ us hl => match us, hl with | [_, _, _], _ => rfl)
  have b__law_all := F__law_all.binds (ps := ["kinds", "kind", "size"]) (fun _ _ _ _ _ _ us hl => match us, hl with | [_, _, _], _ => rfl)
  have b__law_row_fits := F__law_row_fits.binds (ps := ["patterns", "cells"]) (fun _ _ _ _ _ _ us hl => match us, hl with | [_, _], _ => rfl)
  have b__law_fits := F__law_fits.binds (ps := ["pattern", "value"]) (fun _ _ _ _ _ _ us hl => match us, hl with | [_, _], _ => rfl)
  have b__law_taker := F__law_taker.binds (ps := ["clauses", "value"]) (fun _ _ _ _ _ _ us hl => match us, hl with | [_, _], _ => rfl)
  have b__law_label := F__law_label.binds (ps := ["clauses", "value"]) (fun _ _ _ _ _ _ us hl => match us, hl with | [_, _], _ => rfl)
  have b__law_value_right := F__law_value_right.binds (ps := ["kinds", "kind", "clauses", "value"]) (fun _ _ _ _ _ _ us hl => match us, hl with | [_, _, _, _], _ => rfl)
  have b__law_long_right := F__law_long_right.binds (ps := ["purse", "kinds", "kind", "clauses"]) (fun _ _ _ _ _ _ us hl => match us, hl with | [_, _, _, _], _ => rfl)
  have b__law_five_right := F__law_five_right.binds (ps := []) (fun _ _ _ _ _ _ us hl => match us, hl with | [], _ => rfl)
  have b_law := F_law.binds (ps := ["script"]) (fun _ _ _ _ _ _ us hl => match us, hl with | [_], _ => rfl)
  have c_is_whole : Cl P w K mg base 1 "is_whole" (spR K Rw_is_whole) := ⟨f_is_whole, d_is_whole, _, ok_is_whole F_is_whole M, m_is_whole, F_is_whole.kp, b_is_whole⟩
  have c_is_name : Cl P w K mg base 1 "is_name" (spR K Rw_is_name) := ⟨f_is_name, d_is_name, _, ok_is_name F_is_name M, m_is_name, F_is_name.kp, b_is_name⟩
  have c_is_filled_list : Cl P w K mg base 1 "is_filled_list" (spR K Rw_is_filled_list) := ⟨f_is_filled_list, d_is_filled_list, _, ok_is_filled_list F_is_filled_list M, m_is_filled_list, F_is_filled_list.kp, b_is_filled_list⟩
  have c_are_unlike_names : Cl P w K mg base 2 "are_unlike_names" (spR K Rw_are_unlike_names) := ⟨f_are_unlike_names, d_are_unlike_names, _, ok_are_unlike_names F_are_unlike_names M c_is_name, m_are_unlike_names, F_are_unlike_names.kp, b_are_unlike_names⟩
  have c_is_kind : Cl P w K mg base 1 "is_kind" (spR K Rw_is_kind) := ⟨f_is_kind, d_is_kind, _, ok_is_kind F_is_kind M, m_is_kind, F_is_kind.kp, b_is_kind⟩
  have c_is_bounds : Cl P w K mg base 2 "is_bounds" (spR K Rw_is_bounds) := ⟨f_is_bounds, d_is_bounds, _, ok_is_bounds F_is_bounds M c_is_whole, m_is_bounds, F_is_bounds.kp, b_is_bounds⟩
  have c_is_maker : Cl P w K mg base 2 "is_maker" (spR K Rw_is_maker) := ⟨f_is_maker, d_is_maker, _, ok_is_maker F_is_maker M c_is_kind, m_is_maker, F_is_maker.kp, b_is_maker⟩
  have c_are_makers : Cl P w K mg base 3 "are_makers" (spR K Rw_are_makers) := ⟨f_are_makers, d_are_makers, _, ok_are_makers F_are_makers M c_is_maker c_are_unlike_names, m_are_makers, F_are_makers.kp, b_are_makers⟩
  have c_is_form : Cl P w K mg base 4 "is_form" (spR K Rw_is_form) := ⟨f_is_form, d_is_form, _, ok_is_form F_is_form M c_is_bounds c_is_filled_list c_are_unlike_names c_are_makers c_is_kind, m_is_form, F_is_form.kp, b_is_form⟩
  have c_can_be_built : Cl P w K mg base 1 "can_be_built" (spR K Rw_can_be_built) := ⟨f_can_be_built, d_can_be_built, _, ok_can_be_built F_can_be_built M, m_can_be_built, F_can_be_built.kp, b_can_be_built⟩
  have c_all_have_values : Cl P w K mg base 2 "all_have_values" (spR K Rw_all_have_values) := ⟨f_all_have_values, d_all_have_values, _, ok_all_have_values F_all_have_values M c_can_be_built, m_all_have_values, F_all_have_values.kp, b_all_have_values⟩
  have c_is_kinds : Cl P w K mg base 5 "is_kinds" (spR K Rw_is_kinds) := ⟨f_is_kinds, d_is_kinds, _, ok_is_kinds F_is_kinds M c_is_name c_is_form c_all_have_values, m_is_kinds, F_is_kinds.kp, b_is_kinds⟩
  have c_is_sound : Cl P w K mg base 5 "is_sound" (spSound P w K mg base 4) := ⟨f_is_sound, d_is_sound, _, ok_is_sound (kk := 4) F_is_sound, m_is_sound, F_is_sound.kp, b_is_sound⟩
  have c_parts_of : Cl P w K mg base 1 "parts_of" (spR K Rw_parts_of) := ⟨f_parts_of, d_parts_of, _, ok_parts_of F_parts_of, m_parts_of, F_parts_of.kp, b_parts_of⟩
  have c_is_bound : Cl P w K mg base 2 "is_bound" (spR K Rw_is_bound) := ⟨f_is_bound, d_is_bound, _, ok_is_bound F_is_bound c_is_whole, m_is_bound, F_is_bound.kp, b_is_bound⟩
  have c_is_range_pattern : Cl P w K mg base 3 "is_range_pattern" (spR K Rw_is_range_pattern) := ⟨f_is_range_pattern, d_is_range_pattern, _, ok_is_range_pattern F_is_range_pattern M c_is_bound, m_is_range_pattern, F_is_range_pattern.kp, b_is_range_pattern⟩
  have c_maker_patterns_within : Cl P w K mg base 2 "maker_patterns_within" (spR K Rw_maker_patterns) := ⟨f_maker_patterns_within, d_maker_patterns_within, _, ok_maker_patterns F_maker_patterns_within M c_parts_of, m_maker_patterns_within, F_maker_patterns_within.kp, b_maker_patterns_within⟩
  have c_row_patterns_within : Cl P w K mg base 1 "row_patterns_within" (spR K Rw_row_patterns) := ⟨f_row_patterns_within, d_row_patterns_within, _, ok_row_patterns F_row_patterns_within M, m_row_patterns_within, F_row_patterns_within.kp, b_row_patterns_within⟩
  have c_patterns_within : Cl P w K mg base 4 "patterns_within" (spR K Rw_patterns_within) := ⟨f_patterns_within, d_patterns_within, _, ok_patterns_within F_patterns_within M c_is_filled_list c_is_range_pattern c_maker_patterns_within c_row_patterns_within, m_patterns_within, F_patterns_within.kp, b_patterns_within⟩
  have c_is_pattern : Cl P w K mg base 6 "is_pattern" (spR K Rw_is_pattern) := ⟨f_is_pattern, d_is_pattern, _, ok_is_pattern F_is_pattern c_is_sound c_patterns_within, m_is_pattern, F_is_pattern.kp, b_is_pattern⟩
  have okp := ok_pattern_fits (P := P) (w := w) (base := base) F_pattern_fits F_all_fit F_gap_fits M m_pattern_fits m_all_fit m_gap_fits
  have c_pf2 : Cl P w K mg base 7 "pattern_fits" (spR K (Rw_pattern_fits 2)) := ⟨f_pattern_fits, d_pattern_fits, _, okp 2, m_pattern_fits, F_pattern_fits.kp, b_pattern_fits⟩
  have c_pf3 : Cl P w K mg base 10 "pattern_fits" (spR K (Rw_pattern_fits 3)) := ⟨f_pattern_fits, d_pattern_fits, _, okp 3, m_pattern_fits, F_pattern_fits.kp, b_pattern_fits⟩
  have c_is_clause : Cl P w K mg base 7 "is_clause" (spR K Rw_is_clause) := ⟨f_is_clause, d_is_clause, _, ok_is_clause F_is_clause M c_is_pattern c_is_name, m_is_clause, F_is_clause.kp, b_is_clause⟩
  have c_is_clauses : Cl P w K mg base 8 "is_clauses" (spR K Rw_is_clauses) := ⟨f_is_clauses, d_is_clauses, _, ok_is_clauses F_is_clauses M c_is_clause, m_is_clauses, F_is_clauses.kp, b_is_clauses⟩
  have c_first_fitting : Cl P w K mg base 8 "first_fitting" (spR K Rw_first_fitting) := ⟨f_first_fitting, d_first_fitting, _, ok_first_fitting F_first_fitting M c_pf2, m_first_fitting, F_first_fitting.kp, b_first_fitting⟩
  have c_parts_within : Cl P w K mg base 2 "parts_within" (spR K Rw_parts_within) := ⟨f_parts_within, d_parts_within, _, ok_parts_within F_parts_within M c_parts_of, m_parts_within, F_parts_within.kp, b_parts_within⟩
  have c_values_within : Cl P w K mg base 4 "values_within" (spR K Rw_values_within) := ⟨f_values_within, d_values_within, _, ok_values_within F_values_within M c_is_whole c_parts_within, m_values_within, F_values_within.kp, b_values_within⟩
  have c_check_kind : Cl P w K mg base 6 "check_kind" (spR K Rw_check_kind) := ⟨f_check_kind, d_check_kind, _, ok_check_kind F_check_kind c_is_kinds c_is_kind, m_check_kind, F_check_kind.kp, b_check_kind⟩
  have c_check_value : Cl P w K mg base 6 "check_value" (spR K Rw_check_value) := ⟨f_check_value, d_check_value, _, ok_check_value F_check_value c_is_sound c_values_within, m_check_value, F_check_value.kp, b_check_value⟩
  have c_check_pattern : Cl P w K mg base 7 "check_pattern" (spR K Rw_check_pattern) := ⟨f_check_pattern, d_check_pattern, _, ok_check_pattern F_check_pattern c_is_pattern, m_check_pattern, F_check_pattern.kp, b_check_pattern⟩
  have c_check_clauses : Cl P w K mg base 9 "check_clauses" (spR K Rw_check_clauses) := ⟨f_check_clauses, d_check_clauses, _, ok_check_clauses F_check_clauses c_is_clauses, m_check_clauses, F_check_clauses.kp, b_check_clauses⟩
  have c_check_lists : Cl P w K mg base 10 "check_lists" (spR K Rw_check_lists) := ⟨f_check_lists, d_check_lists, _, ok_check_lists F_check_lists c_check_kind c_check_clauses, m_check_lists, F_check_lists.kp, b_check_lists⟩
  have c_fits2 : Cl P w K mg base 11 "fits" (spR K (Rw_fits 2)) := ⟨f_fits, d_fits, _, ok_fits (by decide) F_fits c_check_kind c_check_pattern c_check_value (clE_mono c_pf2 (by decide)), m_fits, F_fits.kp, b_fits⟩
  have c_fits3 : Cl P w K mg base 11 "fits" (spR K (Rw_fits 3)) := ⟨f_fits, d_fits, _, ok_fits (by decide) F_fits c_check_kind c_check_pattern c_check_value c_pf3, m_fits, F_fits.kp, b_fits⟩
  have c_taker : Cl P w K mg base 11 "taker" (spR K Rw_taker) := ⟨f_taker, d_taker, _, ok_taker F_taker c_check_lists c_check_value c_first_fitting, m_taker, F_taker.kp, b_taker⟩
  have c_label : Cl P w K mg base 12 "label" (spR K Rw_label) := ⟨f_label, d_label, _, ok_label F_label c_taker, m_label, F_label.kp, b_label⟩
  have c__law_purse : Cl P w K mg base 1 "_law_purse" (spPurse K) := ⟨f__law_purse, d__law_purse, _, ok_lpurse F__law_purse M, m__law_purse, F__law_purse.kp, b__law_purse⟩
  have c__law_mixed : Cl P w K mg base 1 "_law_mixed" (spMixed) := ⟨f__law_mixed, d__law_mixed, _, ok_lmixed F__law_mixed, m__law_mixed, F__law_mixed.kp, b__law_mixed⟩
  have c__law_draw : Cl P w K mg base 2 "_law_draw" (spP K pre_draw R_draw 1) := ⟨f__law_draw, d__law_draw, _, ok_ldraw F__law_draw M c__law_mixed, m__law_draw, F__law_draw.kp, b__law_draw⟩
  have c__law_one_of : Cl P w K mg base 3 "_law_one_of" (spP K pre_one R_one 1) := ⟨f__law_one_of, d__law_one_of, _, ok_lone_of F__law_one_of M c__law_draw, m__law_one_of, F__law_one_of.kp, b__law_one_of⟩
  have c__law_shuffled : Cl P w K mg base 3 "_law_shuffled" (spP K pre_shuf R_shuf 20) := ⟨f__law_shuffled, d__law_shuffled, _, ok_lshuffled F__law_shuffled M c__law_draw, m__law_shuffled, F__law_shuffled.kp, b__law_shuffled⟩
  have c__law_base : Cl P w K mg base 4 "_law_base" (spP K (fun ds => ds = []) R_base 25) := ⟨f__law_base, d__law_base, _, ok_lbase F__law_base M c__law_draw c__law_shuffled, m__law_base, F__law_base.kp, b__law_base⟩
  have c__law_makers : Cl P w K mg base 4 "_law_makers" (spP K pre_makers R_makers 60) := ⟨f__law_makers, d__law_makers, _, ok_lmakers F__law_makers M c__law_draw c__law_one_of c__law_shuffled, m__law_makers, F__law_makers.kp, b__law_makers⟩
  have c__law_kinds : Cl P w K mg base 5 "_law_kinds" (spP K (fun ds => ds = []) R_kinds 300) := ⟨f__law_kinds, d__law_kinds, _, ok_lkinds F__law_kinds M c__law_draw c__law_one_of c__law_shuffled c__law_base c__law_makers, m__law_kinds, F__law_kinds.kp, b__law_kinds⟩
  have c__law_kind : Cl P w K mg base 3 "_law_kind" (spP K pre_kind R_kind 2) := ⟨f__law_kind, d__law_kind, _, ok_lkind F__law_kind M c__law_draw, m__law_kind, F__law_kind.kp, b__law_kind⟩
  have c__law_pattern : Cl P w K mg base 8 "_law_pattern" (spP K (pre_pat 2) (R_pat 2) (cpat 2)) := ⟨f__law_pattern, d__law_pattern, _, ok_pats2 F__law_pattern F__law_patterns M m__law_pattern m__law_patterns c__law_draw c__law_one_of, m__law_pattern, F__law_pattern.kp, b__law_pattern⟩
  have c__law_clauses : Cl P w K mg base 9 "_law_clauses" (spP K pre_clauses R_clauses 1000) := ⟨f__law_clauses, d__law_clauses, _, ok_lclauses (by decide) F__law_clauses M c__law_draw c__law_one_of c__law_pattern, m__law_clauses, F__law_clauses.kp, b__law_clauses⟩
  have oka := ok_alls (P := P) (w := w) (base := base) F__law_all F__law_all_cells F__law_all_parts M m__law_all m__law_all_cells m__law_all_parts
  have c_all3 : Cl P w K mg base 16 "_law_all" (spE K (pre_all 3) R_all) := ⟨f__law_all, d__law_all, _, (oka 3 (by decide)).1, m__law_all, F__law_all.kp, b__law_all⟩
  have c_all4 : Cl P w K mg base 21 "_law_all" (spE K (pre_all 4) R_all) := ⟨f__law_all, d__law_all, _, (oka 4 (by decide)).1, m__law_all, F__law_all.kp, b__law_all⟩
  have okf := ok_lfits (P := P) (w := w) (base := base) F__law_fits F__law_row_fits M m__law_fits m__law_row_fits
  have c__law_fits : Cl P w K mg base 5 "_law_fits" (spR K (Rw_pattern_fits 2)) := ⟨f__law_fits, d__law_fits, _, okf 2, m__law_fits, F__law_fits.kp, b__law_fits⟩
  have c__law_taker : Cl P w K mg base 6 "_law_taker" (spR K Rw_ltaker) := ⟨f__law_taker, d__law_taker, _, ok_ltaker F__law_taker M c__law_fits, m__law_taker, F__law_taker.kp, b__law_taker⟩
  have c__law_label : Cl P w K mg base 7 "_law_label" (spR K Rw_llabel) := ⟨f__law_label, d__law_label, _, ok_llabel F__law_label c__law_taker, m__law_label, F__law_label.kp, b__law_label⟩
  have c__law_value_right : ClG P w K mg base 13 "_law_value_right" (spR K Rw_value_right) := ⟨f__law_value_right, d__law_value_right, _, ok_lvalue_right hrp F__law_value_right M c_fits2 c_fits3 c__law_fits c_taker c__law_taker c_label c__law_label, m__law_value_right, F__law_value_right.kp, b__law_value_right⟩
  have c__law_long_right : ClG P w K mg base 17 "_law_long_right" (spP K pre_long R_true 40) := ⟨f__law_long_right, d__law_long_right, _, ok_llong F__law_long_right M c__law_draw c__law_one_of c_all3 c__law_value_right, m__law_long_right, F__law_long_right.kp, b__law_long_right⟩
  have c__law_five_right : Cl P w K mg base 13 "_law_five_right" (spR K R_five) := ⟨f__law_five_right, d__law_five_right, _, ok_lfive F__law_five_right M c_taker c_label, m__law_five_right, F__law_five_right.kp, b__law_five_right⟩
  have hb : BindsTo s₁ d_law ⟨[.ref a], []⟩ ((["script"] : List Str).zip [.ref a]) := by
    obtain ⟨oc, od, kV, doc, pm, an, cdv, ct, osl, rfl, lk, hcd⟩ := F_law.ex
    exact .of_eq rfl
  exact FP.run_at (k := 21) (us := [.ref a]) (vs := [.ref a]) F_law sc_law rfl ⟨rfl, by decide, by decide⟩ e0 hb (.cons rfl .nil) fun cdv hr => law_body M c__law_five_right c__law_purse c__law_kinds c__law_kind c__law_clauses c__law_long_right c_all4 c__law_draw c__law_value_right cdv callerA rfl [] s₁ H _ _ _ hr hs
end
end FN
open PySem PySem.W PyProof.Rows
set_option maxRecDepth 100000 in
set_option maxHeartbeats 0 in
theorem PySem.Challenge.cw_firstclause_k21_whole_clauses_that_fit_holds : PySem.Challenge.rw_firstclause_k21_whole_clauses_that_fit.Holds := by
  w_on; o_law; k_head; (case hw => w_witness2)
  k_fill
  refine Att.attach_call (l := PySem.Challenge.rw_firstclause_k21_whole_clauses_that_fit) (n := 63) rfl rfl fun w s₀ s₁ mg mb fa o pm cd doc a vs ns G Y ho hd hcd hmg hobj hints hlen hg => ?_
  have X := PySem.W.kIn_of Y
  refine FN.call_at (sp := FN.spLaw _) X G.T.g G.T.b G.T.builtins G.T.nolimit hg hobj hints (Nat.le_trans hlen (by decide)) (fun base H _ _ e0 hs => ?F) (fun H hS => ⟨a, ns, rfl, hS, hlen, fun _ => rfl⟩)
  case F =>
    refine FN.all_ok ?T X G.T.g hmg e0 hs
    case T =>
      refine' ⟨⟨_, FN.At.mk' ?a0 ?l0 ?c0 ?k0⟩, ⟨_, FN.At.mk' ?a1 ?l1 ?c1 ?k1⟩, ⟨_, FN.At.mk' ?a2 ?l2 ?c2 ?k2⟩, ⟨_, FN.At.mk' ?a3 ?l3 ?c3 ?k3⟩, ⟨_, FN.At.mk' ?a4 ?l4 ?c4 ?k4⟩, ⟨_, FN.At.mk' ?a5 ?l5 ?c5 ?k5⟩, ⟨_, FN.At.mk' ?a6 ?l6 ?c6 ?k6⟩, ⟨_, FN.At.mk' ?a7 ?l7 ?c7 ?k7⟩, ⟨_, FN.At.mk' ?a8 ?l8 ?c8 ?k8⟩, ⟨_, FN.At.mk' ?a9 ?l9 ?c9 ?k9⟩, ⟨_, FN.At.mk' ?a10 ?l10 ?c10 ?k10⟩, ⟨_, FN.At.mk' ?a11 ?l11 ?c11 ?k11⟩, ⟨_, FN.At.mk' ?a12 ?l12 ?c12 ?k12⟩, ⟨_, FN.At.mk' ?a13 ?l13 ?c13 ?k13⟩, ⟨_, FN.At.mk' ?a14 ?l14 ?c14 ?k14⟩, ⟨_, FN.At.mk' ?a15 ?l15 ?c15 ?k15⟩, ⟨_, FN.At.mk' ?a16 ?l16 ?c16 ?k16⟩, ⟨_, FN.At.mk' ?a17 ?l17 ?c17 ?k17⟩, ⟨_, FN.At.mk' ?a18 ?l18 ?c18 ?k18⟩, ⟨_, FN.At.mk' ?a19 ?l19 ?c19 ?k19⟩, ⟨_, FN.At.mk' ?a20 ?l20 ?c20 ?k20⟩, ⟨_, FN.At.mk' ?a21 ?l21 ?c21 ?k21⟩, ⟨_, FN.At.mk' ?a22 ?l22 ?c22 ?k22⟩, ⟨_, FN.At.mk' ?a23 ?l23 ?c23 ?k23⟩, ⟨_, FN.At.mk' ?a24 ?l24 ?c24 ?k24⟩, ⟨_, FN.At.mk' ?a25 ?l25 ?c25 ?k25⟩, ⟨_, FN.At.mk' ?a26 ?l26 ?c26 ?k26⟩, ⟨_, FN.At.mk' ?a27 ?l27 ?c27 ?k27⟩, ⟨_, FN.At.mk' ?a28 ?l28 ?c28 ?k28⟩, ⟨_, FN.At.mk' ?a29 ?l29 ?c29 ?k29⟩, ⟨_, FN.At.mk' ?a30 ?l30 ?c30 ?k30⟩, ⟨_, FN.At.mk' ?a31 ?l31 ?c31 ?k31⟩, ⟨_, FN.At.mk' ?a32 ?l32 ?c32 ?k32⟩, ⟨_, FN.At.mk' ?a33 ?l33 ?c33 ?k33⟩, ⟨_, FN.At.mk' ?a34 ?l34 ?c34 ?k34⟩, ⟨_, FN.At.mk' ?a35 ?l35 ?c35 ?k35⟩, ⟨_, FN.At.mk' ?a36 ?l36 ?c36 ?k36⟩, ⟨_, FN.At.mk' ?a37 ?l37 ?c37 ?k37⟩, ⟨_, FN.At.mk' ?a38 ?l38 ?c38 ?k38⟩, ⟨_, FN.At.mk' ?a39 ?l39 ?c39 ?k39⟩, ⟨_, FN.At.mk' ?a40 ?l40 ?c40 ?k40⟩, ⟨_, FN.At.mk' ?a41 ?l41 ?c41 ?k41⟩, ⟨_, FN.At.mk' ?a42 ?l42 ?c42 ?k42⟩, ⟨_, FN.At.mk' ?a43 ?l43 ?c43 ?k43⟩, ⟨_, FN.At.mk' ?a44 ?l44 ?c44 ?k44⟩, ⟨_, FN.At.mk' ?a45 ?l45 ?c45 ?k45⟩, ⟨_, FN.At.mk' ?a46 ?l46 ?c46 ?k46⟩, ⟨_, FN.At.mk' ?a47 ?l47 ?c47 ?k47⟩, ⟨_, FN.At.mk' ?a48 ?l48 ?c48 ?k48⟩, ⟨_, FN.At.mk' ?a49 ?l49 ?c49 ?k49⟩, ⟨_, FN.At.mk' ?a50 ?l50 ?c50 ?k50⟩, ⟨_, FN.At.mk' ?a51 ?l51 ?c51 ?k51⟩, ⟨_, FN.At.mk' ?a52 ?l52 ?c52 ?k52⟩, ⟨_, FN.At.mk' ?a53 ?l53 ?c53 ?k53⟩, ⟨_, FN.At.mk' ?a54 ?l54 ?c54 ?k54⟩, ⟨_, FN.At.mk' ?a55 ?l55 ?c55 ?k55⟩, ⟨_, FN.At.mk' ?a56 ?l56 ?c56 ?k56⟩, ⟨_, FN.At.mk' ?a57 ?l57 ?c57 ?k57⟩, ⟨_, FN.At.mk' ?a58 ?l58 ?c58 ?k58⟩, ?z0, ?z1, ?z2, ?z3, ?z4, ?z5, ?z6, ?z7, ?z8, ?z9, ?z10, ?z11, ?z12, ?z13, ?z14, ?z15, ?z16⟩
      (case a0 => k_is); (case l0 => k_is); (case c0 => k_is); (case k0 => k_is)
      (case a1 => k_is); (case l1 => k_is); (case c1 => k_is); (case k1 => k_is)
      (case a2 => k_is); (case l2 => k_is); (case c2 => k_is); (case k2 => k_is)
      (case a3 => k_is); (case l3 => k_is); (case c3 => k_is); (case k3 => k_is)
      (case a4 => k_is); (case l4 => k_is); (case c4 => k_is); (case k4 => k_is)
      (case a5 => k_is); (case l5 => k_is); (case c5 => k_is); (case k5 => k_is)
      (case a6 => k_is); (case l6 => k_is); (case c6 => k_is); (case k6 => k_is)
      (case a7 => k_is); (case l7 => k_is); (case c7 => k_is); (case k7 => k_is)
      (case a8 => k_is); (case l8 => k_is); (case c8 => k_is); (case k8 => k_is)
      (case a9 => k_is); (case l9 => k_is); (case c9 => k_is); (case k9 => k_is)
      (case a10 => k_is); (case l10 => k_is); (case c10 => k_is); (case k10 => k_is)
      (case a11 => k_is); (case l11 => k_is); (case c11 => k_is); (case k11 => k_is)
      (case a12 => k_is); (case l12 => k_is); (case c12 => k_is); (case k12 => k_is)
      (case a13 => k_is); (case l13 => k_is); (case c13 => k_is); (case k13 => k_is)
      (case a14 => k_is); (case l14 => k_is); (case c14 => k_is); (case k14 => k_is)
      (case a15 => k_is); (case l15 => k_is); (case c15 => k_is); (case k15 => k_is)
      (case a16 => k_is); (case l16 => k_is); (case c16 => k_is); (case k16 => k_is)
      (case a17 => k_is); (case l17 => k_is); (case c17 => k_is); (case k17 => k_is)
      (case a18 => k_is); (case l18 => k_is); (case c18 => k_is); (case k18 => k_is)
      (case a19 => k_is); (case l19 => k_is); (case c19 => k_is); (case k19 => k_is)
      (case a20 => k_is); (case l20 => k_is); (case c20 => k_is); (case k20 => k_is)
      (case a21 => k_is); (case l21 => k_is); (case c21 => k_is); (case k21 => k_is)
      (case a22 => k_is); (case l22 => k_is); (case c22 => k_is); (case k22 => k_is)
      (case a23 => k_is); (case l23 => k_is); (case c23 => k_is); (case k23 => k_is)
      (case a24 => k_is); (case l24 => k_is); (case c24 => k_is); (case k24 => k_is)
      (case a25 => k_is); (case l25 => k_is); (case c25 => k_is); (case k25 => k_is)
      (case a26 => k_is); (case l26 => k_is); (case c26 => k_is); (case k26 => k_is)
      (case a27 => k_is); (case l27 => k_is); (case c27 => k_is); (case k27 => k_is)
      (case a28 => k_is); (case l28 => k_is); (case c28 => k_is); (case k28 => k_is)
      (case a29 => k_is); (case l29 => k_is); (case c29 => k_is); (case k29 => k_is)
      (case a30 => k_is); (case l30 => k_is); (case c30 => k_is); (case k30 => k_is)
      (case a31 => k_is); (case l31 => k_is); (case c31 => k_is); (case k31 => k_is)
      (case a32 => k_is); (case l32 => k_is); (case c32 => k_is); (case k32 => k_is)
      (case a33 => k_is); (case l33 => k_is); (case c33 => k_is); (case k33 => k_is)
      (case a34 => k_is); (case l34 => k_is); (case c34 => k_is); (case k34 => k_is)
      (case a35 => k_is); (case l35 => k_is); (case c35 => k_is); (case k35 => k_is)
      (case a36 => k_is); (case l36 => k_is); (case c36 => k_is); (case k36 => k_is)
      (case a37 => k_is); (case l37 => k_is); (case c37 => k_is); (case k37 => k_is)
      (case a38 => k_is); (case l38 => k_is); (case c38 => k_is); (case k38 => k_is)
      (case a39 => k_is); (case l39 => k_is); (case c39 => k_is); (case k39 => k_is)
      (case a40 => k_is); (case l40 => k_is); (case c40 => k_is); (case k40 => k_is)
      (case a41 => k_is); (case l41 => k_is); (case c41 => k_is); (case k41 => k_is)
      (case a42 => k_is); (case l42 => k_is); (case c42 => k_is); (case k42 => k_is)
      (case a43 => k_is); (case l43 => k_is); (case c43 => k_is); (case k43 => k_is)
      (case a44 => k_is); (case l44 => k_is); (case c44 => k_is); (case k44 => k_is)
      (case a45 => k_is); (case l45 => k_is); (case c45 => k_is); (case k45 => k_is)
      (case a46 => k_is); (case l46 => k_is); (case c46 => k_is); (case k46 => k_is)
      (case a47 => k_is); (case l47 => k_is); (case c47 => k_is); (case k47 => k_is)
      (case a48 => k_is); (case l48 => k_is); (case c48 => k_is); (case k48 => k_is)
      (case a49 => k_is); (case l49 => k_is); (case c49 => k_is); (case k49 => k_is)
      (case a50 => k_is); (case l50 => k_is); (case c50 => k_is); (case k50 => k_is)
      (case a51 => k_is); (case l51 => k_is); (case c51 => k_is); (case k51 => k_is)
      (case a52 => k_is); (case l52 => k_is); (case c52 => k_is); (case k52 => k_is)
      (case a53 => k_is); (case l53 => k_is); (case c53 => k_is); (case k53 => k_is)
      (case a54 => k_is); (case l54 => k_is); (case c54 => k_is); (case k54 => k_is)
      (case a55 => k_is); (case l55 => k_is); (case c55 => k_is); (case k55 => k_is)
      (case a56 => k_is); (case l56 => k_is); (case c56 => k_is); (case k56 => k_is)
      (case a57 => k_is); (case l57 => k_is); (case c57 => k_is); (case k57 => k_is)
      (case a58 => k_is); (case l58 => k_is); (case c58 => k_is); (case k58 => k_is)
      (case z0 => k_is)
      (case z1 => k_is)
      (case z2 => k_is)
      (case z3 => k_is)
      (case z4 => k_is)
      (case z5 => k_is)
      (case z6 => k_is)
      (case z7 => k_is)
      (case z8 => k_is)
      (case z9 => k_is)
      (case z10 => k_is)
      (case z11 => k_is)
      (case z12 => k_is)
      (case z13 => k_is)
      (case z14 => k_is)
      (case z15 => k_is)
      (case z16 => k_is)
