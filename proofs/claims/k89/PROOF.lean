import PyProof.Rows.All
import Wide.All
import OpenK.AllK
import Wide.FinOn
import HandS.ForMost
import HandS.Exc
import HandS.TryOnly
import HandS.ExcOwn
import HandS.WordsExc
import HandS.IsInst
import HandS.ExcIs
import HandS.DictComp
import HandS.Walk
import HandS.Conv
import HandS.Codes
import HandS.OwnEq
import KE.KExcIs
import HandS.ExcInit
import HandS.ExcField
import HandS.TupSets
import HandS.SortOrd
import HandS.SetBool
import HandS.TupAny
import HandS.Wide
import HandS.Strs
import HandS.Defaults
import PyProof.Rows.Range3
import HandS.FStr
import HandS.Nested
import HandS.Comp
import HandS.Style
import KE.DataCmp
import PyProof.StrOps2
import HandS.Text
import KE.IntTextText
import PyProof.StrLawsChain
import PyProof.StrLawsTight
import PyProof.Rows.StrDigitsNeg
import PyProof.Rows.StrItems
import PyProof.Rows.StrSplitAre
import HandS.SortKw
import KE.GoesEnumKw
import HandS.More
import HandS.Ends
import KE.KExcStr
import KE.RegKIsAll
import PySem.Challenge.RW_foldbough_k89_tables_as_texts
set_option Elab.async false
set_option linter.all false
set_option maxRecDepth 100000
/-! Mathematics of forests of names told as lists of pairs. -/
namespace TM
open PySem L2
/-- one to eight small letters -/
def NameOk (s : Str) : Prop := 1 ≤ s.length ∧ s.length ≤ 8 ∧ ∀ c ∈ s.cps.toList, 97 ≤ c ∧ c ≤ 122
inductive Fo where
  | nil
  | cons (c : Str) (kids rest : Fo)
abbrev Pr := Str × Option Str
def flat : Fo → Option Str → List Pr
  | .nil, _ => []
  | .cons c k r, u => (c, u) :: (flat k (some c) ++ flat r u)
def names : Fo → List Str
  | .nil => []
  | .cons c k r => c :: (names k ++ names r)
def app : Fo → Fo → Fo
  | .nil, g => g
  | .cons c k r, g => .cons c k (app r g)
/-- the forest beneath u of a list of pairs in which overs stand ahead -/
def mk : List Pr → Option Str → Fo
  | [], _ => .nil
  | (c, o) :: r, u => if o = u then .cons c (mk r (some c)) (mk r u) else mk r u
def ord (ps : List Pr) (u : Option Str) : List Str := names (mk ps u)
theorem ord_nil (u : Option Str) : ord [] u = [] := rfl
theorem ord_cons (c : Str) (o : Option Str) (r : List Pr) (u : Option Str) : ord ((c, o) :: r) u = if o = u then c :: (ord r (some c) ++ ord r u) else ord r u := by
  unfold ord
  show names (if o = u then .cons c (mk r (some c)) (mk r u) else mk r u) = _
  split <;> rfl
theorem flat_names : ∀ (f : Fo) (u : Option Str), (flat f u).map Prod.fst = names f
  | .nil, _ => rfl
  | .cons c k r, u => by
    show c :: ((flat k (some c) ++ flat r u).map Prod.fst) = c :: (names k ++ names r)
    rw [List.map_append, flat_names k, flat_names r]
theorem flat_app : ∀ (f g : Fo) (u : Option Str), flat (app f g) u = flat f u ++ flat g u
  | .nil, _, _ => rfl
  | .cons c k r, g, u => by
    show (c, u) :: (flat k (some c) ++ flat (app r g) u) = (c, u) :: (flat k (some c) ++ flat r u) ++ flat g u
    rw [flat_app r g u, List.cons_append, List.append_assoc]
theorem names_app : ∀ (f g : Fo), names (app f g) = names f ++ names g
  | .nil, _ => rfl
  | .cons c k r, g => by
    show c :: (names k ++ names (app r g)) = c :: (names k ++ names r) ++ names g
    rw [names_app r g, List.cons_append, List.append_assoc]
theorem app_nil : ∀ f : Fo, app f .nil = f
  | .nil => rfl
  | .cons c k r => by show Fo.cons c k (app r .nil) = _; rw [app_nil r]
/-- every over told is none, or a name that is told ahead; names unlike -/
def Valid : List Str → List Pr → Prop
  | _, [] => True
  | seen, (c, o) :: r => c ∉ seen ∧ (∀ x, o = some x → x ∈ seen) ∧ Valid (seen ++ [c]) r
theorem valid_notin : ∀ {ps : List Pr} {seen : List Str} {x : Str}, Valid seen ps → x ∈ seen → x ∉ ps.map Prod.fst
  | [], _, _, _, _ => by simp
  | (c, o) :: r, seen, x, h, hx => by
    obtain ⟨h1, _, h3⟩ := h
    have ih := valid_notin (x := x) h3 (List.mem_append_left _ hx)
    simp only [List.map_cons, List.mem_cons, not_or]
    exact ⟨fun e => h1 (e ▸ hx), ih⟩
theorem valid_nodup : ∀ {ps : List Pr} {seen : List Str}, Valid seen ps → (ps.map Prod.fst).Nodup
  | [], _, _ => by simp
  | (c, o) :: r, seen, h => by
    obtain ⟨_, _, h3⟩ := h
    simp only [List.map_cons, List.nodup_cons]
    exact ⟨valid_notin h3 (by simp), valid_nodup h3⟩
/-- nothing stands beneath a name that is told nowhere as an over -/
theorem mk_none : ∀ {ps : List Pr} {u : Option Str}, (∀ p ∈ ps, p.2 ≠ u) → mk ps u = .nil
  | [], _, _ => rfl
  | (c, o) :: r, u, h => by
    show (if o = u then _ else mk r u) = _
    rw [if_neg (h (c, o) List.mem_cons_self)]
    exact mk_none fun p hp => h p (List.mem_cons_of_mem _ hp)
/-- a forest told in its own order, and what comes behind -/
theorem mk_flat : ∀ (f : Fo) (r : List Pr) (u : Option Str), (names f).Nodup → (∀ x ∈ names f, u ≠ some x) → (∀ p ∈ r, ∀ x ∈ names f, p.2 ≠ some x) →
    mk (flat f u ++ r) u = app f (mk r u) ∧ ∀ v, v ≠ u → (∀ x ∈ names f, v ≠ some x) → mk (flat f u ++ r) v = mk r v
  | .nil, r, u, _, _, _ => ⟨rfl, fun v _ _ => rfl⟩
  | .cons c k s, r, u, hn, hu, hr => by
    have hn' : (c :: (names k ++ names s)).Nodup := hn
    rw [List.nodup_cons, List.nodup_append] at hn'
    obtain ⟨hc, hk, hs, hks⟩ := hn'
    have hck : c ∉ names k := fun z => hc (List.mem_append_left _ z)
    have hcs : c ∉ names s := fun z => hc (List.mem_append_right _ z)
    have mem_k : ∀ x ∈ names k, x ∈ names (Fo.cons c k s) := fun x hx => List.mem_cons_of_mem _ (List.mem_append_left _ hx)
    have mem_s : ∀ x ∈ names s, x ∈ names (Fo.cons c k s) := fun x hx => List.mem_cons_of_mem _ (List.mem_append_right _ hx)
    have mem_c : c ∈ names (Fo.cons c k s) := List.mem_cons_self
    have huc : u ≠ some c := hu c mem_c
    -- the rest behind the kids
    have over_s : ∀ p ∈ flat s u, p.2 = u ∨ ∃ x ∈ names s, p.2 = some x := by
      have gen : ∀ (f : Fo) (u : Option Str), ∀ p ∈ flat f u, p.2 = u ∨ ∃ x ∈ names f, p.2 = some x := by
        intro f
        induction f with
        | nil => intro u p hp; cases hp
        | cons c k r ihk ihr =>
          intro u p hp
          have hp' : p ∈ (c, u) :: (flat k (some c) ++ flat r u) := hp
          rcases List.mem_cons.mp hp' with e | hp'
          · left; rw [e]
          · rcases List.mem_append.mp hp' with hp' | hp'
            · rcases ihk _ p hp' with e | ⟨x, hx, e⟩
              · exact .inr ⟨c, List.mem_cons_self, e⟩
              · exact .inr ⟨x, List.mem_cons_of_mem _ (List.mem_append_left _ hx), e⟩
            · rcases ihr _ p hp' with e | ⟨x, hx, e⟩
              · exact .inl e
              · exact .inr ⟨x, List.mem_cons_of_mem _ (List.mem_append_right _ hx), e⟩
      exact gen s u
    have hR : ∀ p ∈ flat s u ++ r, ∀ x ∈ names k, p.2 ≠ some x := by
      intro p hp x hx e
      rcases List.mem_append.mp hp with hp | hp
      · rcases over_s p hp with e2 | ⟨y, hy, e2⟩
        · exact hu x (mem_k x hx) (e2 ▸ e)
        · rw [e2] at e
          exact hks x hx y hy (Option.some.inj e).symm
      · exact hr p hp x (mem_k x hx) e
    obtain ⟨k1, k2⟩ := mk_flat k (flat s u ++ r) (some c) hk (fun x hx e => hck (Option.some.inj e ▸ hx)) hR
    obtain ⟨s1, s2⟩ := mk_flat s r u hs (fun x hx => hu x (mem_s x hx)) (fun p hp x hx => hr p hp x (mem_s x hx))
    have rc : mk r (some c) = .nil := mk_none fun p hp => hr p hp c mem_c
    have sc : mk (flat s u ++ r) (some c) = .nil := by
      rw [s2 (some c) huc.symm (fun x hx e => hcs (Option.some.inj e ▸ hx)), rc]
    have e0 : flat (Fo.cons c k s) u ++ r = (c, u) :: (flat k (some c) ++ (flat s u ++ r)) := by
      show (c, u) :: (flat k (some c) ++ flat s u) ++ r = _
      rw [List.cons_append, List.append_assoc]
    rw [e0]
    refine ⟨?_, fun v hvu hv => ?_⟩
    · show (if u = u then Fo.cons c (mk (flat k (some c) ++ (flat s u ++ r)) (some c)) (mk (flat k (some c) ++ (flat s u ++ r)) u) else _) = Fo.cons c k (app s (mk r u))
      rw [if_pos rfl, k1, sc, app_nil, k2 u huc (fun x hx => hu x (mem_k x hx)), s1]
    · show (if u = v then _ else mk (flat k (some c) ++ (flat s u ++ r)) v) = _
      rw [if_neg (fun e => hvu e.symm), k2 v (hv c mem_c) (fun x hx => hv x (mem_k x hx)), s2 v hvu (fun x hx => hv x (mem_s x hx))]
theorem mk_own {f : Fo} (hn : (names f).Nodup) : mk (flat f none) none = f := by
  have h := (mk_flat f [] none hn (fun _ _ e => nomatch e) (fun p hp => nomatch hp)).1
  rw [List.append_nil] at h
  rw [h]
  exact app_nil f
theorem mk_two {f g : Fo} (hn : (names (app f g)).Nodup) : mk (flat f none ++ flat g none) none = app f g := by
  rw [← flat_app]
  exact mk_own hn
/-- a forest told in its own order is validly told -/
theorem valid_app : ∀ {ps qs : List Pr} {seen : List Str}, Valid seen ps → Valid (seen ++ ps.map Prod.fst) qs → Valid seen (ps ++ qs)
  | [], qs, seen, _, h => by simpa using h
  | (c, o) :: r, qs, seen, ⟨h1, h2, h3⟩, h => by
    refine ⟨h1, h2, valid_app h3 ?_⟩
    simpa [List.append_assoc] using h
theorem valid_flat : ∀ (f : Fo) (seen : List Str) (u : Option Str), (∀ x, u = some x → x ∈ seen) → (seen ++ names f).Nodup → Valid seen (flat f u)
  | .nil, _, _, _, _ => trivial
  | .cons c k r, seen, u, hu, hn => by
    have hn' : (seen ++ c :: (names k ++ names r)).Nodup := hn
    have e1 : seen ++ c :: (names k ++ names r) = seen ++ [c] ++ names k ++ names r := by simp [List.append_assoc]
    rw [e1] at hn'
    have n1 : (seen ++ [c] ++ names k).Nodup := (List.nodup_append.mp hn').1
    have n2 : (seen ++ [c]).Nodup := (List.nodup_append.mp n1).1
    refine ⟨fun hc => ?_, hu, valid_app (valid_flat k _ (some c) (fun x e => by cases e; simp) n1) ?_⟩
    · have := (List.nodup_append.mp n2).2.2
      exact this c hc c (by simp) rfl
    · rw [flat_names]
      exact valid_flat r _ u (fun x e => List.mem_append_left _ (List.mem_append_left _ (hu x e))) hn'
theorem over_flat : ∀ (f : Fo) (u : Option Str), ∀ p ∈ flat f u, p.2 = u ∨ ∃ x ∈ names f, p.2 = some x := by
  intro f
  induction f with
  | nil => intro u p hp; cases hp
  | cons c k r ihk ihr =>
    intro u p hp
    have hp' : p ∈ (c, u) :: (flat k (some c) ++ flat r u) := hp
    rcases List.mem_cons.mp hp' with e | hp'
    · left; rw [e]
    · rcases List.mem_append.mp hp' with hp' | hp'
      · rcases ihk _ p hp' with e | ⟨x, hx, e⟩
        · exact .inr ⟨c, List.mem_cons_self, e⟩
        · exact .inr ⟨x, List.mem_cons_of_mem _ (List.mem_append_left _ hx), e⟩
      · rcases ihr _ p hp' with e | ⟨x, hx, e⟩
        · exact .inl e
        · exact .inr ⟨x, List.mem_cons_of_mem _ (List.mem_append_right _ hx), e⟩
end TM
namespace TM
open PySem L2
theorem valid_at : ∀ {ps : List Pr} {seen : List Str} {i : Nat} {c : Str} {o : Option Str}, Valid seen ps → ps[i]? = some (c, o) → c ∉ seen ++ (ps.take i).map Prod.fst ∧ ∀ x, o = some x → x ∈ seen ++ (ps.take i).map Prod.fst
  | [], _, _, _, _, _, h => by simp at h
  | (a, b) :: r, seen, 0, c, o, ⟨h1, h2, _⟩, h => by
    simp only [List.getElem?_cons_zero, Option.some.injEq, Prod.mk.injEq] at h
    obtain ⟨rfl, rfl⟩ := h
    simpa using ⟨h1, h2⟩
  | (a, b) :: r, seen, i + 1, c, o, ⟨h1, h2, h3⟩, h => by
    have h' : r[i]? = some (c, o) := by simpa using h
    have ih := valid_at h3 h'
    simpa [List.append_assoc] using ih
theorem valid_take : ∀ {ps : List Pr} {seen : List Str} (i : Nat), Valid seen ps → Valid seen (ps.take i)
  | [], _, i, _ => by simp [Valid]
  | (a, b) :: r, seen, 0, _ => trivial
  | (a, b) :: r, seen, i + 1, ⟨h1, h2, h3⟩ => ⟨h1, h2, valid_take i h3⟩
/-- nothing ahead of a suffix stands right beneath u -/
def Below (ps : List Pr) (u : Option Str) (n : Nat) : Prop := ∃ pre t, ps = pre ++ t ∧ t.length < n ∧ ∀ p ∈ pre, p.2 ≠ u
theorem below_top (ps : List Pr) {n : Nat} (h : ps.length < n) : Below ps none n := ⟨[], ps, rfl, h, fun _ h => nomatch h⟩
/-- the over of a name stands nowhere ahead of it -/
theorem ahead : ∀ {ps : List Pr} {seen : List Str} {x : Str}, Valid seen ps → x ∉ seen → x ∉ ps.map Prod.fst → ∀ p ∈ ps, p.2 ≠ some x
  | [], _, _, _, _, _, p, hp => nomatch hp
  | (a, b) :: r, seen, x, ⟨h1, h2, h3⟩, hs, hx, p, hp => by
    rw [List.map_cons, List.mem_cons, not_or] at hx
    rcases List.mem_cons.mp hp with e | hp
    · rw [e]
      intro e2
      exact hs (h2 x e2)
    · exact ahead h3 (by simp [hs, hx.1]) hx.2 p hp
/-- beneath a column there is only what stands behind it -/
theorem ahead_at {ps : List Pr} {i : Nat} {c : Str} {o : Option Str} (va : Valid [] ps) (h : ps[i]? = some (c, o)) : ∀ p ∈ ps.take (i + 1), p.2 ≠ some c := by
  have hc := (valid_at va h).1
  rw [List.nil_append] at hc
  have e : ps.take (i + 1) = ps.take i ++ [(c, o)] := by rw [List.take_add_one, h]; rfl
  intro p hp
  rw [e] at hp
  rcases List.mem_append.mp hp with hp | hp
  · exact ahead (valid_take i va) (by simp) hc p hp
  · rw [List.mem_singleton.mp hp]
    intro e2
    have h2 := (valid_at va h).2 c e2
    rw [List.nil_append] at h2
    exact hc h2
theorem below_at {ps : List Pr} {i : Nat} {c : Str} {o : Option Str} {n : Nat} (va : Valid [] ps) (h : ps[i]? = some (c, o)) (b : Below ps o (n + 1)) : Below ps (some c) n := by
  obtain ⟨pre, t, e, hl, hp⟩ := b
  have hi : i < ps.length := (List.getElem?_eq_some_iff.mp h).1
  have hpi : pre.length ≤ i := by
    refine Nat.le_of_not_lt fun hlt => ?_
    have : pre[i]? = some (c, o) := by
      rw [e, List.getElem?_append_left hlt] at h
      exact h
    exact hp _ (List.mem_of_getElem? this) rfl
  refine ⟨ps.take (i + 1), ps.drop (i + 1), (List.take_append_drop _ _).symm, ?_, ahead_at va h⟩
  rw [List.length_drop]
  have := congrArg List.length e
  rw [List.length_append] at this
  omega
theorem mk_skip : ∀ {pre t : List Pr} {u : Option Str}, (∀ p ∈ pre, p.2 ≠ u) → mk (pre ++ t) u = mk t u
  | [], _, _, _ => rfl
  | (c, o) :: r, t, u, h => by
    show (if o = u then _ else mk (r ++ t) u) = _
    rw [if_neg (h (c, o) List.mem_cons_self)]
    exact mk_skip fun p hp => h p (List.mem_cons_of_mem _ hp)
/-- the order, told as the program tells it -/
def step (ps : List Pr) (u : Option Str) (p : Pr) : List Str := if p.2 = u then p.1 :: ord ps (some p.1) else []
theorem ord_suffix {ps : List Pr} (va : Valid [] ps) (u : Option Str) : ∀ (t pre : List Pr), ps = pre ++ t → ord t u = t.flatMap (step ps u)
  | [], _, _ => rfl
  | (c, o) :: r, pre, e => by
    have hi : ps[pre.length]? = some (c, o) := by rw [e]; simp
    have h1 : ord ps (some c) = ord r (some c) := by
      have h2 := ahead_at va hi
      have e2 : ps = ps.take (pre.length + 1) ++ r := by
        have e3 : pre ++ (c, o) :: r = (pre ++ [(c, o)]) ++ r := by simp
        have e4 : ps.take (pre.length + 1) = pre ++ [(c, o)] := by
          rw [e, e3, List.take_append_of_le_length (by simp)]
          rw [List.take_of_length_le (by simp)]
        rw [e4, ← e3]
        exact e
      unfold ord
      rw [e2, mk_skip h2]
    have ih := ord_suffix va u r (pre ++ [(c, o)]) (by rw [e]; simp)
    rw [ord_cons, List.flatMap_cons, ← ih]
    unfold step
    rw [h1]
    by_cases ho : o = u
    · simp [ho]
    · simp [ho]
theorem ord_flat {ps : List Pr} (va : Valid [] ps) (u : Option Str) : ord ps u = ps.flatMap (step ps u) := ord_suffix va u ps [] rfl
theorem ord_take {ps : List Pr} {u : Option Str} {i : Nat} {q : Pr} (h : ps[i]? = some q) : (ps.take (i + 1)).flatMap (step ps u) = (ps.take i).flatMap (step ps u) ++ step ps u q := by
  rw [List.take_add_one, h, List.flatMap_append]
  show _ ++ (step ps u q ++ []) = _
  rw [List.append_nil]
/-- the names in the tree's order are the names told -/
theorem pick : ∀ {us : List (Option Str)} {o : Option Str} {A : List Str} {g : Option Str → List Str}, us.Nodup → o ∈ us → (us.flatMap fun u => if o = u then A ++ g u else g u).Perm (A ++ us.flatMap g)
  | [], _, _, _, _, h => nomatch h
  | v :: us, o, A, g, hn, h => by
    rw [List.nodup_cons] at hn
    by_cases e : o = v
    · have hn2 : o ∉ us := e ▸ hn.1
      have e2 : (us.flatMap fun u => if o = u then A ++ g u else g u) = us.flatMap g := by
        clear hn h
        induction us with
        | nil => rfl
        | cons x r ih =>
          rw [List.mem_cons, not_or] at hn2
          rw [List.flatMap_cons, List.flatMap_cons, ih hn2.2, if_neg hn2.1]
      rw [List.flatMap_cons, List.flatMap_cons, e2, if_pos e, List.append_assoc]
    · have h2 : o ∈ us := (List.mem_cons.mp h).resolve_left e
      rw [List.flatMap_cons, List.flatMap_cons, if_neg e]
      have ih := pick (A := A) (g := g) hn.2 h2
      refine ((List.Perm.append_left (g v) ih).trans ?_)
      rw [← List.append_assoc, ← List.append_assoc]
      exact List.Perm.append_right _ List.perm_append_comm
theorem ords_perm : ∀ {ps : List Pr} {seen : List Str}, seen.Nodup → Valid seen ps → ((none :: seen.map some).flatMap (ord ps)).Perm (ps.map Prod.fst)
  | [], seen, _, _ => by
    have : ∀ us : List (Option Str), us.flatMap (ord []) = [] := by
      intro us
      induction us with
      | nil => rfl
      | cons u us ih => rw [List.flatMap_cons, ih]; rfl
    rw [this]
    exact List.Perm.nil
  | (c, o) :: r, seen, hn, ⟨h1, h2, h3⟩ => by
    have hn2 : (seen ++ [c]).Nodup := by
      rw [List.nodup_append]
      refine ⟨hn, by simp, fun a ha b hb => ?_⟩
      rw [List.mem_singleton.mp hb]
      exact fun e => h1 (e ▸ ha)
    have ih := ords_perm hn2 h3
    have hu : (none :: seen.map some : List (Option Str)).Nodup := by
      rw [List.nodup_cons]
      refine ⟨by simp, ?_⟩
      rw [List.nodup_iff_pairwise_ne, List.pairwise_map]
      exact List.Pairwise.imp (fun h e => h (Option.some.inj e)) (List.nodup_iff_pairwise_ne.mp hn)
    have ho : o ∈ (none :: seen.map some : List (Option Str)) := by
      cases o with
      | none => exact List.mem_cons_self
      | some x => exact List.mem_cons_of_mem _ (List.mem_map.mpr ⟨x, h2 x rfl, rfl⟩)
    have e1 : (none :: seen.map some).flatMap (ord ((c, o) :: r)) = (none :: seen.map some).flatMap fun u => if o = u then (c :: ord r (some c)) ++ ord r u else ord r u := by
      congr 1
      funext u
      rw [ord_cons]
      split <;> rfl
    rw [e1]
    refine (pick hu ho).trans ?_
    rw [List.map_cons, List.cons_append]
    refine List.Perm.cons c ?_
    refine List.Perm.trans ?_ ih
    rw [List.map_append, ← List.cons_append, List.flatMap_append]
    have e3 : List.flatMap (ord r) (List.map some [c]) = ord r (some c) := by
      show ord r (some c) ++ [] = _
      rw [List.append_nil]
    rw [e3]
    exact List.perm_append_comm
theorem ord_perm {ps : List Pr} (va : Valid [] ps) : (ord ps none).Perm (ps.map Prod.fst) := by
  have := ords_perm List.nodup_nil va
  simpa using this
theorem ord_nodup {ps : List Pr} (va : Valid [] ps) : (ord ps none).Nodup := (List.Perm.nodup_iff (ord_perm va)).mpr (valid_nodup va)
/-- the pairs in the tree's order are pairs told -/
theorem mk_sub : ∀ {ps : List Pr} {u : Option Str} {p : Pr}, p ∈ flat (mk ps u) u → p ∈ ps
  | [], _, _, h => nomatch h
  | (c, o) :: r, u, p, h => by
    have h' : p ∈ flat (if o = u then .cons c (mk r (some c)) (mk r u) else mk r u) u := h
    by_cases e : o = u
    · rw [if_pos e] at h'
      have h'' : p ∈ (c, u) :: (flat (mk r (some c)) (some c) ++ flat (mk r u) u) := h'
      rcases List.mem_cons.mp h'' with e2 | h2
      · rw [e2, e]
        exact List.mem_cons_self
      · rcases List.mem_append.mp h2 with h2 | h2
        · exact List.mem_cons_of_mem _ (mk_sub h2)
        · exact List.mem_cons_of_mem _ (mk_sub h2)
    · rw [if_neg e] at h'
      exact List.mem_cons_of_mem _ (mk_sub h')
end TM
namespace TM
open PySem L2
theorem flat_le {α β : Type} {f : α → List β} {k : Nat} : ∀ {l : List α}, (∀ a ∈ l, (f a).length ≤ k) → (l.flatMap f).length ≤ k * l.length
  | [], _ => by simp
  | a :: r, h => by
    rw [List.flatMap_cons, List.length_append, List.length_cons, Nat.mul_succ]
    have h1 := h a List.mem_cons_self
    have h2 := flat_le (l := r) fun b hb => h b (List.mem_cons_of_mem _ hb)
    omega
theorem flat_no {ps : List Pr} {c : Str} {o : Option Str} {us : List (Option Str)} (h : o ∉ us) : us.flatMap (ord ((c, o) :: ps)) = us.flatMap (ord ps) := by
  induction us with
  | nil => rfl
  | cons u r ih =>
    rw [List.mem_cons, not_or] at h
    rw [List.flatMap_cons, List.flatMap_cons, ih h.2, ord_cons, if_neg h.1]
theorem ords_le : ∀ {ps : List Pr} {seen : List Str} {us : List (Option Str)}, us.Nodup → Valid seen ps → (∀ x ∈ ps.map Prod.fst, some x ∉ us) → (us.flatMap (ord ps)).length ≤ ps.length
  | [], _, us, _, _, _ => by
    induction us with
    | nil => exact Nat.le_refl _
    | cons u us ih =>
      rw [List.flatMap_cons, List.length_append]
      rename_i h _ _
      have := ih (List.nodup_cons.mp (by assumption)).2 (fun x hx => nomatch hx)
      rw [ord_nil]
      simpa using this
  | (c, o) :: r, seen, us, hu, ⟨h1, h2, h3⟩, hx => by
    by_cases ho : o ∈ us
    · have e1 : us.flatMap (ord ((c, o) :: r)) = us.flatMap fun u => if o = u then (c :: ord r (some c)) ++ ord r u else ord r u := by
        congr 1
        funext u
        rw [ord_cons]
        split <;> rfl
      rw [e1, (pick (A := c :: ord r (some c)) (g := ord r) hu ho).length_eq]
      have hc : some c ∉ us := hx c (by simp)
      have ih := ords_le (us := some c :: us) (List.nodup_cons.mpr ⟨hc, hu⟩) h3 (fun x hx2 h => by
        rcases List.mem_cons.mp h with e | h
        · have := valid_notin h3 (x := c) (by simp)
          exact this (Option.some.inj e ▸ hx2)
        · exact hx x (List.mem_cons_of_mem _ hx2) h)
      rw [List.flatMap_cons, List.length_append] at ih
      simp only [List.length_append, List.length_cons]
      omega
    · rw [flat_no ho]
      have ih := ords_le hu h3 (fun x hx2 => hx x (List.mem_cons_of_mem _ hx2))
      rw [List.length_cons]
      omega
theorem valid_drop : ∀ {ps : List Pr} {seen : List Str} (i : Nat), Valid seen ps → ∃ s, Valid s (ps.drop i)
  | [], seen, i, _ => ⟨seen, by simp [Valid]⟩
  | (a, b) :: r, seen, 0, h => ⟨seen, h⟩
  | (a, b) :: r, seen, i + 1, ⟨_, _, h3⟩ => valid_drop i h3
theorem ord_le {ps : List Pr} (va : Valid [] ps) (u : Option Str) : (ord ps u).length ≤ ps.length := by
  have one : ∀ (qs : List Pr) (s : List Str), Valid s qs → (∀ x ∈ qs.map Prod.fst, u ≠ some x) → (ord qs u).length ≤ qs.length := fun qs s v h => by
    have := ords_le (us := [u]) (by simp) v (fun x hx e => h x hx (List.mem_singleton.mp e).symm)
    simpa using this
  by_cases h : ∃ c, u = some c ∧ c ∈ ps.map Prod.fst
  · obtain ⟨c, rfl, hc⟩ := h
    obtain ⟨⟨c', o⟩, hm, rfl⟩ := List.mem_map.mp hc
    obtain ⟨i, hi, hie⟩ := List.getElem_of_mem hm
    have hq : ps[i]? = some (c', o) := by rw [List.getElem?_eq_getElem hi, hie]
    have e : ord ps (some c') = ord (ps.drop (i + 1)) (some c') := by
      unfold ord
      have := mk_skip (t := ps.drop (i + 1)) (ahead_at va hq)
      rw [List.take_append_drop] at this
      rw [this]
    obtain ⟨s, vs⟩ := valid_drop (i + 1) va
    have hnd := valid_nodup va
    rw [e]
    refine Nat.le_trans (one _ s vs fun x hx e2 => ?_) (by rw [List.length_drop]; omega)
    cases e2
    rw [List.map_drop] at hx
    obtain ⟨j, hj, hje⟩ := List.getElem_of_mem hx
    rw [List.getElem_drop] at hje
    have h1 : (ps.map Prod.fst)[i]'(by simpa using hi) = c' := by rw [List.getElem_map, hie]
    have := (List.getElem_inj hnd).mp (hje.trans h1.symm)
    omega
  · exact one ps [] va fun x hx e => h ⟨x, e, hx⟩
end TM

/-! Where a name stands in a forest: what is above it, what is beneath. -/
namespace TM
open PySem L2
/-- what is above a name, and the forest beneath it -/
def loc : Fo → Str → Option (List Str × Fo)
  | .nil, _ => none
  | .cons d k r, c => if d = c then some ([], k) else match loc k c with
    | some (a, q) => some (d :: a, q)
    | none => loc r c
def tops : Fo → List Str
  | .nil => []
  | .cons c _ r => c :: tops r
theorem loc_names : ∀ {f : Fo} {c : Str}, c ∈ names f → ∃ a q, loc f c = some (a, q)
  | .nil, _, h => nomatch h
  | .cons d k r, c, h => by
    unfold loc
    by_cases e : d = c
    · exact ⟨_, _, if_pos e⟩
    · rw [if_neg e]
      cases hk : loc k c with
      | some p => exact ⟨_, _, rfl⟩
      | none =>
        have h' : c ∈ d :: (names k ++ names r) := h
        rcases List.mem_cons.mp h' with e2 | h2
        · exact absurd e2.symm e
        · rcases List.mem_append.mp h2 with h2 | h2
          · obtain ⟨a, q, e3⟩ := loc_names h2
            rw [hk] at e3
            cases e3
          · exact loc_names h2
theorem loc_mem : ∀ {f : Fo} {c : Str} {a : List Str} {q : Fo}, loc f c = some (a, q) → c ∈ names f
  | .nil, _, _, _, h => by unfold loc at h; cases h
  | .cons d k r, c, a, q, h => by
    unfold loc at h
    show c ∈ d :: (names k ++ names r)
    by_cases e : d = c
    · rw [e]; exact List.mem_cons_self
    · rw [if_neg e] at h
      cases hk : loc k c with
      | some p =>
        obtain ⟨b, p⟩ := p
        exact List.mem_cons_of_mem _ (List.mem_append_left _ (loc_mem hk))
      | none =>
        rw [hk] at h
        exact List.mem_cons_of_mem _ (List.mem_append_right _ (loc_mem h))
theorem loc_none {f : Fo} {c : Str} (h : c ∉ names f) : loc f c = none := by
  cases e : loc f c with
  | none => rfl
  | some p => exact absurd (loc_mem (a := p.1) (q := p.2) e) h
theorem nd_parts {d : Str} {k r : Fo} (h : (names (.cons d k r)).Nodup) : d ∉ names k ∧ d ∉ names r ∧ (names k).Nodup ∧ (names r).Nodup ∧ ∀ x ∈ names k, x ∉ names r := by
  have h' : (d :: (names k ++ names r)).Nodup := h
  rw [List.nodup_cons, List.nodup_append] at h'
  exact ⟨fun z => h'.1 (List.mem_append_left _ z), fun z => h'.1 (List.mem_append_right _ z), h'.2.1, h'.2.2.1, fun x hx hy => h'.2.2.2 x hx x hy rfl⟩
/-- the three ways in which a name stands in a forest -/
theorem loc_cases {d : Str} {k r : Fo} {c : Str} {a : List Str} {q : Fo} (h : loc (.cons d k r) c = some (a, q)) : (d = c ∧ a = [] ∧ q = k) ∨ (d ≠ c ∧ ∃ b, a = d :: b ∧ loc k c = some (b, q)) ∨ (d ≠ c ∧ loc k c = none ∧ loc r c = some (a, q)) := by
  unfold loc at h
  by_cases e : d = c
  · rw [if_pos e] at h
    cases h
    exact .inl ⟨e, rfl, rfl⟩
  · rw [if_neg e] at h
    cases hk : loc k c with
    | some p =>
      obtain ⟨b, p⟩ := p
      rw [hk] at h
      cases h
      exact .inr (.inl ⟨e, b, rfl, rfl⟩)
    | none =>
      rw [hk] at h
      exact .inr (.inr ⟨e, rfl, h⟩)
theorem loc_here {d : Str} {k r : Fo} : loc (.cons d k r) d = some ([], k) := by unfold loc; exact if_pos rfl
theorem loc_in {d c : Str} {k r : Fo} {b : List Str} {q : Fo} (e : d ≠ c) (h : loc k c = some (b, q)) : loc (.cons d k r) c = some (d :: b, q) := by
  unfold loc
  rw [if_neg e, h]
theorem loc_by {d c : Str} {k r : Fo} (e : d ≠ c) (h : loc k c = none) : loc (.cons d k r) c = loc r c := by
  rw [loc.eq_def]
  dsimp only
  rw [if_neg e, h]
theorem loc_sub : ∀ {f : Fo} {c : Str} {a : List Str} {q : Fo}, loc f c = some (a, q) → (a ++ [c]).Sublist (names f)
  | .nil, _, _, _, h => by unfold loc at h; cases h
  | .cons d k r, c, a, q, h => by
    show (a ++ [c]).Sublist (d :: (names k ++ names r))
    rcases loc_cases h with ⟨rfl, rfl, rfl⟩ | ⟨_, b, rfl, g⟩ | ⟨_, _, g⟩
    · exact List.Sublist.cons_cons _ (List.nil_sublist _)
    · exact List.Sublist.cons_cons _ ((loc_sub g).trans (List.sublist_append_left _ _))
    · exact List.Sublist.cons _ ((loc_sub g).trans (List.sublist_append_right _ _))
/-- what is beneath a name stands behind it, in one piece -/
theorem loc_seg : ∀ {f : Fo} {c : Str} {a : List Str} {q : Fo}, loc f c = some (a, q) → ∃ A B, names f = A ++ (c :: names q) ++ B
  | .nil, _, _, _, h => by unfold loc at h; cases h
  | .cons d k r, c, a, q, h => by
    have e0 : names (.cons d k r) = d :: (names k ++ names r) := rfl
    rcases loc_cases h with ⟨rfl, rfl, rfl⟩ | ⟨_, b, rfl, g⟩ | ⟨_, _, g⟩
    · exact ⟨[], names r, rfl⟩
    · obtain ⟨A, B, e⟩ := loc_seg g
      exact ⟨d :: A, B ++ names r, by rw [e0, e]; simp⟩
    · obtain ⟨A, B, e⟩ := loc_seg g
      exact ⟨d :: (names k ++ A), B, by rw [e0, e]; simp⟩
/-- the column right above -/
def lastOr (a : List Str) (u : Option Str) : Option Str := match a.getLast? with
  | some x => some x
  | none => u
theorem lastOr_snoc (a : List Str) (x : Str) (u : Option Str) : lastOr (a ++ [x]) u = some x := by unfold lastOr; rw [List.getLast?_concat]
theorem lastOr_cons (d : Str) (a : List Str) (u : Option Str) : lastOr (d :: a) u = lastOr a (some d) := by
  cases a with
  | nil => rfl
  | cons x r =>
    unfold lastOr
    rw [List.getLast?_cons_cons]
    rw [List.getLast?_eq_some_getLast (by simp)]
theorem loc_flat : ∀ {f : Fo} {c : Str} {a : List Str} {q : Fo} (u : Option Str), loc f c = some (a, q) → (c, lastOr a u) ∈ flat f u
  | .nil, _, _, _, _, h => by unfold loc at h; cases h
  | .cons d k r, c, a, q, u, h => by
    show _ ∈ (d, u) :: (flat k (some d) ++ flat r u)
    rcases loc_cases h with ⟨rfl, rfl, rfl⟩ | ⟨_, b, rfl, g⟩ | ⟨_, _, g⟩
    · exact List.mem_cons_self
    · rw [lastOr_cons]
      exact List.mem_cons_of_mem _ (List.mem_append_left _ (loc_flat (some d) g))
    · exact List.mem_cons_of_mem _ (List.mem_append_right _ (loc_flat u g))
/-- each one above, with what is above it -/
theorem loc_up : ∀ {f : Fo} {c : Str} {a : List Str} {q : Fo}, (names f).Nodup → loc f c = some (a, q) → ∀ (a1 a2 : List Str) (x : Str), a = a1 ++ x :: a2 → ∃ q1, loc f x = some (a1, q1) ∧ c ∈ names q1
  | .nil, _, _, _, _, h => by unfold loc at h; cases h
  | .cons d k r, c, a, q, hn, h => by
    intro a1 a2 x e
    obtain ⟨n1, n2, n3, n4, n5⟩ := nd_parts hn
    rcases loc_cases h with ⟨rfl, rfl, rfl⟩ | ⟨hd, b, rfl, g⟩ | ⟨hd, hk, g⟩
    · simp at e
    · cases a1 with
      | nil =>
        have e' : d :: b = x :: a2 := e
        injection e' with e1 e2
        subst e1
        exact ⟨k, loc_here, loc_mem g⟩
      | cons y a1 =>
        have e' : d :: b = y :: (a1 ++ x :: a2) := e
        injection e' with e1 e2
        subst e1
        obtain ⟨q1, h1, h2⟩ := loc_up n3 g _ _ _ e2
        exact ⟨q1, loc_in (fun z => n1 (z ▸ loc_mem h1)) h1, h2⟩
    · obtain ⟨q1, h1, h2⟩ := loc_up n4 g _ _ _ e
      have hx := loc_mem h1
      exact ⟨q1, (loc_by (fun (z : d = x) => n2 (z ▸ hx)) (loc_none fun z => n5 _ z hx)).trans h1, h2⟩
/-- each one beneath -/
theorem loc_down : ∀ {f : Fo} {c o : Str} {a a2 : List Str} {q q2 : Fo}, (names f).Nodup → loc f c = some (a, q) → loc q o = some (a2, q2) → loc f o = some (a ++ c :: a2, q2)
  | .nil, _, _, _, _, _, _, _, h, _ => by unfold loc at h; cases h
  | .cons d k r, c, o, a, a2, q, q2, hn, h, h2 => by
    obtain ⟨n1, n2, n3, n4, n5⟩ := nd_parts hn
    rcases loc_cases h with ⟨rfl, rfl, rfl⟩ | ⟨hd, b, rfl, g⟩ | ⟨hd, hk, g⟩
    · exact loc_in (fun z => n1 (z ▸ loc_mem h2)) h2
    · have ih := loc_down n3 g h2
      exact loc_in (fun z => n1 (z ▸ loc_mem ih)) ih
    · have ih := loc_down n4 g h2
      have hx := loc_mem ih
      exact (loc_by (fun (z : d = o) => n2 (z ▸ hx)) (loc_none fun z => n5 _ z hx)).trans ih
theorem loc_top : ∀ {f : Fo} {c : Str}, (names f).Nodup → (c ∈ tops f ↔ ∃ q, loc f c = some ([], q))
  | .nil, c, _ => ⟨(fun h => nomatch h), (fun ⟨q, h⟩ => by unfold loc at h; cases h)⟩
  | .cons d k r, c, hn => by
    obtain ⟨n1, n2, n3, n4, n5⟩ := nd_parts hn
    constructor
    · intro h
      have h' : c ∈ d :: tops r := h
      rcases List.mem_cons.mp h' with e | h2
      · subst e
        exact ⟨k, loc_here⟩
      · obtain ⟨q, e⟩ := (loc_top n4).mp h2
        have hx := loc_mem e
        exact ⟨q, (loc_by (fun (z : d = c) => n2 (z ▸ hx)) (loc_none fun z => n5 _ z hx)).trans e⟩
    · rintro ⟨q, h⟩
      show c ∈ d :: tops r
      rcases loc_cases h with ⟨rfl, _, _⟩ | ⟨_, b, e, _⟩ | ⟨_, _, h⟩
      · exact List.mem_cons_self
      · cases e
      · exact List.mem_cons_of_mem _ ((loc_top n4).mpr ⟨q, h⟩)
theorem tops_sub : ∀ f : Fo, (tops f).Sublist (names f)
  | .nil => List.Sublist.slnil
  | .cons d k r => List.Sublist.cons_cons _ ((tops_sub r).trans (List.sublist_append_right _ _))
theorem filter_mem : ∀ {l s : List Str}, l.Nodup → s.Sublist l → (l.filter fun x => decide (x ∈ s)) = s
  | [], s, _, h => by
    cases h
    rfl
  | x :: l, s, hn, h => by
    rw [List.nodup_cons] at hn
    cases h with
    | cons _ h =>
      have hx : x ∉ s := fun z => hn.1 (h.subset z)
      rw [List.filter_cons_of_neg (by simpa using hx)]
      exact filter_mem hn.2 h
    | cons_cons _ h =>
      rename_i s
      rw [List.filter_cons_of_pos (by simp)]
      congr 1
      have e : (l.filter fun y => decide (y ∈ x :: s)) = l.filter fun y => decide (y ∈ s) := by
        refine List.filter_congr fun y hy => ?_
        have : y ≠ x := fun z => hn.1 (z ▸ hy)
        simp [this]
      rw [e]
      exact filter_mem hn.2 h
/-- above and beneath are one thing, told from both ends -/
theorem up_down {f : Fo} {c o : Str} {a a' : List Str} {q q' : Fo} (hn : (names f).Nodup) (hc : loc f c = some (a, q)) (ho : loc f o = some (a', q')) : c ∈ a' ↔ o ∈ names q := by
  constructor
  · intro h
    obtain ⟨a1, a2, e⟩ := List.append_of_mem h
    obtain ⟨q1, h1, h2⟩ := loc_up hn ho _ _ _ e
    rw [hc] at h1
    cases h1
    exact h2
  · intro h
    obtain ⟨a2, q2, h2⟩ := loc_names h
    have := loc_down hn hc h2
    rw [ho] at this
    cases this
    simp
/-- what is right beneath a name -/
theorem kid_iff {f : Fo} {c o : Str} {a a' : List Str} {q q' : Fo} (hn : (names f).Nodup) (hq : (names q).Nodup) (hc : loc f c = some (a, q)) (ho : loc f o = some (a', q')) : a'.getLast? = some c ↔ o ∈ tops q := by
  constructor
  · intro h
    obtain ⟨a1, e⟩ : ∃ a1, a' = a1 ++ [c] := by
      rw [List.getLast?_eq_some_iff] at h
      exact h
    obtain ⟨q1, h1, h2⟩ := loc_up hn ho a1 [] c e
    rw [hc] at h1
    cases h1
    obtain ⟨a2, q2, h3⟩ := loc_names h2
    have h4 := loc_down hn hc h3
    rw [ho] at h4
    obtain ⟨e4, _⟩ := Prod.mk.inj (Option.some.inj h4)
    rw [e] at e4
    have e5 : [c] = c :: a2 := List.append_cancel_left e4
    have e6 : a2 = [] := by
      have := (List.cons.inj e5).2
      exact this.symm
    subst e6
    exact (loc_top hq).mpr ⟨q2, h3⟩
  · intro h
    obtain ⟨q2, h3⟩ := (loc_top hq).mp h
    have h4 := loc_down hn hc h3
    rw [ho] at h4
    obtain ⟨e4, _⟩ := Prod.mk.inj (Option.some.inj h4)
    rw [e4, List.getLast?_concat]
theorem sub_nodup {f : Fo} {c : Str} {a : List Str} {q : Fo} (hn : (names f).Nodup) (h : loc f c = some (a, q)) : (c :: names q).Nodup := by
  obtain ⟨A, B, e⟩ := loc_seg h
  rw [e, List.append_assoc, List.nodup_append] at hn
  exact (List.nodup_append.mp hn.2.1).1
theorem seg_sub {f : Fo} {c : Str} {a : List Str} {q : Fo} (h : loc f c = some (a, q)) : (c :: names q).Sublist (names f) := by
  obtain ⟨A, B, e⟩ := loc_seg h
  rw [e, List.append_assoc]
  exact (List.sublist_append_left _ _).trans (List.sublist_append_right _ _)
/-- the names beneath, child by child -/
def kidsOf (f : Fo) (c : Str) : List Str := match loc f c with
  | some (_, q) => c :: names q
  | none => []
theorem kids_flat : ∀ {q : Fo}, (names q).Nodup → (tops q).flatMap (kidsOf q) = names q
  | .nil, _ => rfl
  | .cons d k r, hn => by
    obtain ⟨n1, n2, n3, n4, n5⟩ := nd_parts hn
    show (d :: tops r).flatMap (kidsOf (.cons d k r)) = d :: (names k ++ names r)
    rw [List.flatMap_cons]
    have e1 : kidsOf (.cons d k r) d = d :: names k := by unfold kidsOf; rw [loc_here]
    have e2 : (tops r).flatMap (kidsOf (.cons d k r)) = (tops r).flatMap (kidsOf r) := by
      have : ∀ l : List Str, (∀ x ∈ l, x ∈ names r) → l.flatMap (kidsOf (.cons d k r)) = l.flatMap (kidsOf r) := by
        intro l
        induction l with
        | nil => intro _; rfl
        | cons x t ih =>
          intro h
          rw [List.flatMap_cons, List.flatMap_cons, ih fun y hy => h y (List.mem_cons_of_mem _ hy)]
          congr 1
          have hx := h x List.mem_cons_self
          unfold kidsOf
          rw [loc_by (fun (z : d = x) => n2 (z ▸ hx)) (loc_none fun z => n5 _ z hx)]
      exact this _ fun x hx => (tops_sub r).subset hx
    rw [e1, e2, kids_flat n4, List.cons_append]
end TM
namespace TM
open PySem L2
theorem perm_eq {α : Type} {R : α → α → Prop} (anti : ∀ a b, R a b → R b a → a = b) : ∀ {l m : List α}, l.Perm m → l.Pairwise R → m.Pairwise R → l = m
  | [], m, h, _, _ => by
    have := h.length_eq
    cases m with
    | nil => rfl
    | cons b m => simp at this
  | a :: l, [], h, _, _ => by
    have := h.length_eq
    simp at this
  | a :: l, b :: m, h, h1, h2 => by
    have hab : a = b := by
      have ha : a ∈ b :: m := h.subset List.mem_cons_self
      have hb : b ∈ a :: l := h.symm.subset List.mem_cons_self
      rcases List.mem_cons.mp ha with e | ha
      · exact e
      · rcases List.mem_cons.mp hb with e | hb
        · exact e.symm
        · exact anti a b ((List.pairwise_cons.mp h1).1 b hb) ((List.pairwise_cons.mp h2).1 a ha)
    subst hab
    rw [perm_eq anti (List.Perm.cons_inv h) (List.pairwise_cons.mp h1).2 (List.pairwise_cons.mp h2).2]
/-- the first i trees of a forest -/
def takeF : Nat → Fo → Fo
  | 0, _ => .nil
  | _ + 1, .nil => .nil
  | i + 1, .cons c k r => .cons c k (takeF i r)
theorem takeF_all : ∀ f : Fo, takeF (tops f).length f = f
  | .nil => rfl
  | .cons c k r => by
    show Fo.cons c k (takeF (tops r).length r) = _
    rw [takeF_all r]
theorem takeF_next : ∀ {f : Fo} {i : Nat} {c : Str}, (names f).Nodup → (tops f)[i]? = some c → ∃ k, loc f c = some ([], k) ∧ takeF (i + 1) f = app (takeF i f) (.cons c k .nil)
  | .nil, i, c, _, h => by simp [tops] at h
  | .cons d k r, 0, c, _, h => by
    have e : d = c := by simpa [tops] using h
    subst e
    exact ⟨k, loc_here, rfl⟩
  | .cons d k r, i + 1, c, hn, h => by
    have h' : (tops r)[i]? = some c := by simpa [tops] using h
    obtain ⟨n1, n2, n3, n4, n5⟩ := nd_parts hn
    obtain ⟨q, h1, h2⟩ := takeF_next n4 h'
    have hx := loc_mem h1
    refine ⟨q, (loc_by (fun (z : d = c) => n2 (z ▸ hx)) (loc_none fun z => n5 _ z hx)).trans h1, ?_⟩
    show Fo.cons d k (takeF (i + 1) r) = Fo.cons d k (app (takeF i r) (.cons c q .nil))
    rw [h2]
theorem takeF_sub : ∀ (f : Fo) (i : Nat), (names (takeF i f)).Sublist (names f)
  | _, 0 => List.nil_sublist _
  | .nil, i + 1 => List.Sublist.slnil
  | .cons c k r, i + 1 => by
    show (c :: (names k ++ names (takeF i r))).Sublist (c :: (names k ++ names r))
    exact List.Sublist.cons_cons _ (List.Sublist.append_left (takeF_sub r i) _)
/-- the pairs of one tree, picked out of a forest's -/
theorem pick_tree : ∀ {f : Fo} {c : Str} {k : Fo}, (names f).Nodup → loc f c = some ([], k) → (flat f none).filter (fun q => decide (q.1 ∈ c :: names k)) = flat (.cons c k .nil) none
  | .nil, _, _, _, h => by unfold loc at h; cases h
  | .cons d k' r, c, k, hn, h => by
    obtain ⟨n1, n2, n3, n4, n5⟩ := nd_parts hn
    have keep : ∀ (l : List Pr), (∀ q ∈ l, q.1 ∈ c :: names k) → l.filter (fun q => decide (q.1 ∈ c :: names k)) = l := fun l hl => List.filter_eq_self.mpr fun q hq => decide_eq_true (hl q hq)
    have drop : ∀ (l : List Pr), (∀ q ∈ l, q.1 ∉ c :: names k) → l.filter (fun q => decide (q.1 ∈ c :: names k)) = [] := fun l hl => List.filter_eq_nil_iff.mpr fun q hq z => hl q hq (of_decide_eq_true z)
    have nm : ∀ {g : Fo} {u : Option Str} {q : Pr}, q ∈ flat g u → q.1 ∈ names g := fun {g u q} hq => by rw [← flat_names g u]; exact List.mem_map.mpr ⟨q, hq, rfl⟩
    show ((d, none) :: (flat k' (some d) ++ flat r none)).filter _ = (c, none) :: (flat k (some c) ++ [])
    rcases loc_cases h with ⟨rfl, _, rfl⟩ | ⟨_, b, e, _⟩ | ⟨hd, hk, g⟩
    · rw [List.filter_cons_of_pos (by simp), List.filter_append, keep (flat k (some d)) fun q hq => List.mem_cons_of_mem _ (nm hq), drop (flat r none) fun q hq z => ?_]
      rcases List.mem_cons.mp z with z | z
      · exact n2 (z ▸ nm hq)
      · exact n5 _ z (nm hq)
    · cases e
    · have hs := seg_sub g
      rw [List.filter_cons_of_neg (by
        intro z
        exact n2 (hs.subset (of_decide_eq_true z))), List.filter_append, drop (flat k' (some d)) fun q hq z => n5 _ (nm hq) (hs.subset z), List.nil_append]
      exact pick_tree n4 g
end TM

set_option maxHeartbeats 2000000
/-! Words of our own, over any row. -/
namespace TX
open PySem L2 PyProof.Rows
/-- the built-in names that the text leaves alone -/
structure Bn (mg : Str → Option Value) : Prop where
  len : mg "len" = none
  isi : mg "isinstance" = none
  str : mg "str" = none
  list : mg "list" = none
  tuple : mg "tuple" = none
  dict : mg "dict" = none
  int : mg "int" = none
  range : mg "range" = none
  enum : mg "enumerate" = none
  all : mg "all" = none
  any : mg "any" = none
  max : mg "max" = none
  sorted : mg "sorted" = none
/-- a def of the module, ready to be called -/
structure Fn (K : PySem.W.Frag) (mg : Str → Option Value) (x : Str) (st : Stmt) (ps : List Str) (f : Addr) (fd : FuncData) : Prop where
  F : Fun K x x st f fd
  g : mg x = some (.ref f)
  b : Binds K fd ps []
/-- all that was tracked but at W is as it was -/
def Sm (W : Addr) (H H' : Hp) : Prop := ∀ b o, b ≠ W → H b = some o → H' b = some o
theorem Sm.rfl' {W : Addr} {H : Hp} : Sm W H H := fun _ _ _ h => h
theorem Sm.trans {W : Addr} {H H1 H2 : Hp} (a : Sm W H H1) (b : Sm W H1 H2) : Sm W H H2 := fun c o n h => b c o n (a c o n h)
theorem Sm.of {W : Addr} {H H' : Hp} (s : Same H H') : Sm W H H' := fun c o _ h => s c o h
theorem Same.new {H : Hp} {p : Addr} {o : HO} (h : H p = none) : Same H (upd H p o) := fun a u e => by rw [upd_ne (ne_of_none e h)]; exact e
theorem Same.new' {H H1 : Hp} {p : Addr} {o : HO} (s : Same H H1) (h : H1 p = none) : Same H (upd H1 p o) := s.trans (Same.new h)
theorem Sm.new {W : Addr} {H H1 : Hp} {p : Addr} {o : HO} (s : Sm W H H1) (h : H1 p = none) : Sm W H (upd H1 p o) := s.trans (.of (Same.new h))
theorem Sm.put {W : Addr} {H H1 : Hp} {o : HO} (s : Sm W H H1) : Sm W H (upd H1 W o) := fun a u n e => by rw [upd_ne n]; exact s a u n e
/-- a well: three ints; n draws may follow -/
def WellAt (n : Nat) (H : Hp) (W : Addr) : Prop := ∃ a b c : Int, H W = some (.lst [.int a, .int b, .int c]) ∧ 0 ≤ b ∧ b < 2147483648 ∧ 0 ≤ c ∧ c + n ≤ 1000000000000
theorem WellAt.mono {n m : Nat} {H : Hp} {W : Addr} (h : WellAt n H W) (hm : m ≤ n) : WellAt m H W := by
  obtain ⟨a, b, c, e, h1, h2, h3, h4⟩ := h
  exact ⟨a, b, c, e, h1, h2, h3, by omega⟩
theorem WellAt.same {n : Nat} {H H' : Hp} {W : Addr} (h : WellAt n H W) (s : Same H H') : WellAt n H' W := by
  obtain ⟨a, b, c, e, r⟩ := h
  exact ⟨a, b, c, s _ _ e, r⟩
theorem WellAt.new {n : Nat} {H : Hp} {W p : Addr} {o : HO} (h : WellAt n H W) (hp : H p = none) : WellAt n (upd H p o) W := h.same (Same.new hp)
theorem WellAt.ne {n : Nat} {H : Hp} {W p : Addr} (h : WellAt n H W) (hp : H p = none) : W ≠ p := by
  obtain ⟨a, b, c, e, r⟩ := h
  exact ne_of_none e hp
/-- a turn's or a test's joint: what is known of the slots and the heap behind -/
theorem two_le : (2 : Nat) ≤ sizeLine := by decide
theorem small100 {n : Nat} (h : n ≤ 1000) : n ≤ sizeLine := Nat.le_trans h (by decide)
end TX
namespace TX
open PySem L2 PyProof.Rows
theorem Same.mut {H H1 : Hp} {p : Addr} {o : HO} (s : Same H H1) (h : H p = none) : Same H (upd H1 p o) := fun a u e => by rw [upd_ne (ne_of_none e h)]; exact s a u e
theorem Sm.mut {W : Addr} {H H1 : Hp} {p : Addr} {o : HO} (s : Sm W H H1) (h : H p = none) : Sm W H (upd H1 p o) := fun a u n e => by rw [upd_ne (ne_of_none e h)]; exact s a u n e
theorem WellAt.upd {n : Nat} {H : Hp} {W p : Addr} {o : HO} (h : WellAt n H W) (hp : W ≠ p) : WellAt n (L2.upd H p o) W := by
  obtain ⟨a, b, c, e, r⟩ := h
  exact ⟨a, b, c, by rw [upd_ne hp]; exact e, r⟩
theorem Sm.free {W : Addr} {H H' : Hp} (e : Sm W H H') {n : Nat} (hW : WellAt n H W) {l : Addr} (h : H' l = Option.none) (hW' : ∃ m, WellAt m H' W) : H l = Option.none := by
  cases q : H l with
  | none => rfl
  | some o =>
    obtain ⟨m, a, b, c, z, _⟩ := hW'
    have : l ≠ W := fun x => by rw [x, z] at h; cases h
    rw [e l o this q] at h
    cases h
/-- signs as texts -/
def S (l : List Nat) : Str := ⟨l.toArray⟩
theorem S_len (l : List Nat) : (S l).length = l.length := by show l.toArray.size = _; rw [List.size_toArray]
theorem S_cps (l : List Nat) : (S l).cps.toList = l := rfl
theorem S_inj {l m : List Nat} (h : S l = S m) : l = m := by
  have := congrArg (fun s : Str => s.cps.toList) h
  exact this
theorem S_eta (s : Str) : s = S s.cps.toList := by
  obtain ⟨⟨l⟩⟩ := s
  rfl
theorem S_app (l m : List Nat) : S l ++ S m = S (l ++ m) := by
  show (⟨l.toArray ++ m.toArray⟩ : Str) = ⟨(l ++ m).toArray⟩
  simp
theorem join_empty : ∀ ys : List (List Nat), Txt.join (S []) (ys.map S) = S ys.flatten := by
  intro ys
  show Builtin.Str.glued (S []) (ys.map S) = _
  rw [StrLaws.glued_eq_join]
  induction ys with
  | nil => rfl
  | cons y r ih =>
    cases r with
    | nil =>
      show S y = S ([y].flatten)
      simp
    | cons z r =>
      show S y ++ S [] ++ Str.join (S []) ((z :: r).map S) = _
      rw [ih, S_app, S_app]
      simp
theorem cutS_S (l : List Nat) (lo hi : Option Int) : cutS (S l) lo hi = S ((l.drop (HT.sIx l.length 0 lo)).take (HT.sIx l.length l.length hi - HT.sIx l.length 0 lo)) := by
  unfold cutS
  rw [S_len]
  rfl
/-- the letters -/
def abc : Str := Str.ofString "abcdefghijklmnopqrstuvwxyz"
theorem abc_eq : abc = S [97, 98, 99, 100, 101, 102, 103, 104, 105, 106, 107, 108, 109, 110, 111, 112, 113, 114, 115, 116, 117, 118, 119, 120, 121, 122] := by decide +kernel
theorem abc_at {j : Nat} (h : j < 26) : atI abc.cps.toList (j : Int) = some (97 + j) := by
  rw [abc_eq]
  refine atI_nat ?_
  rw [S_cps]
  revert j
  decide
theorem abc_len : abc.length ≤ sizeLine := by rw [abc_eq, S_len]; decide
/-- the k-th name of a well's -/
def nmOf (base : List Nat) (spot more bg ap k : Nat) : Str := S (base.take spot ++ (97 + (bg + ap * k) % 26) :: (base.drop spot).take more)
theorem nm_ok {base : List Nat} {spot more bg ap k : Nat} (hb : base.length = 7) (hc : ∀ c ∈ base, 97 ≤ c ∧ c ≤ 122) (hs : spot + more ≤ 7) : TM.NameOk (nmOf base spot more bg ap k) := by
  unfold TM.NameOk nmOf
  rw [S_len, S_cps]
  simp only [List.length_append, List.length_cons, List.length_take, List.length_drop, hb]
  refine ⟨by omega, by omega, fun c h => ?_⟩
  rcases List.mem_append.mp h with h | h
  · exact hc c (List.mem_of_mem_take h)
  · rcases List.mem_cons.mp h with h | h
    · have := Nat.mod_lt (bg + ap * k) (show 26 > 0 by decide)
      omega
    · exact hc c (List.mem_of_mem_drop (List.mem_of_mem_take h))
theorem nm_inj {base : List Nat} {spot more bg ap k k' : Nat} (ha : ap ∈ [1, 3, 5, 7, 9, 11, 15, 17]) (hk : k < 26) (hk' : k' < 26) (h : nmOf base spot more bg ap k = nmOf base spot more bg ap k') : k = k' := by
  have h1 := S_inj h
  have h2 := (List.append_inj h1 rfl).2
  have h3 : 97 + (bg + ap * k) % 26 = 97 + (bg + ap * k') % 26 := (List.cons.inj h2).1
  simp only [List.mem_cons, List.not_mem_nil, or_false] at ha
  rcases ha with e | e | e | e | e | e | e | e <;> subst e <;> omega
theorem nm_nodup {base : List Nat} {spot more bg ap n : Nat} (ha : ap ∈ [1, 3, 5, 7, 9, 11, 15, 17]) (hn : n ≤ 26) : ((List.range n).map (nmOf base spot more bg ap)).Nodup := by
  rw [List.nodup_iff_pairwise_ne, List.pairwise_map]
  refine List.Pairwise.imp_of_mem ?_ (List.nodup_iff_pairwise_ne.mp List.nodup_range)
  intro a b ha' hb' hne e
  exact hne (nm_inj ha (by have := List.mem_range.mp ha'; omega) (by have := List.mem_range.mp hb'; omega) e)
end TX
namespace TX
open PySem L2 PyProof.Rows
theorem sum_signs (cs : List Nat) : (List.map (fun x : Str => x.length) (cs.map fun c => S [c])).sum = cs.length := by
  induction cs with
  | nil => rfl
  | cons c r ih =>
    rw [List.map_cons, List.map_cons, List.sum_cons, ih, S_len, List.length_cons]
    simp
    omega
theorem join_signs (cs : List Nat) : Txt.join (Str.ofString "") (cs.map fun c => S [c]) = S cs := by
  have e1 : Str.ofString "" = S [] := by decide +kernel
  have e2 : cs.map (fun c => S [c]) = (cs.map fun c => [c]).map S := by rw [List.map_map]; rfl
  have e3 : (cs.map fun c => [c]).flatten = cs := by
    clear e2
    induction cs with
    | nil => rfl
    | cons c r ih => rw [List.map_cons, List.flatten_cons, ih]; rfl
  rw [e1, e2, join_empty, e3]
theorem len_empty : (Str.ofString "").length = 0 := by decide +kernel
end TX
namespace TX
open PySem L2 PyProof.Rows
theorem line100 {n : Nat} (h : n ≤ 1000) : n ≤ sizeLine := Nat.le_trans h (by decide)
theorem line100' {n : Nat} (h : n ≤ 1000) : n < sizeLine := Nat.lt_of_le_of_lt h (by decide)
theorem sapp_len (a b : Str) : (a ++ b).length = a.length + b.length := by
  show (a.cps ++ b.cps).size = _
  rw [Array.size_append]
  rfl
end TX
namespace TX
open PySem L2 PyProof.Rows TM
def optV : Option Str → V
  | none => .non
  | some x => .str x
/-- tuples of a name and what stands over it -/
def TupsAt (H : Hp) : List Addr → List Pr → Prop := Paired fun a q => H a = some (.tup [.str q.1, optV q.2])
def PairsAt (H : Hp) (p : Addr) (ps : List Pr) : Prop := ∃ as, H p = some (.lst (as.map V.ref)) ∧ TupsAt H as ps
theorem TupsAt.sm {W : Addr} {H H' : Hp} {as : List Addr} {ps : List Pr} (h : TupsAt H as ps) (s : Sm W H H') (w : ∃ n, WellAt n H W) : TupsAt H' as ps :=
  Paired.mapP h fun a q e => s a _ (by obtain ⟨n, x, y, z, e2, _⟩ := w; exact ne_of e e2 (by intro z; cases z)) e
theorem TupsAt.same {H H' : Hp} {as : List Addr} {ps : List Pr} (h : TupsAt H as ps) (s : Same H H') : TupsAt H' as ps := Paired.mapP h fun a q e => s a _ e
theorem TupsAt.put {H : Hp} {as : List Addr} {ps : List Pr} {p : Addr} {xs : List V} {o : HO} (h : TupsAt H as ps) (hp : H p = some (.lst xs)) : TupsAt (upd H p o) as ps :=
  Paired.mapP h fun a q e => by rw [upd_ne (ne_of e hp (by intro z; cases z))]; exact e
theorem TupsAt.snoc {H : Hp} {as : List Addr} {ps : List Pr} {a : Addr} {q : Pr} (h : TupsAt H as ps) (e : H a = some (.tup [.str q.1, optV q.2])) : TupsAt H (as ++ [a]) (ps ++ [q]) := by
  unfold TupsAt at *
  induction h with
  | nil => exact .cons e .nil
  | cons h _ ih => exact .cons h ih
theorem TupsAt.len {H : Hp} {as : List Addr} {ps : List Pr} (h : TupsAt H as ps) : as.length = ps.length := Paired.length h
theorem PairsAt.same {H H' : Hp} {p : Addr} {ps : List Pr} (h : PairsAt H p ps) (s : Same H H') : PairsAt H' p ps := by
  obtain ⟨as, e, t⟩ := h
  exact ⟨as, s _ _ e, t.same s⟩
theorem PairsAt.sm {W : Addr} {H H' : Hp} {p : Addr} {ps : List Pr} (h : PairsAt H p ps) (s : Sm W H H') (w : ∃ n, WellAt n H W) (hp : p ≠ W) : PairsAt H' p ps := by
  obtain ⟨as, e, t⟩ := h
  exact ⟨as, s _ _ hp e, t.sm s w⟩
end TX
namespace TX
open PySem L2 PyProof.Rows TM
def kvsOf (ps : List Pr) : List (Key × V) := ps.map fun q => ((Sum.inr q.1 : Key), optV q.2)
theorem kvs_none : ∀ {ps : List Pr} {x : Str}, x ∉ ps.map Prod.fst → valV (kvsOf ps) (Sum.inr x : Key) = none
  | [], _, _ => rfl
  | (c, o) :: r, x, h => by
    have hne : ¬ ((Sum.inr c : Key) = Sum.inr x) := fun e => by
      injection e with e
      exact h (by rw [e]; exact List.mem_cons_self)
    show valV (((Sum.inr c : Key), optV o) :: kvsOf r) _ = none
    rw [valV_neg hne]
    exact kvs_none fun hx => h (List.mem_cons_of_mem _ hx)
theorem kvs_some : ∀ {ps : List Pr} {x : Str} {o : Option Str}, (ps.map Prod.fst).Nodup → (x, o) ∈ ps → valV (kvsOf ps) (Sum.inr x : Key) = some (optV o)
  | [], _, _, _, h => nomatch h
  | (c, p) :: r, x, o, hn, h => by
    rw [List.map_cons, List.nodup_cons] at hn
    rcases List.mem_cons.mp h with e | h
    · obtain ⟨rfl, rfl⟩ := Prod.mk.inj e
      exact valV_pos (p := ((Sum.inr x : Key), optV o)) rfl
    · have hne : ¬ ((Sum.inr c : Key) = Sum.inr x) := fun e => by
        injection e with e
        exact hn.1 (by rw [e]; exact List.mem_map.mpr ⟨(x, o), h, rfl⟩)
      show valV (((Sum.inr c : Key), optV p) :: kvsOf r) _ = _
      rw [valV_neg hne]
      exact kvs_some hn.2 h
theorem optV_inj {o o' : Option Str} (h : optV o = optV o') : o = o' := by
  cases o with
  | none =>
    cases o' with
    | none => rfl
    | some y => cases h
  | some x =>
    cases o' with
    | none => cases h
    | some y =>
      have h' : V.str x = V.str y := h
      injection h' with h'
      rw [h']
/-- in a list or in a dict -/
theorem PC.or {X : Cx} {op : CmpOp} {a b : Expr} {t u : TE} (h1 : PC X op a b t) (h2 : PC X op a b u) : PC X op a b (fun σ H Q => t σ H Q ∨ u σ H Q) :=
  ⟨fun pins s σ H Q I h => h.elim (h1.run pins s σ H Q I) (h2.run pins s σ H Q I)⟩
theorem PC.ofR {X : Cx} {op : CmpOp} {a b : Expr} {ta tb : TE} {r : R2} (ho : OpR X (compareOp op) r) (ha : PE X a ta) (hb : PE X b tb) : PC X op a b (tOp r ta tb) :=
  ⟨fun pins s σ H Q I h => thn (ha.run pins s σ H _ I h) fun u s1 ⟨x, H1, I1, rx, h1⟩ => thn (hb.run pins s1 σ H1 _ I1 h1) fun v s2 ⟨y, H2, I2, ry, h2⟩ => ho pins s2 σ H2 x y u v Q I2 rx ry h2⟩
/-- the order of one sign and a letter -/
theorem lt_sign (c d : Nat) : ([c] < [d]) ↔ c < d := by
  constructor
  · intro h
    cases h with
    | rel h => exact h
    | cons h => cases h
  · intro h
    exact List.Lex.rel h
theorem str_a : Str.ofString "a" = S [97] := by decide +kernel
theorem str_z : Str.ofString "z" = S [122] := by decide +kernel
end TX
namespace TX
open PySem L2 PyProof.Rows TM
theorem TupsAt.get {H : Hp} {as : List Addr} {ps : List Pr} (h : TupsAt H as ps) : ∀ {i : Nat} {a : Addr}, as[i]? = some a → ∃ q, ps[i]? = some q ∧ H a = some (.tup [.str q.1, optV q.2]) := by
  unfold TupsAt at h
  induction h with
  | nil => intro i a e; simp at e
  | cons h _ ih =>
    intro i a e
    cases i with
    | zero =>
      simp at e
      subst e
      exact ⟨_, by simp, h⟩
    | succ i =>
      obtain ⟨q, h1, h2⟩ := ih (by simpa using e)
      exact ⟨q, by simpa using h1, h2⟩
theorem kvs_put {ps : List Pr} {c : Str} {o : Option Str} (h : c ∉ ps.map Prod.fst) : putK (kvsOf ps) (Sum.inr c : Key) (optV o) = kvsOf (ps ++ [(c, o)]) := by
  rw [putK_new _ (kvs_none h)]
  unfold kvsOf
  rw [List.map_append]
  rfl
theorem kvs_len (ps : List Pr) : (kvsOf ps).length = ps.length := by unfold kvsOf; rw [List.length_map]
theorem kvs_get {ps : List Pr} {i : Nat} : (kvsOf ps)[i]? = ps[i]?.map fun q => ((Sum.inr q.1 : Key), optV q.2) := by unfold kvsOf; rw [List.getElem?_map]
end TX
namespace TX
open PySem L2 PyProof.Rows TM
/-- a dict comprehension over a walk: Pr by the turn and the heap -/
theorem dc_walk {J : It} {n : Nat} {G : Hp → Prop} {Y : Nat → Hp → V → Hp → Prop} (wk : Walk J n G Y) {tgt : TG} {cond : TT} {key val : TE} {own : List Nat} {slots : L2.St} {Hs : Hp} {Dn : Addr} {Qf : Hp → Prop}
    (Pw : Nat → Hp → Prop) (start : Pw 0 (upd Hs Dn (.dK []))) (good : ∀ i h, i ≤ n → Pw i h → G h)
    (turn : ∀ i v h h', i < n → Pw i h → Y i h v h' → tgt v (wipe slots own) h' fun s2 h2 => wipe s2 own = wipe slots own ∧ cond s2 h2 fun b h3 =>
      (if b = true then (key s2 h3 fun ky h4 => val s2 h4 fun vl h5 => ∃ es kk, ky = kV kk ∧ h5 Dn = some (.dK es) ∧ es.length < sizeLine ∧ Pw (i + 1) (upd h5 Dn (.dK (putK es kk vl)))) else Pw (i + 1) h3))
    (fin : ∀ h, Pw n h → Qf h) :
    ∃ Z : Nat → Nat → Hp → Prop, (∃ m, Z 0 m (upd Hs Dn (.dK []))) ∧ ∀ i m h, Z i m h → (J.stop i h ∧ Qf h) ∨ (J.go i h ∧ ∃ Nx : Hp → Prop, (∀ h', Nx h' → ∃ m', m' < m ∧ Z (i + 1) m' h') ∧
      ∀ v h', J.yld i h v h' → tgt v (wipe slots own) h' fun s2 h2 => wipe s2 own = wipe slots own ∧ cond s2 h2 fun b h3 =>
        (if b = true then (key s2 h3 fun ky h4 => val s2 h4 fun vl h5 => ∃ es kk, ky = kV kk ∧ h5 Dn = some (.dK es) ∧ es.length < sizeLine ∧ Nx (upd h5 Dn (.dK (putK es kk vl)))) else Nx h3)) := by
  refine ⟨fun i m h => i ≤ n ∧ m = n - i ∧ Pw i h, ⟨n, Nat.zero_le _, by simp, start⟩, ?_⟩
  rintro i m h ⟨hi, rfl, pw⟩
  have g := good i h hi pw
  rcases Nat.lt_or_ge i n with hlt | hge
  · exact .inr ⟨wk.goes i h hlt g, Pw (i + 1), fun h' p' => ⟨n - (i + 1), by omega, hlt, rfl, p'⟩, fun v h' y => turn i v h h' hlt pw (wk.yields i h v h' hlt g y)⟩
  · obtain rfl : i = n := by omega
    exact .inl ⟨wk.stops h g, fin h pw⟩
/-- what is asked of a tree's names -/
structure FoOk (f : Fo) : Prop where
  nd : (names f).Nodup
  le : (names f).length ≤ 8
  ok : ∀ x ∈ names f, NameOk x
theorem foOk_mk {ps : List Pr} (va : Valid [] ps) (hl : ps.length ≤ 8) (hn : ∀ x ∈ ps.map Prod.fst, NameOk x) : FoOk (mk ps none) :=
  ⟨ord_nodup va, Nat.le_trans (ord_le va none) hl, fun x hx => hn x ((ord_perm va).mem_iff.mp hx)⟩
theorem kcol : ¬ (("_columns" : Str) = "_over") := by decide +kernel
/-- the attributes of a tree, in the order in which they are stored -/
def tflds (l d : Addr) : List (Str × V) := putF "_over" (.ref d) (putF "_columns" (.ref l) [])
theorem tflds_col (l d : Addr) : (tflds l d).lookup ("_columns" : Str) = some (.ref l) := by
  unfold tflds
  rw [lookup_putF, if_neg kcol, lookup_putF, if_pos rfl]
theorem tflds_over (l d : Addr) : (tflds l d).lookup ("_over" : Str) = some (.ref d) := by
  unfold tflds
  rw [lookup_putF, if_pos rfl]
theorem tflds_no (l d : Addr) {m : Str} (h1 : ¬ m = "_over") (h2 : ¬ m = "_columns") : (tflds l d).lookup m = none := by
  unfold tflds
  rw [lookup_putF, if_neg h1, lookup_putF, if_neg h2]
  rfl
theorem tflds_len (l d : Addr) : (tflds l d).length < 1000 := by
  unfold tflds
  show (if ("_columns" : Str) = "_over" then [(("_columns" : Str), V.ref d)] else (("_columns" : Str), V.ref l) :: putF "_over" (V.ref d) []).length < 1000
  rw [if_neg kcol]
  show 2 < 1000
  decide
/-- a tree stands at p -/
def TreeAt (C : Addr) (H : Hp) (p : Addr) (f : Fo) : Prop := ∃ dx l d, H p = some (.ins C dx (tflds l d)) ∧ H l = some (.lst ((names f).map V.str)) ∧ H d = some (.dK (kvsOf (flat f none)))
theorem TreeAt.same {C : Addr} {H H' : Hp} {p : Addr} {f : Fo} (t : TreeAt C H p f) (s : Same H H') : TreeAt C H' p f := by
  obtain ⟨dx, l, d, h1, h2, h3⟩ := t
  exact ⟨dx, l, d, s _ _ h1, s _ _ h2, s _ _ h3⟩
/-- an own class that isinstance may be asked of -/
structure Ic (K : PySem.W.Frag) (C : Addr) : Prop where
  ha : PySem.W.findIn K (.ref C) "__class__" = some (some (.builtin "object.__class__"))
  hn : PySem.W.specialIn K (.builtin "object.__class__") "__get__" = some (some (.builtin "getset_descriptor.__get__"))
  htk : PySem.W.takesIn K (.builtin "object.__class__") = some true
  hm : PySem.W.mroIn K C (.type "object") = some true
  me : PySem.W.kitOne K (.ref C) (.ref C) = some true
/-- what the top says of the class -/
structure Tc (K : PySem.W.Frag) (mg : Str → Option Value) (C : Addr) : Prop where
  cl : Cls K C
  nC : NoAttr K C "_columns"
  nO : NoAttr K C "_over"
  g : mg "Tree" = some (.ref C)
  ins : Ic K C
end TX
namespace TX
open PySem L2 PyProof.Rows TM
theorem strOk_name {x : Str} (h : NameOk x) : PyData.strOk x = true := by
  unfold PyData.strOk
  rw [Array.all_eq_true']
  intro c hc
  have := h.2.2 c (Array.mem_toList_iff.mpr hc)
  exact decide_eq_true (by omega)
def dS (ns : List Str) : PyData := .list (ns.map .str)
def dO : Option Str → PyData
  | none => .none
  | some x => .str x
def dP (ps : List Pr) : PyData := .list (ps.map fun q => .tuple [.str q.1, dO q.2])
theorem canS : ∀ {ns : List Str}, (∀ x ∈ ns, NameOk x) → PyData.canLayAll0 (ns.map .str) = true
  | [], _ => rfl
  | x :: r, h => by
    rw [List.map_cons]
    unfold PyData.canLayAll0
    rw [show PyData.canLay0 (.str x) = true from strOk_name (h x List.mem_cons_self), canS fun y hy => h y (List.mem_cons_of_mem _ hy)]
    rfl
theorem depS : ∀ (ns : List Str), PyData.depthAll (ns.map .str) = 0
  | [] => rfl
  | x :: r => by
    rw [List.map_cons]
    unfold PyData.depthAll
    rw [depS r]
    rfl
theorem shS {ns : List Str} (h : ∀ x ∈ ns, NameOk x) : SeqAt.shaped (dS ns) = true := by
  unfold SeqAt.shaped dS
  have h1 : PyData.canLay0 (.list (ns.map .str)) = true := by unfold PyData.canLay0; exact canS h
  have h2 : PyData.depth (.list (ns.map .str)) ≤ 64 := by unfold PyData.depth; rw [depS]; decide
  rw [h1, decide_eq_true h2]
  rfl
theorem eqvS : ∀ (ns ms : List Str), PyData.eqvAll (ns.map .str) (ms.map .str) = decide (ns = ms)
  | [], [] => rfl
  | [], _ :: _ => rfl
  | _ :: _, [] => rfl
  | x :: r, y :: t => by
    rw [List.map_cons, List.map_cons]
    unfold PyData.eqvAll PyData.eqv
    rw [eqvS r t]
    by_cases h : x = y <;> by_cases h2 : r = t <;> simp [h, h2]
theorem DpAll_strs {K : PySem.W.Frag} {H : Hp} : ∀ (ns : List Str), DpAll K H (ns.map V.str) (ns.map .str)
  | [] => .nil
  | x :: r => .cons (.str x) (DpAll_strs r)
theorem DpS {K : PySem.W.Frag} {H : Hp} {a : Addr} {ns : List Str} (h : H a = some (.lst (ns.map V.str))) : Dp K H (.ref a) (dS ns) := .lst (.of h) (DpAll_strs ns)
end TX
namespace TX
open PySem L2 PyProof.Rows TM
/-- all names of a list of pairs are names -/
def PsOk (ps : List Pr) : Prop := ∀ q ∈ ps, NameOk q.1 ∧ ∀ x, q.2 = some x → NameOk x
theorem PsOk.flat {f : Fo} (h : FoOk f) : PsOk (flat f none) := fun q hq => by
  refine ⟨h.ok _ ?_, fun x hx => ?_⟩
  · rw [← flat_names f none]
    exact List.mem_map.mpr ⟨q, hq, rfl⟩
  · rcases over_flat f none q hq with e | ⟨y, hy, e⟩
    · rw [e] at hx; cases hx
    · rw [e] at hx
      cases hx
      exact h.ok _ hy
theorem can_pair {q : Pr} (h : NameOk q.1 ∧ ∀ x, q.2 = some x → NameOk x) : PyData.canLay0 (.tuple [.str q.1, dO q.2]) = true := by
  obtain ⟨c, o⟩ := q
  have h1 : PyData.canLay0 (.str c) = true := strOk_name h.1
  have h2 : PyData.canLay0 (dO o) = true := by
    cases o with
    | none => rfl
    | some x => exact strOk_name (h.2 x rfl)
  unfold PyData.canLay0 PyData.canLayAll0 PyData.canLayAll0 PyData.canLayAll0
  rw [h1, h2]
  rfl
theorem canP : ∀ {ps : List Pr}, PsOk ps → PyData.canLayAll0 (ps.map fun q => .tuple [.str q.1, dO q.2]) = true
  | [], _ => rfl
  | x :: r, h => by
    rw [List.map_cons]
    unfold PyData.canLayAll0
    rw [can_pair (h x List.mem_cons_self), canP fun y hy => h y (List.mem_cons_of_mem _ hy)]
    rfl
theorem dep_dO (o : Option Str) : PyData.depth (dO o) = 0 := by cases o <;> rfl
theorem depP : ∀ (ps : List Pr), PyData.depthAll (ps.map fun q => .tuple [.str q.1, dO q.2]) ≤ 1
  | [] => Nat.zero_le _
  | x :: r => by
    rw [List.map_cons]
    unfold PyData.depthAll
    have h1 : PyData.depth (.tuple [.str x.1, dO x.2]) = 1 := by
      unfold PyData.depth PyData.depthAll PyData.depthAll PyData.depthAll
      rw [dep_dO]
      rfl
    have := depP r
    rw [h1]
    omega
theorem shP {ps : List Pr} (h : PsOk ps) : SeqAt.shaped (dP ps) = true := by
  unfold SeqAt.shaped dP
  have h1 : PyData.canLay0 (.list (ps.map fun q => .tuple [.str q.1, dO q.2])) = true := by unfold PyData.canLay0; exact canP h
  have h2 : PyData.depth (.list (ps.map fun q => .tuple [.str q.1, dO q.2])) ≤ 64 := by
    unfold PyData.depth
    have := depP ps
    omega
  rw [h1, decide_eq_true h2]
  rfl
theorem eqv_dO : ∀ (o p : Option Str), PyData.eqv (dO o) (dO p) = decide (o = p)
  | none, none => rfl
  | none, some _ => rfl
  | some _, none => rfl
  | some x, some y => by
    show PyData.eqv (.str x) (.str y) = _
    unfold PyData.eqv
    by_cases h : x = y <;> simp [h]
theorem eqv_pair (q r : Pr) : PyData.eqv (.tuple [.str q.1, dO q.2]) (.tuple [.str r.1, dO r.2]) = decide (q = r) := by
  obtain ⟨a, b⟩ := q
  obtain ⟨c, d⟩ := r
  unfold PyData.eqv PyData.eqvAll PyData.eqvAll PyData.eqvAll
  rw [eqv_dO]
  have : PyData.eqv (.str a) (.str c) = decide (a = c) := by unfold PyData.eqv; by_cases h : a = c <;> simp [h]
  show (PyData.eqv (.str a) (.str c) && (decide (b = d) && true)) = _
  rw [this]
  by_cases h : a = c <;> by_cases h2 : b = d <;> simp [h, h2]
theorem eqvP : ∀ (ps qs : List Pr), PyData.eqvAll (ps.map fun q => .tuple [.str q.1, dO q.2]) (qs.map fun q => .tuple [.str q.1, dO q.2]) = decide (ps = qs)
  | [], [] => rfl
  | [], _ :: _ => rfl
  | _ :: _, [] => rfl
  | x :: r, y :: t => by
    rw [List.map_cons, List.map_cons]
    unfold PyData.eqvAll
    rw [eqvP r t, eqv_pair]
    by_cases h : x = y <;> by_cases h2 : r = t <;> simp [h, h2]
theorem Dp_optV {K : PySem.W.Frag} {H : Hp} : ∀ (o : Option Str), Dp K H (optV o) (dO o)
  | none => .non
  | some x => .str x
theorem DpAll_tups {K : PySem.W.Frag} {H : Hp} {as : List Addr} {ps : List Pr} (h : TupsAt H as ps) : DpAll K H (as.map V.ref) (ps.map fun q => .tuple [.str q.1, dO q.2]) := by
  unfold TupsAt at h
  induction h with
  | nil => exact .nil
  | cons h _ ih => exact .cons (.tup (.of h) (.cons (.str _) (.cons (Dp_optV _) .nil))) ih
theorem PairsAt.dp {K : PySem.W.Frag} {H : Hp} {a : Addr} {ps : List Pr} (h : PairsAt H a ps) : Dp K H (.ref a) (dP ps) := by
  obtain ⟨as, e, t⟩ := h
  exact .lst (.of e) (DpAll_tups t)
theorem eqv_dS (ns ms : List Str) : PyData.eqv (dS ns) (dS ms) = decide (ns = ms) := by
  unfold dS PyData.eqv
  exact eqvS ns ms
theorem eqv_dP (ps qs : List Pr) : PyData.eqv (dP ps) (dP qs) = decide (ps = qs) := by
  unfold dP PyData.eqv
  exact eqvP ps qs
end TX
namespace TX
open PySem L2 PyProof.Rows TM
/-- a method of a class, ready to be called -/
structure Mt (K : PySem.W.Frag) (C : Addr) (m qual : Str) (st : Stmt) (ps : List Str) (f : Addr) (fd : FuncData) : Prop where
  F : Fun K m qual st f fd
  me : Meth K C m f
  b : Binds K fd ps []
theorem TupsAt.app {H : Hp} {as bs : List Addr} {ps qs : List Pr} (h : TupsAt H as ps) (k : TupsAt H bs qs) : TupsAt H (as ++ bs) (ps ++ qs) := by
  unfold TupsAt at *
  induction h with
  | nil => exact k
  | cons h _ ih => exact .cons h ih
/-- an error class of our own that is raised with a text -/
structure Ec (K : PySem.W.Frag) (mg : Str → Option Value) (x : Str) (C : Addr) : Prop where
  ex : PySem.W.excIn K C [.type "ValueError", .type "Exception", .type "BaseException", .type "object"] "ValueError.__new__" = true
  g : mg x = some (.ref C)
  k : PySem.W.keepIn K (.ref C) = true
  b : PySem.W.subIn K (.ref C) (.type "BaseException") = some true
  t : PySem.W.typeIn K (.ref C) = some (.type "type")
theorem FoOk.app {f g : Fo} (hf : FoOk f) (hg : FoOk g) (hd : ∀ x ∈ names f, x ∉ names g) (hl : (names f).length + (names g).length ≤ 8) : FoOk (app f g) := by
  refine ⟨?_, ?_, fun x hx => ?_⟩
  · rw [names_app, List.nodup_append]
    exact ⟨hf.nd, hg.nd, fun a ha b hb e => hd a ha (e ▸ hb)⟩
  · rw [names_app, List.length_append]
    exact hl
  · rw [names_app] at hx
    rcases List.mem_append.mp hx with hx | hx
    · exact hf.ok x hx
    · exact hg.ok x hx
theorem inV_str (x : Str) (ns : List Str) : inV (.str x) (ns.map V.str) = decide (x ∈ ns) := by
  unfold inV
  induction ns with
  | nil => rfl
  | cons y r ih =>
    rw [List.map_cons, List.any_cons, ih]
    show ((y == x) || decide (x ∈ r)) = _
    by_cases h : x = y
    · simp [h]
    · have h' : ¬ y = x := fun e => h e.symm
      simp [h, h']
theorem flat_strs (ns : List Str) : (ns.map V.str).all flatV = true := by
  rw [List.all_map, List.all_eq_true]
  intro x _
  rfl
end TX
namespace TX
open PySem L2 PyProof.Rows TM
theorem merge_kvs : ∀ (qs pre : List Pr), ((pre ++ qs).map Prod.fst).Nodup → mergeK (kvsOf pre) (kvsOf qs) = kvsOf (pre ++ qs)
  | [], pre, _ => by rw [List.append_nil]; rfl
  | (c, o) :: r, pre, h => by
    have hc : c ∉ pre.map Prod.fst := by
      rw [List.map_append, List.nodup_append] at h
      intro hm
      exact h.2.2 c hm c (by simp) rfl
    show mergeK (putK (kvsOf pre) (Sum.inr c : Key) (optV o)) (kvsOf r) = _
    rw [kvs_put hc, merge_kvs r (pre ++ [(c, o)]) (by simpa using h)]
    simp
theorem merge_nil {ps : List Pr} (h : (ps.map Prod.fst).Nodup) : mergeK [] (kvsOf ps) = kvsOf ps := by
  have := merge_kvs ps [] (by simpa using h)
  rw [List.nil_append] at this
  exact this
theorem kvs_isSome {ps : List Pr} (h : (ps.map Prod.fst).Nodup) (x : Str) : (valV (kvsOf ps) (Sum.inr x : Key)).isSome = decide (x ∈ ps.map Prod.fst) := by
  by_cases hx : x ∈ ps.map Prod.fst
  · obtain ⟨⟨x', o⟩, hm, rfl⟩ := List.mem_map.mp hx
    rw [kvs_some h hm, decide_eq_true hx]
    rfl
  · rw [kvs_none hx, decide_eq_false hx]
    rfl
theorem cut_strs (ns : List Str) (lo hi : Option Int) : ∃ ms : List Str, cutV (ns.map V.str) lo hi = ms.map V.str ∧ ms.Sublist ns ∧ ms.length ≤ HT.sIx ns.length ns.length hi - HT.sIx ns.length 0 lo := by
  refine ⟨(ns.drop (HT.sIx ns.length 0 lo)).take (HT.sIx ns.length ns.length hi - HT.sIx ns.length 0 lo), ?_, ?_, ?_⟩
  · unfold cutV
    rw [List.length_map, List.map_take, List.map_drop]
  · exact (List.take_sublist _ _).trans (List.drop_sublist _ _)
  · rw [List.length_take]
    exact Nat.min_le_left _ _
/-- dict(pairs) -/
def rDP (K : PySem.W.Frag) : List V → Hp → VK → Prop := fun vs H Q => ∃ (L : Addr) (as : List Addr) (es : List (Key × V)), vs = [.ref L] ∧ SqL K H L (as.map V.ref) ∧
  Paired (fun a e => SqT K H a [kV e.1, e.2]) as es ∧ ∀ d, H d = none → Q (.ref d) (upd H d (.dK (mergeK [] es)))
theorem call_dP {X : Cx} (hc : X.calm = true) : CallR X (.type "dict") (rDP X.K) := call_dictP hc
theorem pairs_es {K : PySem.W.Frag} {H : Hp} {as : List Addr} {ps : List Pr} (h : TupsAt H as ps) : Paired (fun a (e : Key × V) => SqT K H a [kV e.1, e.2]) as (kvsOf ps) := by
  unfold TupsAt at h
  induction h with
  | nil => exact .nil
  | cons h _ ih => exact .cons (.of h) ih
theorem PairsAt.nil {H : Hp} {p : Addr} (h : H p = some (.lst [])) : PairsAt H p [] := ⟨[], h, .nil⟩
theorem ord_len {ps : List Pr} (va : Valid [] ps) : (names (mk ps none)).length = ps.length := by
  have := (ord_perm va).length_eq
  rw [List.length_map] at this
  exact this
theorem foOk_nil : FoOk .nil := ⟨List.nodup_nil, Nat.zero_le _, fun _ h => nomatch h⟩
theorem PairsAt.app {H H' : Hp} {a b p : Addr} {ps qs : List Pr} {as bs : List Addr} (h : TupsAt H as ps) (k : TupsAt H bs qs) (s : Same H H') (e : H' p = some (.lst (as.map V.ref ++ bs.map V.ref))) : PairsAt H' p (ps ++ qs) :=
  ⟨as ++ bs, by rw [e, List.map_append], (h.app k).same s⟩
theorem PsOk.app {ps qs : List Pr} (h : PsOk ps) (k : PsOk qs) : PsOk (ps ++ qs) := fun q hq => (List.mem_append.mp hq).elim (h q) (k q)
/-- [pairs, pairs] -/
theorem sh2 {ps qs : List Pr} (h : PsOk ps) (k : PsOk qs) : SeqAt.shaped (.list [dP ps, dP qs]) = true := by
  unfold SeqAt.shaped
  have a1 : PyData.canLay0 (dP ps) = true := (Bool.and_eq_true_iff.mp (shP h)).1
  have a2 : PyData.canLay0 (dP qs) = true := (Bool.and_eq_true_iff.mp (shP k)).1
  have b1 : PyData.depth (dP ps) ≤ 2 := by unfold dP PyData.depth; have := depP ps; omega
  have b2 : PyData.depth (dP qs) ≤ 2 := by unfold dP PyData.depth; have := depP qs; omega
  have h1 : PyData.canLay0 (.list [dP ps, dP qs]) = true := by
    unfold PyData.canLay0 PyData.canLayAll0 PyData.canLayAll0 PyData.canLayAll0
    rw [a1, a2]
    rfl
  have h2 : PyData.depth (.list [dP ps, dP qs]) ≤ 64 := by
    unfold PyData.depth PyData.depthAll PyData.depthAll PyData.depthAll
    omega
  rw [h1, decide_eq_true h2]
  rfl
theorem eqv_refl2 (ps qs : List Pr) : PyData.eqv (.list [dP ps, dP qs]) (.list [dP ps, dP qs]) = true := by
  unfold PyData.eqv PyData.eqvAll PyData.eqvAll PyData.eqvAll
  rw [eqv_dP, eqv_dP, decide_eq_true rfl, decide_eq_true rfl]
  rfl
theorem Dp2 {K : PySem.W.Frag} {H : Hp} {p a b : Addr} {ps qs : List Pr} (h : H p = some (.lst [.ref a, .ref b])) (ha : PairsAt H a ps) (hb : PairsAt H b qs) : Dp K H (.ref p) (.list [dP ps, dP qs]) :=
  .lst (.of h) (.cons ha.dp (.cons hb.dp .nil))
end TX
namespace TX
open PySem L2 PyProof.Rows TM
theorem optV_ne_none {o : Option Str} : decide (optV o = .non) = o.isNone := by
  cases o with
  | none => rfl
  | some x => rfl
/-- the over of a name, found in the dict -/
theorem over_get {f : Fo} (ok : FoOk f) {c : Str} {a : List Str} {q : Fo} (h : loc f c = some (a, q)) : valV (kvsOf (flat f none)) (Sum.inr c : Key) = some (optV (lastOr a none)) :=
  kvs_some (by rw [flat_names]; exact ok.nd) (loc_flat none h)
end TX
namespace TX
open PySem L2 PyProof.Rows TM
/-- an expression that is v whatever is asked behind, and only makes objects -/
def Ee (te : TE) (s : L2.St) (H : Hp) (v : V) : Prop := ∀ h, Same H h → ∀ Q : VK, (∀ h', Same h h' → Q v h') → te s h Q
def Et (tt : TT) (s : L2.St) (H : Hp) (b : Bool) : Prop := ∀ h, Same H h → ∀ Q : Bool → Hp → Prop, (∀ h', Same h h' → Q b h') → tt s h Q
theorem et_yes {s : L2.St} {H : Hp} : Et tYes s H true := fun h _ Q q => q h (fun _ _ e => e)
theorem ee_var {i : Nat} {s : L2.St} {H : Hp} {v : V} (e : s[i]? = some (some v)) : Ee (tVar i) s H v := fun h _ Q q => ⟨v, e, q h (fun _ _ e => e)⟩
/-- [e for x in l if t], the items of the list l -/
theorem lc_all {K : PySem.W.Frag} {l : Addr} {i : Nat} {tt : TT} {te : TE} {s : L2.St} {H : Hp} {xs : List V} {g : V → V} {p : V → Bool} {Q : VK} {ti : TE} (hi : ti s H fun v h => v = .ref l ∧ Same H h) (mono : ∀ Q1 Q2 : VK, (∀ v h, Q1 v h → Q2 v h) → ti s H Q1 → ti s H Q2)
    (hl : SqL K H l xs) (hn : xs.length ≤ 1000) (ht : ∀ x ∈ xs, ∀ h, Same H h → Et tt ((wipe s [i]).set i (some x)) h (p x)) (he : ∀ x ∈ xs, p x = true → ∀ h, Same H h → Ee te ((wipe s [i]).set i (some x)) h (g x))
    (q : ∀ L h, Same H h → H L = none → h L = some (.lst ((xs.filter p).map g)) → Q (.ref L) h) : tLc (iList K ti) (gName i) tt te [i] s H Q := by
  refine mono _ _ (fun v H1 => ?_) hi
  rintro ⟨rfl, s1⟩
  refine ⟨l, rfl, ⟨xs, s1.seq hl⟩, fun D nD => ?_⟩
  refine lc_it (walk_list (xs := xs)) (fun j h => h D = some (.lst (((xs.take j).filter p).map g)) ∧ Same H1 h) ⟨upd_same, Same.new nD⟩ (fun j h _ ⟨_, s2⟩ => s2.seq (s1.seq hl)) ?_ ?_
  · rintro j x h h' hj ⟨e, s2⟩ ⟨rfl, hx⟩
    have hm : x ∈ xs := List.mem_of_getElem? hx
    have htk : xs.take (j + 1) = xs.take j ++ [x] := by rw [List.take_add_one, hx]; rfl
    have s3 := s1.trans s2
    refine ⟨?_, ?_⟩
    · show (((wipe s [i]).set i (some x)).set i none) = wipe s [i]
      show (((s.set i none).set i (some x)).set i none) = s.set i none
      rw [List.set_set, List.set_set]
    refine ht x hm h' s3 h' (fun _ _ e => e) _ fun h4 s4 => ?_
    have e4 := s4 _ _ e
    cases hp : p x with
    | true =>
      refine he x hm hp h4 (s3.trans s4) h4 (fun _ _ e => e) _ fun h5 s5 => ?_
      refine ⟨_, s5 _ _ e4, ?_, ?_, Same.mut ((s2.trans s4).trans s5) nD⟩
      · rw [List.length_map]
        have h1 := List.length_filter_le p (xs.take j)
        rw [List.length_take] at h1
        exact line100' (by omega)
      · rw [upd_same, htk, List.filter_append, List.filter_cons_of_pos hp, List.map_append]
        rfl
    | false =>
      refine ⟨?_, s2.trans s4⟩
      rw [htk, List.filter_append, List.filter_cons_of_neg (by rw [hp]; exact Bool.false_ne_true), List.filter_nil, List.append_nil]
      exact e4
  · rintro h ⟨e, s2⟩
    rw [List.take_length] at e
    exact q D h (s1.trans s2) (s1.free nD) e
theorem mono_var {i : Nat} {s : L2.St} {H : Hp} : ∀ Q1 Q2 : VK, (∀ v h, Q1 v h → Q2 v h) → tVar i s H Q1 → tVar i s H Q2 := fun Q1 Q2 k ⟨v, e, h⟩ => ⟨v, e, k v H h⟩
theorem mono_fld {K : PySem.W.Frag} {i : Nat} {f : Str} {s : L2.St} {H : Hp} : ∀ Q1 Q2 : VK, (∀ v h, Q1 v h → Q2 v h) → tFld K (tVar i) f s H Q1 → tFld K (tVar i) f s H Q2 :=
  fun Q1 Q2 k ⟨v, e, a, C, dx, fs, w, h1, h2, h3, h4, h5, h⟩ => ⟨v, e, a, C, dx, fs, w, h1, h2, h3, h4, h5, k w H h⟩
theorem filter_strs (ns : List Str) (p : Str → Bool) (r : V → Bool) (h : ∀ n ∈ ns, r (.str n) = p n) : (ns.map V.str).filter r = (ns.filter p).map V.str := by
  induction ns with
  | nil => rfl
  | cons n t ih =>
    rw [List.map_cons, List.filter_cons, List.filter_cons, h n List.mem_cons_self, ih fun m hm => h m (List.mem_cons_of_mem _ hm)]
    cases p n <;> rfl
end TX
namespace TX
open PySem L2 PyProof.Rows TM
/-- an if whose test is false, whatever was made -/
theorem sq_no {tc : TT} {t B : TS} {D : Ends} {s : L2.St} {H : Hp} (h : Et tc s H false) (k : ∀ h', Same H h' → B D s h') : tSeq (tIfS tc t tNext) B D s H := h H (fun _ _ e => e) _ k
theorem et_or {t u : TT} {s : L2.St} {H : Hp} (h : Et t s H false) (k : ∀ h', Same H h' → Et u s h' false) : Et (tOr t u) s H false := fun h1 s1 Q q =>
  h h1 s1 _ fun h2 s2 => k h2 (s1.trans s2) h2 (fun _ _ e => e) Q fun h3 s3 => q h3 (s2.trans s3)
theorem kids_take {q : Fo} {ks : List Str} {i : Nat} {c : Str} (h : ks[i]? = some c) : (ks.take (i + 1)).flatMap (kidsOf q) = (ks.take i).flatMap (kidsOf q) ++ kidsOf q c := by
  rw [List.take_add_one, h, List.flatMap_append]
  show _ ++ (kidsOf q c ++ []) = _
  rw [List.append_nil]
theorem bool_data (bs : List Bool) : SeqAt.shaped (.list (bs.map PyData.bool)) = true := by
  have h1 : PyData.canLayAll0 (bs.map PyData.bool) = true := by
    induction bs with
    | nil => rfl
    | cons b r ih => rw [List.map_cons]; unfold PyData.canLayAll0; rw [ih]; rfl
  have h2 : PyData.depthAll (bs.map PyData.bool) = 0 := by
    clear h1
    induction bs with
    | nil => rfl
    | cons b r ih => rw [List.map_cons]; unfold PyData.depthAll; rw [ih]; rfl
  unfold SeqAt.shaped
  have a1 : PyData.canLay0 (.list (bs.map PyData.bool)) = true := by unfold PyData.canLay0; exact h1
  have a2 : PyData.depth (.list (bs.map PyData.bool)) ≤ 64 := by unfold PyData.depth; rw [h2]; decide
  rw [a1, decide_eq_true a2]
  rfl
theorem bool_refl (bs : List Bool) : PyData.eqv (.list (bs.map PyData.bool)) (.list (bs.map PyData.bool)) = true := by
  unfold PyData.eqv
  induction bs with
  | nil => rfl
  | cons b r ih =>
    rw [List.map_cons]
    unfold PyData.eqvAll
    rw [ih]
    show (b == b && true) = true
    simp
theorem Dp_bools {K : PySem.W.Frag} {H : Hp} {a : Addr} {bs : List Bool} (h : H a = some (.lst (bs.map V.bl))) : Dp K H (.ref a) (.list (bs.map PyData.bool)) := by
  refine .lst (.of h) ?_
  clear h
  induction bs with
  | nil => exact .nil
  | cons b r ih => exact .cons (.bl b) ih
theorem filter_yes {xs : List V} : xs.filter (fun _ => true) = xs := by
  induction xs with
  | nil => rfl
  | cons x r ih => rw [List.filter_cons_of_pos rfl, ih]
theorem dec_strs (n : Str) (ks : List Str) : decide (V.str n ∈ ks.map V.str) = decide (n ∈ ks) := by
  by_cases hm : n ∈ ks
  · rw [decide_eq_true hm, decide_eq_true (List.mem_map.mpr ⟨n, hm, rfl⟩)]
  · rw [decide_eq_false hm, decide_eq_false]
    intro z
    obtain ⟨m, hm2, e2⟩ := List.mem_map.mp z
    exact hm (V.str.inj e2 ▸ hm2)
theorem same_rfl {H : Hp} : Same H H := fun _ _ e => e
end TX
namespace TX
open PySem L2 PyProof.Rows TM
theorem lt_anti : ∀ {a b : List Nat}, PySem.Spec.ltCps a b = false → PySem.Spec.ltCps b a = false → a = b
  | [], [], _, _ => rfl
  | [], _ :: _, h, _ => by cases h
  | _ :: _, [], _, h => by cases h
  | x :: a, y :: b, h1, h2 => by
    have g1 : (decide (x < y) || (x == y && PySem.Spec.ltCps a b)) = false := h1
    have g2 : (decide (y < x) || (y == x && PySem.Spec.ltCps b a)) = false := h2
    have e : x = y := by
      have a1 : ¬ x < y := fun z => by rw [decide_eq_true z] at g1; cases g1
      have a2 : ¬ y < x := fun z => by rw [decide_eq_true z] at g2; cases g2
      omega
    subst e
    simp at g1 g2
    rw [lt_anti g1 g2]
theorem lt_trans' : ∀ {a b c : List Nat}, PySem.Spec.ltCps b a = false → PySem.Spec.ltCps c b = false → PySem.Spec.ltCps c a = false
  | [], _, [], _, _ => rfl
  | [], [], _ :: _, _, h => rfl
  | [], _ :: _, _ :: _, _, _ => rfl
  | _ :: _, [], _, h, _ => by cases h
  | x :: a, y :: b, [], _, h => by cases h
  | x :: a, y :: b, z :: c, h1, h2 => by
    have g1 : (decide (y < x) || (y == x && PySem.Spec.ltCps b a)) = false := h1
    have g2 : (decide (z < y) || (z == y && PySem.Spec.ltCps c b)) = false := h2
    show (decide (z < x) || (z == x && PySem.Spec.ltCps c a)) = false
    have a1 : ¬ y < x := fun w => by rw [decide_eq_true w] at g1; cases g1
    have a2 : ¬ z < y := fun w => by rw [decide_eq_true w] at g2; cases g2
    have a3 : ¬ z < x := by omega
    rw [decide_eq_false a3, Bool.false_or]
    by_cases e : z = x
    · have e1 : y = x := by omega
      subst e
      subst e1
      simp at g1 g2
      rw [lt_trans' g1 g2]
      simp
    · have : (z == x) = false := by simpa using e
      rw [this]
      rfl
theorem sorted_pair : ∀ {l : List Str}, PyProof.Rows.sortedS l = true → l.Pairwise fun a b => PySem.Spec.ltCps b.cps.toList a.cps.toList = false
  | [], _ => List.Pairwise.nil
  | [x], _ => List.pairwise_singleton _ _
  | x :: y :: r, h => by
    have h' : (!PySem.Spec.ltCps y.cps.toList x.cps.toList && PyProof.Rows.risingS y r) = true := h
    rw [Bool.and_eq_true] at h'
    have ih : (y :: r).Pairwise fun a b => PySem.Spec.ltCps b.cps.toList a.cps.toList = false := sorted_pair h'.2
    have h1 : PySem.Spec.ltCps y.cps.toList x.cps.toList = false := by simpa using h'.1
    refine List.pairwise_cons.mpr ⟨fun z hz => ?_, ih⟩
    rcases List.mem_cons.mp hz with e | hz
    · rw [e]
      exact h1
    · exact lt_trans' h1 ((List.pairwise_cons.mp ih).1 z hz)
theorem sorted_same {l m : List Str} (h : l.Perm m) (h1 : PyProof.Rows.sortedS l = true) (h2 : PyProof.Rows.sortedS m = true) : l = m := by
  refine perm_eq (fun a b r1 r2 => ?_) h (sorted_pair h1) (sorted_pair h2)
  rw [S_eta a, S_eta b, lt_anti r2 r1]
theorem mono_c {v : V} {s : L2.St} {H : Hp} : ∀ Q1 Q2 : VK, (∀ v h, Q1 v h → Q2 v h) → tC v s H Q1 → tC v s H Q2 := fun _ _ k h => k _ _ h
end TX

set_option maxHeartbeats 2000000
/-! Rules of our own: the length of an own instance; isinstance of a caught error, one class or several. -/
namespace TY
open PySem L2 PyProof.Rows TX
section
variable {X : Cx}
/-- len(o) by an own __len__ -/
def rLenO (C : Addr) (sp : Sp) (E : XK) : List V → Hp → VK → Prop := fun xs H Q => ∃ a dx fs, xs = [.ref a] ∧ H a = some (.ins C dx fs) ∧ sp [.ref a] H (fun v H' => ∃ k : Nat, v = .int k ∧ k ≤ 1000000 ∧ Q (.int k) H') E
theorem call_lenO {CX : CXT} {C f : Addr} {fd : FuncData} {ps : List Str} {sp : Sp} {E : XK} {n : Nat} (F : FnOk X.prog X.w X.K X.mg X.base CX n f fd ps sp) (hs : PySem.W.findIn X.K (.ref C) "__len__" = some (some (.ref f)))
    (hf : PySem.W.isFn X.K (.ref f) = true) (hb : Binds X.K fd ps []) (hx : Passes CX X E) (hr : Room (n + 1) X.A) : CallR X (.builtin "len") (rLenO C sp E) := by
  intro pins s σ H xs us Q I r h
  obtain ⟨a, dx, fs, rfl, ha, hsp⟩ := h
  obtain ⟨u, rfl, rx⟩ := vals1 r
  cases rx
  obtain ⟨mA, J, _⟩ := ins_get I.hok ha
  obtain ⟨od, J, _⟩ := J.look
  obtain ⟨m, hF⟩ := I.fr
  refine PySem.W.len_K hF I.ok.mod.kin J hs hf ?_
  have e0 : Env0 X.prog X.w X.K X.mg X.base X.A.in1 X.stack s H := by
    have e := I.env0
    exact ⟨e.frames, e.mod, e.bs, e.bsz, e.funs, e.frf, e.hok, e.bare⟩
  have hl := F.len _ _ _ _ hsp
  refine wpAny_call (codeAny_mono (F.run X.A.in1 X.stack s H ⟨[.ref a], []⟩ [.ref a] [.ref a] _ E hr.in1 e0 (by
    have := hb s [.ref a] I.kIn (by simpa using hl)
    simpa using this) (.cons rfl .nil) hsp) fun r s' hq => ?_)
  cases r with
  | error e => exact hx pins σ H s e s' I hq
  | ok fl =>
    cases fl with
    | ret u =>
      obtain ⟨z, H', I', rz, k, ez, hk, q⟩ := I.after hq
      subst ez
      obtain ⟨t, rfl⟩ := rz
      show PySem.W.LenBack _ (.int (k : Int) t) s'
      exact ⟨by omega, ⟨.int k, H', I'.tok _, ⟨_, rfl⟩, q⟩⟩
    | next => exact False.elim hq
    | brk => exact False.elim hq
    | cont => exact False.elim hq
/-- isinstance of the error that the suite holds: one class, or a tuple of classes that was just laid -/
def rIsX (K : PySem.W.Frag) (a : Addr) (cls : Value) (d : Option Addr) : List V → Hp → VK → Prop := fun xs H Q => ∃ (D : Addr) (c : V) (b : Bool), cls = .ref D ∧ d = none ∧ ExcC K D ∧ xs = [.ref a, c] ∧
  ((∃ cv, ClsV c cv ∧ PySem.W.kitOne K (.ref D) cv = some b) ∨ (∃ tp cs us, c = .ref tp ∧ H tp = some (.tup cs) ∧ Paired ClsV cs us ∧ PySem.W.kitAny K (.ref D) us = some b)) ∧ Q (.bl b) H
theorem call_isX {a : Addr} {oe : Obj} {cls : Value} {d : Option Addr} {pn : List (Addr × Obj)} (hz : Zc cls d oe) (hf : ∃ vs, oe.data = .fields vs) : CallR (X.suite a ((a, oe) :: pn)) (.builtin "isinstance") (rIsX X.K a cls d) := by
  intro pins s σ H xs us Q I r h
  obtain ⟨D, c, b, rfl, rfl, C, rfl, hc, q⟩ := h
  obtain ⟨u1, u2, rfl, r1, r2⟩ := vals2 r
  cases r1
  obtain ⟨hget, _⟩ := I.pin (a, oe) (List.mem_append.mpr (.inl List.mem_cons_self))
  obtain ⟨vs, hv⟩ := hf
  have J : PySem.W.InstAt s.heap a oe D none := by
    obtain ⟨oc, od, oda, osl⟩ := oe
    obtain ⟨h1, h2⟩ := hz
    dsimp only at h1 h2 hv
    subst h1 h2 hv
    exact ⟨hget, rfl, rfl, trivial⟩
  have Z := PySem.W.handS_kitx_exc (x := a) (ox := oe) C.hg C.hk C.hs C.hd C.ha C.hn C.ht C.hm
  rcases hc with ⟨cv, hcv, e⟩ | ⟨tp, cs, ws, rfl, hT, k, e⟩
  · have e2 := hcv.eq r2
    subst e2
    exact PySem.W.kia_one Z I.kIn J e (fun z => nomatch z) fun tk => ⟨.bl b, H, I.kept (t' := tk) fun _ _ z => z, rfl, q⟩
  · cases (show u2 = Value.ref tp from r2)
    obtain ⟨_, its, rv, o, h1, h2, n, h3⟩ := (show ObjOk X.prog X.w H s.heap tp (.tup cs) from I.hok tp _ hT)
    have e3 := ClsV.all k rv
    subst e3
    obtain ⟨oc, od, dt, sl⟩ := o
    simp only at h2 h3
    subst h2 h3
    exact PySem.W.kia_tup Z I.kIn J h1 e (fun z => nomatch z) fun tk => ⟨.bl b, H, I.kept (t' := tk) fun _ _ z => z, rfl, q⟩
end
end TY

set_option maxHeartbeats 2000000
/-! Rules of our own: a made instance whose __init__ may raise; isinstance of a caught error that has a dict; two lists of the same items. -/
namespace TY
open PySem L2 PyProof.Rows TX
section
variable {X : Cx} {CX : CXT} {k : Nat} {f C : Addr} {fd : FuncData} {ps : List Str} {sp : Sp} {E : L2.St → XK} {x : Str} {p pos : Pos} {e : Expr} {es : List Expr} {t : TA}
theorem run_makeS {pins : List (Addr × Obj)} {σ : L2.St} {H : Hp} {s : Shared} {Q : VK} {us : List Value} {vs : List V} (M : Mk X.K C f) (F : FnOk X.prog X.w X.K X.mg X.base CX k f fd ps sp) (hr : Room (k + 1) X.A) (hb : Binds X.K fd ps [])
    (hx : PassesAt CX X σ (E σ)) (I : Inv X pins σ H s) (r : Vals vs us)
    (h : ∀ x dx, H x = none → H dx = none → dx ≠ x → sp (.ref x :: vs) (upd (upd H dx (.own x)) x (.ins C dx [])) (fun v H2 => v = .non ∧ Q (.ref x) H2) (E σ)) :
    wpAny (model X.prog X.w) X.A (call (.ref C) us) (EP X pins σ Q) X.xe s := by
  have hq := h (s.heap.objs.size + 1) s.heap.objs.size (I.hok.fresh (Nat.le_succ _)) (I.hok.fresh (Nat.le_refl _)) (Nat.ne_of_lt (Nat.lt_succ_self _))
  have I2 := Inv.made (C := C) I
  have r2 : Vals (V.ref (s.heap.objs.size + 1) :: vs) (Value.ref (s.heap.objs.size + 1) :: us) := .cons rfl r
  have hl : (Value.ref (s.heap.objs.size + 1) :: us).length = ps.length := by
    have e := r2.length
    rw [F.len _ _ _ _ hq] at e
    exact e.symm
  have b := hb _ (Value.ref (s.heap.objs.size + 1) :: us) I2.kIn (by rw [List.append_nil]; exact hl)
  rw [List.append_nil] at b
  refine wpAny_call (make_map (f := f) I.kIn M.makes M.init (beq_iff_eq.mp M.fn) (codeAny_mono (F.run _ X.stack _ _ ⟨Value.ref (s.heap.objs.size + 1) :: us, []⟩ (Value.ref (s.heap.objs.size + 1) :: us) _ _ (E σ) (hr.make C us [])
    (I2.env0.make C us []) b r2 hq) fun r s' hq' => ?_))
  cases r with
  | error e => exact hx pins _ _ e s' I2 hq'
  | ok fl =>
    cases fl with
    | ret u =>
      obtain ⟨v, H', I3, rv, ev, q3⟩ := I2.after hq'
      subst ev
      exact ⟨rv, ⟨V.ref (s.heap.objs.size + 1), H', I3, rfl, q3⟩⟩
    | next => exact False.elim hq'
    | brk => exact False.elim hq'
    | cont => exact False.elim hq'
/-- C(..), whose __init__ may raise -/
def tMakeS (C : Addr) (sp : Sp) (E : L2.St → XK) (t : TA) : TE := fun σ H Q => t σ H fun vs H1 => ∀ x dx, H1 x = none → H1 dx = none → dx ≠ x →
  sp (.ref x :: vs) (upd (upd H1 dx (.own x)) x (.ins C dx [])) (fun v H2 => v = .non ∧ Q (.ref x) H2) (E σ)
theorem pe_makeS (M : Mk X.K C f) (F : FnOk X.prog X.w X.K X.mg X.base CX k f fd ps sp) (hr : Room (k + 1) X.A) (hg : Gl X x) (hm : X.mg x = some (.ref C)) (hb : Binds X.K fd ps []) (hx : ∀ σ, PassesAt CX X σ (E σ))
    (ha : PA X (e :: es) t) (hdb : (x == ("__debug__" : Str)) = false := by decide) (he : starEach (e :: es) X.env = (false, eval e X.env) :: starEach es X.env := by rfl) (hpl : (backTo pos (starEach es X.env)).any (·.1) = false := by rfl) :
    PE X (.Call (.Name x p) (e :: es) [] pos) (tMakeS C sp E t) := by
  refine ⟨fun pins s σ H Q I h => ?_⟩
  refine wpAny_Call_Name_kw (ld_glob I hg hm ?_ hdb)
  refine PySem.W.callWith_K (h₀ := X.base) I.ok.mod.kin M.kp (thn (ha.run pos pins s σ H _ I h) fun us s1 ⟨vs, H1, I1, r, q⟩ => ⟨I1.kIn, ?_⟩) he hpl
  exact run_makeS M F hr hb (hx σ) I1 r q
/-- isinstance of the error that the suite holds, which has a dict -/
def rIsXd (K : PySem.W.Frag) (a : Addr) (cls : Value) (d : Option Addr) : List V → Hp → VK → Prop := fun xs H Q => ∃ (D : Addr) (c : V) (b : Bool), cls = .ref D ∧ ExcC K D ∧ (∃ (dd : Addr) (fs : List (Str × V)), d = some dd ∧ H dd = some (.xd fs)) ∧ xs = [.ref a, c] ∧
  ((∃ cv, ClsV c cv ∧ PySem.W.kitOne K (.ref D) cv = some b) ∨ (∃ tp cs us, c = .ref tp ∧ H tp = some (.tup cs) ∧ Paired ClsV cs us ∧ PySem.W.kitAny K (.ref D) us = some b)) ∧ Q (.bl b) H
theorem call_isXd {a : Addr} {oe : Obj} {cls : Value} {d : Option Addr} {pn : List (Addr × Obj)} (hz : Zc cls d oe) (hf : ∃ vs, oe.data = .fields vs) : CallR (X.suite a ((a, oe) :: pn)) (.builtin "isinstance") (rIsXd X.K a cls d) := by
  intro pins s σ H xs us Q I r h
  obtain ⟨D, c, b, rfl, C, ⟨dd, fs, rfl, hdd⟩, rfl, hc, q⟩ := h
  obtain ⟨u1, u2, rfl, r1, r2⟩ := vals2 r
  cases r1
  obtain ⟨hget, _⟩ := I.pin (a, oe) (List.mem_append.mpr (.inl List.mem_cons_self))
  obtain ⟨vs, hv⟩ := hf
  have hx : ObjOk X.prog X.w H s.heap dd (.xd fs) := I.hok dd _ hdd
  obtain ⟨mA, hns, hr⟩ := hx
  obtain ⟨od, ho, hl⟩ := lookIn_ns hns
  have J : PySem.W.InstAt s.heap a oe D (some od) := ⟨hget, hz.1, by unfold PySem.W.notCls; rw [hv] <;> rfl, by rw [hz.2]; exact ho⟩
  have hcl : (PySem.W.clsIn X.K D).isSome = true := by
    obtain ⟨cd, hc', _⟩ := PySem.W.any_some C.hd
    rw [hc']
    rfl
  have Z := PySem.W.kitx_exc (x := a) (ox := oe) (od := some od) hcl C.hg C.hk C.hs C.ha C.hn C.ht C.hm
  rcases hc with ⟨cv, hcv, e⟩ | ⟨tp, cs, ws, rfl, hT, k, e⟩
  · have e2 := hcv.eq r2
    subst e2
    exact PySem.W.kia_one Z I.kIn J e (fun z => nomatch z) fun tk => ⟨.bl b, H, I.kept (t' := tk) fun _ _ z => z, rfl, q⟩
  · cases (show u2 = Value.ref tp from r2)
    obtain ⟨_, its, rv, o, h1, h2, n, h3⟩ := (show ObjOk X.prog X.w H s.heap tp (.tup cs) from I.hok tp _ hT)
    have e3 := ClsV.all k rv
    subst e3
    obtain ⟨oc, od', dt, sl⟩ := o
    simp only at h2 h3
    subst h2 h3
    exact PySem.W.kia_tup Z I.kIn J h1 e (fun z => nomatch z) fun tk => ⟨.bl b, H, I.kept (t' := tk) fun _ _ z => z, rfl, q⟩
/-- two lists of the same items: != is False -/
def itemV : V → Bool
  | .non => true
  | .bl _ => true
  | .int _ => true
  | .str _ => true
  | .ref _ => true
  | _ => false
theorem eqAt_item {A : Around} {s : Shared} {x : V} {u v : Value} (rx : RelV x u) (ry : RelV x v) (h : itemV x = true) : SeqAt.EqAt A s u v true := by
  cases x with
  | ref a =>
    cases (show u = Value.ref a from rx)
    cases (show v = Value.ref a from ry)
    intro prog w E Q hq
    unfold eqBool
    refine wpAny_holding ?_
    refine wpAny_ite_split (fun _ => ?_) (fun hab => absurd (by simp) hab)
    wp_walk
    exact hq
  | non => exact (eqAt_V rx ry rfl rfl : _)
  | bl b => have q := eqAt_V (A := A) (s := s) rx ry rfl rfl; rw [show eqV (.bl b) (.bl b) = true by simp [eqV]] at q; exact q
  | int i => have q := eqAt_V (A := A) (s := s) rx ry rfl rfl; rw [show eqV (.int i) (.int i) = true by simp [eqV]] at q; exact q
  | str z => have q := eqAt_V (A := A) (s := s) rx ry rfl rfl; rw [show eqV (.str z) (.str z) = true by simp [eqV]] at q; exact q
  | _ => cases h
def rNeSame (K : PySem.W.Frag) : R2 := fun x y H Q => ∃ a b xs, x = .ref a ∧ y = .ref b ∧ SqL K H a xs ∧ SqL K H b xs ∧ xs.all itemV = true ∧ Q (.bl false) H
theorem op_neSame (hu : X.A.units < cLine) : OpR X (compareOp .NotEq) (rNeSame X.K) := by
  intro pins s σ H x y v u Q I rx ry h
  obtain ⟨a, b, xs, rfl, rfl, ha, hb, hi, q⟩ := h
  cases rx
  cases ry
  obtain ⟨its, r, hl, _⟩ := I.list ha
  obtain ⟨its2, r2, hl2, _⟩ := I.list hb
  have hsz : its.toArray.size = its2.toArray.size := by rw [List.size_toArray, List.size_toArray, ← r.length, ← r2.length]
  have he : ∀ j (h1 : j < its.toArray.size) (h2 : j < its2.toArray.size), SeqAt.EqAt X.A.in1 s its.toArray[j] its2.toArray[j] ((fun _ => true) j) := by
    intro j h1 h2
    have k1 : j < xs.length := by rw [r.length]; simpa using h1
    obtain ⟨u1, e1, r1⟩ := r.get (List.getElem?_eq_getElem k1)
    obtain ⟨u2, e2, r3⟩ := r2.get (List.getElem?_eq_getElem k1)
    have g1 : its.toArray[j] = u1 := by
      have h1' : j < its.length := by simpa using h1
      rw [List.getElem?_eq_getElem h1'] at e1
      simpa using Option.some.inj e1
    have g2 : its2.toArray[j] = u2 := by
      have h2' : j < its2.length := by simpa using h2
      rw [List.getElem?_eq_getElem h2'] at e2
      simpa using Option.some.inj e2
    rw [g1, g2]
    exact eqAt_item r1 r3 (List.all_eq_true.mp hi _ (List.getElem_mem k1))
  have z := SeqAt.RcNeAt.lists hl.isList hl2.isList hsz hu he
  have e : (List.range its.toArray.size).all (fun _ => true) = true := by simp
  rw [e] at z
  exact z X.prog X.w X.xe _ ⟨.bl false, H, I, rfl, q⟩
/-- a list == [] -/
def rEqNil (K : PySem.W.Frag) : R2 := fun x y H Q => ∃ a b xs, x = .ref a ∧ y = .ref b ∧ SqL K H a xs ∧ SqL K H b [] ∧ Q (.bl xs.isEmpty) H
theorem op_eqNil (hu : X.A.units < cLine) : OpR X (compareOp .Eq) (rEqNil X.K) := by
  intro pins s σ H x y v u Q I rx ry h
  obtain ⟨a, b, xs, rfl, rfl, ha, hb, q⟩ := h
  cases rx
  cases ry
  obtain ⟨its, r, hl, _⟩ := I.list ha
  obtain ⟨its2, r2, hl2, _⟩ := I.list hb
  have h2 : its2 = [] := by
    cases r2
    rfl
  subst h2
  cases xs with
  | nil =>
    cases r
    have z := SeqAt.RcAt.lists (e := fun _ => true) hl.isList hl2.isList rfl hu (fun j h1 h2 => absurd h1 (by simp))
    exact z X.prog X.w X.xe _ ⟨.bl true, H, I, rfl, q⟩
  | cons z zs =>
    have hsz : (its.toArray.size != ([] : List Value).toArray.size) = true := by
      have : its.length = (z :: zs).length := r.length.symm
      simp [this]
    have z := SeqAt.RcAt.lists_lengths hl.isList hl2.isList hsz hu
    exact z X.prog X.w X.xe _ ⟨.bl false, H, I, rfl, q⟩
/-- one sign of a text -/
theorem found_sign (x : Str) (c : Nat) : (!(Builtin.Str.occurrences x ⟨#[c]⟩ 0 x.length 1).isEmpty) = decide (c ∈ x.cps.toList) := StrLaws.found_one x c
end
end TY

set_option maxHeartbeats 2000000
/-! Rules of our own: sets of rows (tuples of ints, below 64): made by a comprehension, sorted whatever the ints. -/
namespace TB
open PySem L2 PyProof.Rows
/-! ### the order of rows -/
def ltI : List Int → List Int → Bool
  | [], [] => false
  | [], _ :: _ => true
  | _ :: _, [] => false
  | x :: a, y :: b => if x = y then ltI a b else decide (x < y)
theorem ltI_asym : ∀ {a b : List Int}, ltI a b = true → ltI b a = false
  | [], [], h => by cases h
  | [], _ :: _, _ => rfl
  | _ :: _, [], h => by cases h
  | x :: a, y :: b, h => by
    unfold ltI at h ⊢
    by_cases e : x = y
    · subst e
      rw [if_pos rfl] at h ⊢
      exact ltI_asym h
    · rw [if_neg e] at h
      rw [if_neg (fun z => e z.symm)]
      have := of_decide_eq_true h
      exact decide_eq_false (by omega)
theorem ltI_anti : ∀ {a b : List Int}, ltI a b = false → ltI b a = false → a = b
  | [], [], _, _ => rfl
  | [], _ :: _, h, _ => by cases h
  | _ :: _, [], _, h => by cases h
  | x :: a, y :: b, h, k => by
    unfold ltI at h k
    by_cases e : x = y
    · subst e
      rw [if_pos rfl] at h k
      rw [ltI_anti h k]
    · rw [if_neg e] at h
      rw [if_neg (fun z => e z.symm)] at k
      have h1 := of_decide_eq_false h
      have h2 := of_decide_eq_false k
      omega
theorem ltI_le : ∀ {a b c : List Int}, ltI b a = false → ltI c b = false → ltI c a = false
  | [], [], [], _, _ => rfl
  | [], [], _ :: _, _, h => by cases h <;> rfl
  | [], _ :: _, [], h, _ => by first | rfl | cases h
  | [], _ :: _, _ :: _, h, _ => by first | rfl | cases h
  | _ :: _, [], _, h, _ => by cases h
  | _ :: _, _ :: _, [], _, h => by cases h
  | x :: a, y :: b, z :: c, h, k => by
    unfold ltI at h k ⊢
    by_cases e : y = x
    · subst e
      rw [if_pos rfl] at h
      by_cases e2 : z = y
      · subst e2
        rw [if_pos rfl] at k ⊢
        exact ltI_le h k
      · rw [if_neg e2] at k ⊢
        exact k
    · rw [if_neg e] at h
      have h1 := of_decide_eq_false h
      by_cases e2 : z = y
      · subst e2
        rw [if_neg e]
        exact h
      · rw [if_neg e2] at k
        have h2 := of_decide_eq_false k
        rw [if_neg (by omega)]
        exact decide_eq_false (by omega)
theorem ltI_swo {α : Type} (k : α → List Int) : SrtO.Swo fun v u => ltI (k v) (k u) := ⟨fun _ _ => ltI_asym, fun _ _ _ => ltI_le⟩
/-! ### rows held against one another by the sort -/
theorem lex_all {prog : Program} {w : World} {A : Around} {s : Shared} {Q : Bool → Shared → Prop} : ∀ {xs ys : List Value} {ns ms : List Int} {i : Nat} {fin : Bool}, IntsAre xs ns → IntsAre ys ms → (ns.length = ms.length → fin = false) → ns.length = ms.length → Q (ltI ns ms) s →
    W.KatLex prog w A true fin Q (xs.zip ys) i s := by
  intro xs ys ns ms i fin h
  induction h generalizing ys ms i with
  | nil =>
    intro k hf hl q
    cases k with
    | nil =>
      have e := hf hl
      subst e
      exact W.kat_nil q
    | cons n t k => cases hl
  | @cons n t vs ns h ih =>
    intro k hf hl q
    cases k with
    | nil => cases hl
    | @cons m u ws ms k =>
      have hl' : ns.length = ms.length := by simpa using hl
      refine W.kat_cons (SeqAt.EqAt.int_int n t m u prog w _ _ ?_)
      refine W.kat_go (fun e => ?_) fun e => ?_
      · have e : n = m := by simpa using e
        subst e
        refine W.kat_yes (ih k (fun _ => hf hl) hl' ?_)
        have : ltI (n :: ns) (n :: ms) = ltI ns ms := by conv => lhs; unfold ltI; rw [if_pos rfl]
        rwa [this] at q
      · have e : ¬ n = m := by simpa using e
        have : ltI (n :: ns) (m :: ms) = decide (n < m) := by unfold ltI; rw [if_neg e]
        rw [this] at q
        refine W.kat_no ?_
        by_cases hi : i = 0
        · subst hi
          exact oneLt_int q
        · have : (true && i == 0) = false := by simp [hi]
          rw [this]
          exact W.kat_one _ _ (lt_int q)
theorem tups_cmp {prog : Program} {w : World} {A : Around} {s : Shared} {vs : List Value} {k : Value → List Int} {d : Nat} (hk : ∀ v ∈ vs, TS.TupInts s.heap v (k v) ∧ (k v).length = d) : SrtO.Cmp prog w A s (tuples' true) (fun p => p.1 ∈ vs) (SrtO.lt2 fun v u => ltI (k v) (k u)) := by
  intro p q hp hq
  obtain ⟨⟨a, xs, ea, ⟨o, ho, hc, n, hd⟩, ia⟩, la⟩ := hk p.1 hp
  obtain ⟨⟨b, ys, eb, ⟨o', ho', hc', n', hd'⟩, ib⟩, lb⟩ := hk q.1 hq
  have l1 : xs.size = d := by
    have : ∀ {xs ns}, IntsAre xs ns → xs.length = ns.length := fun h => by induction h <;> simp_all
    rw [← la, ← this ia, Array.length_toList]
  have l2 : ys.size = d := by
    have : ∀ {xs ns}, IntsAre xs ns → xs.length = ns.length := fun h => by induction h <;> simp_all
    rw [← lb, ← this ib, Array.length_toList]
  rw [ea, eb]
  refine W.kat_lt ho hd ho' hd' (lex_all ia ib (fun _ => by rw [l1, l2]; simp) (by rw [la, lb]) ⟨rfl, ?_⟩)
  show ltI _ _ = ltI (k p.1) (k q.1)
  rw [ea, eb]
theorem firsts {h : Heap} {k : Value → List Int} : ∀ {vs : List Value}, (∀ v ∈ vs, TS.TupInts h v (k v) ∧ k v ≠ []) → ∃ fs : List Value, W.KatTups h vs fs ∧ fs.length = vs.length ∧ ∀ f ∈ fs, ∃ x t, f = Value.int x t
  | [], _ => ⟨[], by first | trivial | exact .nil | rfl, rfl, fun _ h => nomatch h⟩
  | v :: vs, hv => by
    obtain ⟨fs, h1, h2, h3⟩ := firsts fun u hu => hv u (List.mem_cons_of_mem _ hu)
    obtain ⟨⟨a, xs, ea, ⟨o, ho, hc, n, hd⟩, ia⟩, ne⟩ := hv v List.mem_cons_self
    generalize hns : k v = ns at ia ne
    generalize hl : xs.toList = l at ia
    cases ia with
    | nil => exact absurd rfl ne
    | @cons m t l' ns' ia =>
      subst ea
      refine ⟨.int m t :: fs, W.KatTups.cons ho hc hd ?_ h1, by rw [List.length_cons, List.length_cons, h2], fun f hf => ?_⟩
      · rw [← Array.getElem?_toList, hl]
        rfl
      · rcases List.mem_cons.mp hf with e | hf
        · exact ⟨m, t, e⟩
        · exact h3 f hf
theorem tupInts_keep {h h' : Heap} {v : Value} {ns : List Int} (t : TS.TupInts h v ns) (keep : ∀ b o, h.get? b = some o → o.cls = .type "tuple" → h'.get? b = some o) : TS.TupInts h' v ns := by
  obtain ⟨a, xs, ea, ⟨o, ho, hc, n, hd⟩, ia⟩ := t
  exact ⟨a, xs, ea, ⟨o, keep _ _ ho hc, hc, n, hd⟩, ia⟩
theorem rows_sortable {prog : Program} {w : World} {A : Around} {s : Shared} {a : Addr} {vs : List Value} {k : Value → List Int} {d : Nat} (h0 : 0 < vs.length) (hk : ∀ v ∈ vs, TS.TupInts s.heap v (k v) ∧ (k v).length = d) (hne : ∀ v ∈ vs, k v ≠ [])
    (ha : ∀ o, s.heap.get? a = some o → o.cls ≠ .type "tuple") : SrtO.SortableO prog w A s a vs fun v u => ltI (k v) (k u) := by
  intro h' keep
  have hk' : ∀ v ∈ vs, TS.TupInts h' v (k v) ∧ (k v).length = d := fun v hv => ⟨tupInts_keep (hk v hv).1 fun b o e hc => keep b o (fun z => ha o (z ▸ e) hc) e, (hk v hv).2⟩
  obtain ⟨fs, h1, h2, h3⟩ := firsts fun v hv => ⟨(hk' v hv).1, hne v hv⟩
  refine ⟨tuples' true, fun Q E hq => ?_, tups_cmp hk'⟩
  refine W.kat_kind (T := .type "int") h1 (by omega) (fun f hf => ?_) (by rfl) ?_
  · obtain ⟨x, t, rfl⟩ := h3 f hf
    exact W.Looks.now
  · have e : (Value.type "int" != Value.type "tuple") = true := by decide +kernel
    rw [e]
    exact hq
/-! ### a set of rows sorted -/
/-- what stands at an address -/
theorem rowsV {P : Program} {w : World} {h : Heap} {L : List (Addr × List Int)} (nd : (L.map (·.2)).Nodup) (tup : ∀ p ∈ L, L2.IsT P w h p.2 p.1) : ∃ k : Value → List Int, ∀ p ∈ L, k (.ref p.1) = p.2 := by
  refine ⟨fun v => match v with
    | .ref a => (match L.find? fun p => p.1 == a with
      | some p => p.2
      | none => [])
    | _ => [], fun p hp => ?_⟩
  show (match L.find? fun q => q.1 == p.1 with | some q => q.2 | none => []) = p.2
  cases hf : L.find? fun q => q.1 == p.1 with
  | none =>
    have := List.find?_eq_none.mp hf p hp
    simp at this
  | some q =>
    have hq := List.mem_of_find?_eq_some hf
    have he : q.1 = p.1 := by simpa using List.find?_some hf
    have a1 := tup q hq
    rw [he] at a1
    exact IsTupleKey.inj a1 (tup p hp)
theorem sorted_rows {P : Program} {w : World} {A : Around} {E : Value → Shared → Prop} {s : Shared} {a : Addr} {L : List (Addr × List Int)} {es : Array (Int × Value)} {ep : Nat} {t : SetTable} {Q : Value → Shared → Prop} {d : Nat}
    (R : SetTR P w s.heap a L es ep t) (hh : A.handled = none) (hd : ∀ p ∈ L, p.2.length = d)
    (hQ : ∀ (s' : Shared) (p : Nat) (out : Array Value) (c : Nat) (L' : List (Addr × List Int)), (∀ b o, s.heap.get? b = some o → s'.heap.get? b = some o) → s'.gens = s.gens → s'.os = s.os → s.heap.objs.size ≤ p →
      s'.heap.get? p = some (seqObj "list" out c) → out.toList = L'.map (fun q => Value.ref q.1) → L'.Perm L → L'.Pairwise (fun q r => ltI r.2 q.2 = false) → Q (.ref p) s') :
    wpAny (model P w) A (call (.builtin "sorted") [.ref a]) Q E s := by
  obtain ⟨o, ho, hex, hdat⟩ := R.ob
  have hsz := R.size
  have hfew := R.few
  obtain ⟨k, hk⟩ := rowsV R.nd R.tup
  refine Calls.call_function_entry kind_sorted plain_sorted entry_sorted (args_sorted1 (.ref a)) ?_
  refine wpAny_bind (wpAny_pure (wpAny_bind (collect_set hh ⟨o, ho, ⟨hex.1, hdat⟩⟩ R.fits (Nat.lt_of_lt_of_le (by omega) (by decide : 64 ≤ scanBound)) R.tab.ris R.led fun s1 vs k1 hz g1 o1 pm => ?_)))
  have hes : es.toList.map (·.2) = L.map fun q => Value.ref q.1 := by
    rw [R.rows]
    show ((L.map fun p => (thash P w p.2, Value.ref p.1)).map (·.2)) = _
    rw [List.map_map]
    rfl
  rw [hes] at pm
  have hvl : vs.length < 64 := by
    rw [pm.length_eq, List.length_map]
    exact hfew
  refine wpAny_bind (wpAny_newList ?_)
  have hoL := Heap.get?_push_size s1.heap (o := seqObj "list" vs.toArray 0) rfl
  have tk : ∀ q ∈ L, TS.TupInts (s1.heap.push (seqObj "list" vs.toArray 0)) (.ref q.1) q.2 := fun q hq =>
    tupInts_of (isT_keep (R.tup q hq) fun b u e => Heap.get?_push_of_some (seqObj "list" vs.toArray 0) (k1 b u e))
  have of_vs : ∀ v ∈ vs, ∃ q ∈ L, v = .ref q.1 := fun v hv => by
    obtain ⟨q, hq, e⟩ := List.mem_map.mp (pm.mem_iff.mp hv)
    exact ⟨q, hq, e.symm⟩
  have hkv : ∀ v ∈ vs, TS.TupInts (s1.heap.push (seqObj "list" vs.toArray 0)) v (k v) ∧ (k v).length = d := fun v hv => by
    obtain ⟨q, hq, rfl⟩ := of_vs v hv
    rw [hk q hq]
    exact ⟨tk q hq, hd q hq⟩
  refine wpAny_bind (wpAny_holding ?_)
  have ord : ∀ {l : List Value}, (∀ v ∈ l, ∃ q ∈ L, v = .ref q.1) → ∃ L1 : List (Addr × List Int), l = L1.map (fun q => Value.ref q.1) ∧ ∀ q ∈ L1, q ∈ L := by
    intro l
    induction l with
    | nil => exact fun _ => ⟨[], rfl, fun _ h => nomatch h⟩
    | cons v r ih =>
      intro hv
      obtain ⟨q, hq, e⟩ := hv v List.mem_cons_self
      obtain ⟨L1, e1, hs⟩ := ih fun u hu => hv u (List.mem_cons_of_mem _ hu)
      exact ⟨q :: L1, by rw [List.map_cons, e, e1], fun z hz => (List.mem_cons.mp hz).elim (fun e => e ▸ hq) (hs z)⟩
  have one : ∀ q ∈ L, ∀ r ∈ L, q.1 = r.1 → q = r := fun q hq r hr e => by
    have a1 := R.tup q hq
    rw [e] at a1
    exact Prod.ext e (IsTupleKey.inj a1 (R.tup r hr))
  have perm_of : ∀ {L1 : List (Addr × List Int)}, (∀ q ∈ L1, q ∈ L) → (L1.map fun q => Value.ref q.1).Perm (L.map fun q => Value.ref q.1) → L1.Perm L := by
    intro L1 hs p1
    have nL := nodup_of_map R.nd
    have nref : (L.map fun q => Value.ref q.1).Nodup := List.pairwise_map.mpr (List.Pairwise.imp_of_mem (fun {q r} hq hr hne e => hne (one q hq r hr (Value.ref.inj e))) nL)
    have n1 : L1.Nodup := nodup_of_map ((List.Perm.nodup_iff p1).mpr nref)
    refine (List.perm_ext_iff_of_nodup n1 nL).mpr fun q => ⟨hs q, fun hq => ?_⟩
    obtain ⟨r, hr, e⟩ := List.mem_map.mp (p1.mem_iff.mpr (List.mem_map.mpr ⟨q, hq, rfl⟩))
    rw [← one r (hs r hr) q hq (Value.ref.inj e)]
    exact hr
  have cmp2 : ∀ {L1 : List (Addr × List Int)} {out : List Value}, out = L1.map (fun q => Value.ref q.1) → (∀ q ∈ L1, q ∈ L) → SrtO.Srtd (fun v u => ltI (k v) (k u)) out → L1.Pairwise fun q r => ltI r.2 q.2 = false := by
    intro L1 out e hs h
    rw [e] at h
    refine List.Pairwise.imp_of_mem (fun {q r} hq hr z => ?_) (List.pairwise_map.mp h)
    have z : ltI (k (.ref r.1)) (k (.ref q.1)) = false := z
    rwa [hk q (hs q hq), hk r (hs r hr)] at z
  refine wpAny_call_entry slot_list_sort ⟨_, hoL, rfl⟩ entry_list_sort ?_ (args_list_sort _)
  refine SrtO.list_sort_ord (ltI_swo k) hoL (Nat.le_trans (Nat.le_of_lt hvl) (by decide)) (fun h2 => rows_sortable (by omega) hkv (fun v hv e => ?_) fun o e => ?_) fun out hs st => ?_
  · -- unlike rows of no values can't be two
    have d0 : d = 0 := by rw [← (hkv v hv).2, e]; rfl
    obtain ⟨L1, e1, h1⟩ := ord of_vs
    have pL := perm_of h1 (e1 ▸ pm)
    have nd1 : (L1.map (·.2)).Nodup := (List.Perm.nodup_iff (pL.map _)).mpr R.nd
    rw [e1, List.length_map] at h2
    match L1, h2, nd1, h1 with
    | q :: r :: _, _, nd1, h1 =>
      rw [List.map_cons, List.map_cons, List.nodup_cons] at nd1
      have eq : q.2 = [] := List.length_eq_zero_iff.mp (by rw [hd q (h1 q List.mem_cons_self), d0])
      have er : r.2 = [] := List.length_eq_zero_iff.mp (by rw [hd r (h1 r (List.mem_cons_of_mem _ List.mem_cons_self)), d0])
      exact absurd (by rw [eq, er]; exact List.mem_cons_self) nd1.1
  · rw [hoL] at e
    cases e
    show Value.type "list" ≠ Value.type "tuple"
    decide +kernel
  · obtain ⟨L', e', hs'⟩ := ord (l := out) fun v hv => of_vs v (st.perm.mem_iff.mp hv)
    obtain ⟨c, hc⟩ := sortedHeap_at (out := out.toArray) hoL
    refine ⟨_, rfl, wpAny_pure ⟨_, rfl, ?_⟩⟩
    refine hQ _ s1.heap.objs.size out.toArray c L' (fun b u e => ?_) g1 o1 hz hc e' (perm_of hs' (e' ▸ st.perm.trans pm)) (cmp2 e' hs' hs)
    have hb := k1 b u e
    have hlt := Heap.lt_size hb
    show (sortedHeap (s1.heap.push (seqObj "list" vs.toArray 0)) s1.heap.objs.size vs out.toArray).get? b = some u
    rw [sortedHeap_old (Nat.ne_of_lt hlt) (by rw [Heap.size_push]; exact Nat.lt_succ_of_lt hlt)]
    exact Heap.get?_push_of_some _ hb
/-- sorted(rows), a set of rows -/
def rSortedS (K : W.Frag) (P : Program) (w : World) : List V → Hp → VK → Prop := fun vs H Q => ∃ a L d, vs = [.ref a] ∧ H a = some (SetTO P w a L) ∧ (∀ p ∈ L, SqT K H p.1 (p.2.map V.int)) ∧ (∀ p ∈ L, p.2.length = d) ∧
  ∀ (L' : List (Addr × List Int)) (p : Addr), L'.Perm L → (L'.map (·.2)).Nodup → L'.length < 64 → L'.Pairwise (fun q r => ltI r.2 q.2 = false) → H p = none → Q (.ref p) (upd H p (.lst (L'.map fun q => V.ref q.1)))
theorem cr_sortedS {X : Cx} (hc : X.calm = true) : CallR X (.builtin "sorted") (rSortedS X.K X.prog X.w) := by
  intro pins s σ H vs us Q I r h
  obtain ⟨a, L, d, rfl, ha, hk, hd, q⟩ := h
  have R0 : SetT0 X.prog X.w s.heap a L := (I.hok a _ ha).1
  obtain ⟨es, ep, t, R⟩ := R0.full fun p hp => I.isT (hk p hp)
  rw [Vals.ref1 r]
  refine sorted_rows R (I.ok.hd hc) hd fun s' p out c L' k g o hp hg hout pm pw => ?_
  have hfew : L'.length < 64 := by rw [pm.length_eq]; exact R.few
  have hn : H p = none := HOk.fresh I.hok hp
  have hv : Vals (L'.map fun q => V.ref q.1) out.toList := by rw [hout]; exact vals_of_refs L'
  have hlen : (L'.map fun q => V.ref q.1).length ≤ sizeLine := by rw [List.length_map]; exact TX.line100 (by omega)
  have J : Inv X pins σ (upd H p (.lst (L'.map fun q => V.ref q.1))) { heap := s'.heap, gens := s'.gens, drawn := s'.drawn, toks := s'.toks, os := s.os } := by
    refine Inv.call (ch := []) I (Un.laid k hp hn) (HOk.laid I.hok k hp ⟨hlen, _, c, hv, hg⟩) ?_ ?_
    · rw [g]
      exact I.bare
    · exact fun x z => nomatch z
  have e : s' = { heap := s'.heap, gens := s'.gens, drawn := s'.drawn, toks := s'.toks, os := s.os } := by
    cases s'
    cases s
    cases o
    rfl
  rw [e]
  exact ⟨.ref p, _, J, rfl, q L' p pm ((List.Perm.nodup_iff (pm.map _)).mpr R.nd) hfew pw hn⟩
/-! ### a row put into a set -/
theorem add_row {P : Program} {w : World} {A : Around} {E : Value → Shared → Prop} {s : Shared} {a : Addr} {L : List (Addr × List Int)} {es : Array (Int × Value)} {ep : Nat} {t : SetTable} {x : Addr} {k : List Int} {Q : Value → Shared → Prop}
    (R : SetTR P w s.heap a L es ep t) (hx : L2.IsT P w s.heap k x) (hu : A.units + 1 < cLine) (hl : L.length + 1 < 64)
    (hQ : ∀ (h' : Heap) (tk : Nat) (L' : List (Addr × List Int)) (es' : Array (Int × Value)) (ep' : Nat) (t' : SetTable), Heap.SameBut a s.heap h' → SetTR P w h' a L' es' ep' t' →
      (k ∈ L.map (·.2) → L' = L) → (k ∉ L.map (·.2) → L'.Perm ((x, k) :: L)) → Q .none { heap := h', gens := s.gens, drawn := s.drawn, toks := tk, os := s.os }) :
    wpAny (model P w) A (call (.builtin "set.add") [.ref a, .ref x]) Q E s := by
  obtain ⟨o, ho, hex, hd⟩ := id R.ob
  refine wpAny_call_entry F.slot_set_add ⟨o, ho, hex.1⟩ F.entry_set_add ?_ (F.args_set_add_2 _ _)
  show wpAny _ _ ((do let y ← setAdd a (.ref x); ret .none : Sem Fin)) _ _ _
  refine wpAny_bind (wpAny_holding (wpAny_bind (wpAny_pyHash_tuple hu hx ?_)))
  refine add_at (s := { heap := s.heap, gens := s.gens, drawn := s.drawn, toks := s.toks + (k.length + 1), os := s.os }) R hx hu hl fun b h' L' es' ep' t' sb R' h1 h2 => ?_
  exact wpAny_pure ⟨_, rfl, hQ h' _ L' es' ep' t' sb R' h1 h2⟩
theorem addT_ok {X : Cx} {pins : List (Addr × Obj)} {σ : L2.St} {H : Hp} {s : Shared} {E : Value → Shared → Prop} {D x : Addr} {L : List (Addr × List Int)} {k : List Int} {Q : Value → Shared → Prop} (hu : X.A.units + 1 < cLine) (I : Inv X pins σ H s)
    (hD : H D = some (SetTO X.prog X.w D L)) (hk : ∀ p ∈ L, SqT X.K H p.1 (p.2.map V.int)) (hx : SqT X.K H x (k.map V.int)) (room : L.length + 1 < 64)
    (h : ∀ (s' : Shared) (L' : List (Addr × List Int)), (k ∈ L.map (·.2) → L' = L) → (k ∉ L.map (·.2) → L'.Perm ((x, k) :: L)) → Inv X pins σ (upd H D (SetTO X.prog X.w D L')) s' → Q .none s') :
    wpAny (model X.prog X.w) X.A (call (.builtin "set.add") [.ref D, .ref x]) Q E s := by
  have R0 : SetT0 X.prog X.w s.heap D L := (I.hok D _ hD).1
  obtain ⟨es, ep, t, R⟩ := R0.full fun p hp => I.isT (hk p hp)
  refine add_row R (I.isT hx) hu room fun h' tk L' es' ep' t' sb R' h1 h2 => ?_
  refine h _ L' h1 h2 (Inv.write (e := D) I ?_ (.inl rfl) (fun b u hb hu => (sb.2 b hb).trans hu) ?_ (setTO_new R'.t0))
  · rw [hD]
    trivial
  · obtain ⟨o, ho, _⟩ := R'.ob
    exact ⟨o, ho⟩
/-! ### {row for .. in ..} -/
def tScT (K : W.Frag) (P : Program) (w : World) (wi : TI) (g : TG) (tt : TT) (te : TE) (vs : List Nat) : TE := fun σ H Q => wi σ H fun J H1 => ∀ D, H1 D = none → ∃ Wt : Nat → Nat → Hp → Prop, (∃ m, Wt 0 m (upd H1 D (SetTO P w D []))) ∧
  ∀ i m H, Wt i m H → (J.stop i H ∧ Q (.ref D) H) ∨ (J.go i H ∧ ∃ Nx : Hp → Prop, (∀ H', Nx H' → ∃ m', m' < m ∧ Wt (i + 1) m' H') ∧ ∀ x H', J.yld i H x H' → g x (wipe σ vs) H' fun σ2 H2 => wipe σ2 vs = wipe σ vs ∧
    tt σ2 H2 fun b H3 => if b = true then te σ2 H3 fun y H4 => ∃ (t : Addr) (k : List Int) (L : List (Addr × List Int)), y = .ref t ∧ SqT K H4 t (k.map V.int) ∧ H4 D = some (SetTO P w D L) ∧ (∀ p ∈ L, SqT K H4 p.1 (p.2.map V.int)) ∧ L.length + 1 < 64 ∧
      ∀ L' : List (Addr × List Int), (k ∈ L.map (·.2) → L' = L) → (k ∉ L.map (·.2) → L'.Perm ((t, k) :: L)) → Nx (upd H4 D (SetTO P w D L')) else Nx H3)
theorem sc_rows {X : Cx} {pins : List (Addr × Obj)} {s : Shared} {σ : L2.St} {H : Hp} {Q : VK} {elt tg iter : Expr} {ifs : List Expr} {scope : Scope} {own : List (Str × Nat)} {pos pos' : Pos} {wi : TI} {g : TG} {tt : TT} {te : TE} {use : Option (Value → Sem Unit)} {Qf : Value → Shared → Prop}
    (hu : X.A.units + 1 < cLine) (hc : X.calm = true) (hN : X.N.Nodup) (I : L2.Inv X pins σ H s) (hi : PI X tg iter wi) (ok : BlkOk X.N X.env.scope scope own)
    (hg : ∀ (s : Shared) (H : Hp) (C : Addr) (cl : List (Str × Addr)) (fp : List Addr), PG (X.blk s H scope (compEnvC scope cl C X.env) fp) tg g)
    (ht : ∀ (s : Shared) (H : Hp) (C : Addr) (cl : List (Str × Addr)) (fp : List Addr), PTs (X.blk s H scope (compEnvC scope cl C X.env) fp) ifs tt)
    (he : ∀ (s : Shared) (H : Hp) (C : Addr) (cl : List (Str × Addr)) (fp : List Addr), PE (X.blk s H scope (compEnvC scope cl C X.env) fp) elt te)
    (hs : ∀ x : Value, foldedSetIterable iter X.env x = pure x) (h : tScT X.K X.prog X.w wi g tt te (own.map (·.2)) σ H Q)
    (hRR : ∀ (D C : Addr) (s' : Shared) (m : Str → Option Value) (H' : Hp), L2.Inv X pins σ H' s' → Q (.ref D) H' → s'.heap.Ns C m → FpOk X pins H' C → compPost (model X.prog X.w) X.A X.xe use Qf (.ref D) C (.ok .next) s') :
    wpAny (model X.prog X.w) X.A (comprehension (elt.SetComp [⟨tg, iter, ifs, 0⟩] scope pos) scope X.env pos' (newSet (.type "set")) false (eval iter X.env) use) Qf X.xe s := by
  have hfree : ∀ y ∈ scope.names, y.2 = .free → ∃ c, List.lookup y.1 X.env.cells = some c := fun y hy e => (ok.free y hy e).elim (fun k => I.ok.has _ (.inl k)) fun k => I.ok.has _ (.inr k)
  refine wpAny_comprehension_free rfl hs (closure_ok hfree) ok.kind (fun y hy e => by rw [ok.uniq y hy, e]) ?_
  refine thn (hi.run pins s σ H _ I h) fun xv s1 hx => thn hx fun itv s2 h2 => ?_
  obtain ⟨it, fp, tn, J, H2, rfl, I2, T, st2, f2, q⟩ := h2
  refine PpSet.newSet_ok (newEnv_comp ?_)
  have hDn : H2 s2.heap.objs.size = none := HOk.fresh I2.hok (Nat.le_refl _)
  obtain ⟨Wt, ⟨m0, w0⟩, turn⟩ := q _ hDn
  have I3 : L2.Inv X pins σ (upd H2 s2.heap.objs.size (SetTO X.prog X.w s2.heap.objs.size [])) { heap := s2.heap.push { cls := .type "set", data := .set #[] 0 (SetTable.fresh 0 0 !X.w.params.followText "set-order") }, gens := s2.gens, drawn := s2.drawn, toks := s2.toks, os := s2.os } :=
    Inv.laid I2 (fun b o e => Heap.get?_push_of_some _ e) (Nat.le_refl _) (setTO_new (setTR_fresh (Heap.get?_push_size _ rfl)).t0)
  have sz : ∀ b ∈ fp, b < s2.heap.objs.size := fun b hb => by
    obtain ⟨o, e, _⟩ := T.obj 0 s2.heap st2 b hb
    exact Heap.lt_size e
  have k3 : ∀ (b : Addr) (o : Obj), s2.heap.get? b = some o → (s2.heap.push { cls := .type "set", data := .set #[] 0 (SetTable.fresh 0 0 !X.w.params.followText "set-order") }).get? b = some o := fun b o e => Heap.get?_push_of_some _ e
  have z3 : (s2.heap.push { cls := .type "set", data := .set #[] 0 (SetTable.fresh 0 0 !X.w.params.followText "set-order") }).objs.size = s2.heap.objs.size + 1 := Heap.size_push _ _
  generalize hs3 : ({ heap := s2.heap.push { cls := .type "set", data := .set #[] 0 (SetTable.fresh 0 0 !X.w.params.followText "set-order") }, gens := s2.gens, drawn := s2.drawn, toks := s2.toks, os := s2.os } : Shared) = s3 at I3 ⊢
  have k3' : ∀ (b : Addr) (o : Obj), s2.heap.get? b = some o → s3.heap.get? b = some o := by rw [← hs3]; exact k3
  have z3' : s3.heap.objs.size = s2.heap.objs.size + 1 := by rw [← hs3]; exact z3
  have f3 : ∀ b ∈ fp, FpOk X pins (upd H2 s2.heap.objs.size (SetTO X.prog X.w s2.heap.objs.size [])) b ∧ b < s3.heap.objs.size := fun b hb =>
    ⟨⟨by rw [upd_ne (Nat.ne_of_lt (sz b hb))]; exact (f2 b hb).1, (f2 b hb).2⟩, by rw [z3']; exact Nat.lt_succ_of_lt (sz b hb)⟩
  have st3 : tn 0 s3.heap := T.keep 0 _ _ st2 fun b _ o e => k3' b o e
  have I4 := block_start I3 ok hN f3
  have pg := hg s3 (upd H2 s2.heap.objs.size (SetTO X.prog X.w s2.heap.objs.size [])) s3.heap.objs.size (cellsFrom (s3.heap.objs.size + 1) scope.names (cloFrom X.env.cells scope.names [])) fp
  have pt := ht s3 (upd H2 s2.heap.objs.size (SetTO X.prog X.w s2.heap.objs.size [])) s3.heap.objs.size (cellsFrom (s3.heap.objs.size + 1) scope.names (cloFrom X.env.cells scope.names [])) fp
  have pe := he s3 (upd H2 s2.heap.objs.size (SetTO X.prog X.w s2.heap.objs.size [])) s3.heap.objs.size (cellsFrom (s3.heap.objs.size + 1) scope.names (cloFrom X.env.cells scope.names [])) fp
  show codeAny _ _ (Code.compStart _ 0 _ _ (compEnvC scope (cellsFrom (s3.heap.objs.size + 1) scope.names (cloFrom X.env.cells scope.names [])) s3.heap.objs.size X.env)) (compPost (model X.prog X.w) X.A X.xe use Qf (.ref s2.heap.objs.size) s3.heap.objs.size) _
  have cL : (compEnvC scope (cellsFrom (s3.heap.objs.size + 1) scope.names (cloFrom X.env.cells scope.names [])) s3.heap.objs.size X.env).locals = s3.heap.objs.size := rfl
  have hs4 : ∀ (b : Addr) (o : Obj), s3.heap.get? b = some o → (pushCells (s3.heap.push { cls := .type "dict", data := .dict #[] }) scope.names).get? b = some o := fun b o e => pushCells_keeps scope.names _ b o (Heap.get?_push_of_some _ e)
  generalize hce : compEnvC scope (cellsFrom (s3.heap.objs.size + 1) scope.names (cloFrom X.env.cells scope.names [])) s3.heap.objs.size X.env = ce at I4 pg pt pe cL ⊢
  have st4 : tn 0 (pushCells (s3.heap.push { cls := .type "dict", data := .dict #[] }) scope.names) := T.keep 0 _ _ st3 fun b _ o e => hs4 b o e
  have nfp : ∀ b ∈ fp, upd H2 s2.heap.objs.size (SetTO X.prog X.w s2.heap.objs.size []) b = none := fun b hb => (f3 b hb).1.1
  generalize upd H2 s2.heap.objs.size (SetTO X.prog X.w s2.heap.objs.size []) = H3 at w0 I3 f3 I4 pg pt pe nfp
  generalize hs4' : ({ heap := pushCells (s3.heap.push { cls := .type "dict", data := .dict #[] }) scope.names, gens := s3.gens, drawn := s3.drawn, toks := s3.toks, os := s3.os } : Shared) = s4 at I4 ⊢
  have st4' : tn 0 s4.heap := by rw [← hs4']; exact st4
  have stat : ∀ {σ' : L2.St} {H' : Hp} {s' : Shared}, L2.Inv (X.blk s3 H3 scope ce fp) [] σ' H' s' → (∀ b ∈ fp, H' b = none) → ∀ b ∈ fp, FpOk (X.blk s3 H3 scope ce fp) [] H' b := fun I' hn b hb =>
    ⟨hn b hb, (I'.ok.exf b hb).1, I'.ok.exfs b hb, .inl hb, (I'.ok.exf b hb).2, fun p hp => by simp [Cx.blk] at hp⟩
  have loop : codeAny (model X.prog X.w) X.A (Code.compLoop (elt.SetComp [⟨tg, iter, ifs, 0⟩] scope pos) 0 (.ref it) (.ref s2.heap.objs.size) ce) (compPost (model X.prog X.w) X.A X.xe use Qf (.ref s2.heap.objs.size) s3.heap.objs.size) s4 := by
    refine PpSet.compLoopS_any (fun n s' => ∃ i H', L2.Inv (X.blk s3 H3 scope ce fp) [] (wipe σ (own.map (·.2))) H' s' ∧ tn i s'.heap ∧ (∀ b ∈ fp, H' b = none) ∧ Wt i n H') ?_ m0 ⟨0, H3, I4, st4', nfp, w0⟩
    rintro n s5 ⟨i, H5, I5, st5, n5, w5⟩
    rcases turn i n H5 w5 with ⟨stop, qq⟩ | ⟨go, Nx, hNx, step⟩
    · refine thnF (T.done (X.blk s3 H3 scope ce fp) rfl rfl rfl hc i [] s5 _ H5 _ I5 (stat I5 n5) st5 stop) fun r s6 x => ?_
      obtain ⟨rfl, I6⟩ := x
      have I7 : L2.Inv X pins σ H5 s6 := Inv.call' (ch := fp) I3 I6.os I6.base I6.hok I6.bare fun b hb => ⟨(f3 b hb).1.2.2.2.1, (f3 b hb).1.2.1, (f3 b hb).1.2.2.2.2.1, (f3 b hb).1.2.2.2.2.2⟩
      have nC : H5 s3.heap.objs.size = none := by
        have z : H5 ce.locals = none := I6.free
        rwa [cL] at z
      obtain ⟨m, hn, _⟩ := I6.loc
      have hn : s6.heap.Ns ce.locals m := hn
      rw [cL] at hn
      exact hRR _ _ s6 m H5 I7 qq hn (I3.fpOk (Nat.le_refl _) nC)
    · refine thnF (T.item (X.blk s3 H3 scope ce fp) rfl rfl rfl hc i [] s5 _ H5 _ I5 (stat I5 n5) st5 go) fun r s6 x => ?_
      obtain ⟨u, rfl, h6⟩ := x
      refine thnF h6 fun _ s7 x => ?_
      obtain ⟨x, H7, I7, r7, y7, st7, n7⟩ := x
      have I7' := I7.pinned (stat I7 n7) (T.obj _ _ st7)
      refine thnF (pg.run _ s7 _ H7 x u _ I7' r7 (step x H7 y7)) fun _ s8 x => ?_
      obtain ⟨σ8, H8, I8, hw8, q8⟩ := x
      refine thnF (pt.run _ s8 σ8 H8 _ I8 q8) fun b s9 x => ?_
      obtain ⟨H9, I9, q9⟩ := x
      have fin : ∀ {s' : Shared} {H' : Hp}, L2.Inv (X.blk s3 H3 scope ce fp) ([] ++ pinsAt fp s7.heap) σ8 H' s' → Nx H' → ∃ m, m < n ∧ ∃ i H', L2.Inv (X.blk s3 H3 scope ce fp) [] (wipe σ (own.map (·.2))) H' s' ∧ tn i s'.heap ∧ (∀ b ∈ fp, H' b = none) ∧ Wt i m H' := by
        intro s' H' I' nx
        obtain ⟨m', hm, w'⟩ := hNx H' nx
        have pin' : ∀ b ∈ fp, ∀ o, s7.heap.get? b = some o → s'.heap.get? b = some o ∧ H' b = none := fun b hb o e => by
          have z := I'.pin (b, o) (List.mem_append_right _ (List.mem_append_right _ (mem_pinsAt hb e)))
          exact ⟨z.1, z.2.1⟩
        have hl : (wipe σ (own.map (·.2))).length = σ8.length := by
          rw [← hw8, wipe_length]
        refine ⟨m', hm, i + 1, H', I'.unpinned.weak hl (fun j v e => (wipe_some (hw8 ▸ e)).1), T.keep _ _ _ st7 (fun b hb o e => (pin' b hb o e).1), fun b hb => ?_, w'⟩
        obtain ⟨o, e, _⟩ := T.obj _ _ st7 b hb
        exact (pin' b hb o e).2
      cases b with
      | false =>
        rw [if_neg Bool.false_ne_true] at q9 ⊢
        exact fin I9 q9
      | true =>
        rw [if_pos rfl] at q9 ⊢
        refine thnF (pe.run _ s9 σ8 H9 _ I9 q9) fun z s10 x => ?_
        obtain ⟨y, H10, I10, ry, tt', k, L, rfl, hk, hD, hL, room, nx⟩ := x
        cases (show z = Value.ref tt' from ry)
        exact addT_ok (X := X.blk s3 H3 scope ce fp) hu I10 hD hL hk room fun s' L' h1 h2 I' => fin I' (nx L' h1 h2)
  exact PpSet.codeAny_compStart_set loop (T.self _ 0 _ _ _ st4' loop)
theorem pe_scT {X : Cx} {elt tg iter : Expr} {ifs : List Expr} {scope : Scope} {own : List (Str × Nat)} {pos : Pos} {wi : TI} {g : TG} {tt : TT} {te : TE} (hu : X.A.units + 1 < cLine) (hc : X.calm = true) (hN : X.N.Nodup) (hi : PI X tg iter wi) (ok : BlkOk X.N X.env.scope scope own)
    (hg : ∀ (s : Shared) (H : Hp) (C : Addr) (cl : List (Str × Addr)) (fp : List Addr), PG (X.blk s H scope (compEnvC scope cl C X.env) fp) tg g)
    (ht : ∀ (s : Shared) (H : Hp) (C : Addr) (cl : List (Str × Addr)) (fp : List Addr), PTs (X.blk s H scope (compEnvC scope cl C X.env) fp) ifs tt)
    (he : ∀ (s : Shared) (H : Hp) (C : Addr) (cl : List (Str × Addr)) (fp : List Addr), PE (X.blk s H scope (compEnvC scope cl C X.env) fp) elt te)
    (hs : ∀ x : Value, foldedSetIterable iter X.env x = pure x := by intros; rfl) : PE X (elt.SetComp [⟨tg, iter, ifs, 0⟩] scope pos) (tScT X.K X.prog X.w wi g tt te (own.map (·.2))) :=
  ⟨fun pins s σ H Q I h => by
    rw [PpSet.eval_SetComp]
    refine sc_rows hu hc hN I hi ok hg ht he hs h fun D C s' m H' I' q hn f => ?_
    obtain ⟨f0, f1, f2, f3, f4, f5⟩ := f
    exact ⟨m, hn, fun h'' sb => ⟨.ref D, H', Inv.turned I' (fun b o hb e => (sb.2 b hb).trans e) f0 f1 f3 f4 f5, rfl, q⟩⟩⟩
/-- a set of rows, the things walked one by one -/
theorem sc_walk {K : W.Frag} {P : Program} {w : World} {J : It} {n : Nat} {G : Hp → Prop} {Y : Nat → Hp → V → Hp → Prop} (wk : Walk J n G Y) {tgt : TG} {cond : TT} {te : TE} {own : List Nat} {slots : L2.St} {Hs : Hp} {D : Addr} {Qf : Hp → Prop}
    (Pw : Nat → Hp → Prop) (start : Pw 0 (upd Hs D (SetTO P w D []))) (good : ∀ i h, i ≤ n → Pw i h → G h)
    (turn : ∀ i v h h', i < n → Pw i h → Y i h v h' → tgt v (wipe slots own) h' fun s2 h2 => wipe s2 own = wipe slots own ∧ cond s2 h2 fun b h3 =>
      (if b = true then te s2 h3 fun y h4 => ∃ (t : Addr) (k : List Int) (L : List (Addr × List Int)), y = .ref t ∧ SqT K h4 t (k.map V.int) ∧ h4 D = some (SetTO P w D L) ∧ (∀ p ∈ L, SqT K h4 p.1 (p.2.map V.int)) ∧ L.length + 1 < 64 ∧
        ∀ L' : List (Addr × List Int), (k ∈ L.map (·.2) → L' = L) → (k ∉ L.map (·.2) → L'.Perm ((t, k) :: L)) → Pw (i + 1) (upd h4 D (SetTO P w D L')) else Pw (i + 1) h3))
    (fin : ∀ h, Pw n h → Qf h) :
    ∃ Wt : Nat → Nat → Hp → Prop, (∃ m, Wt 0 m (upd Hs D (SetTO P w D []))) ∧ ∀ i m h, Wt i m h → (J.stop i h ∧ Qf h) ∨ (J.go i h ∧ ∃ Nx : Hp → Prop, (∀ h', Nx h' → ∃ m', m' < m ∧ Wt (i + 1) m' h') ∧
      ∀ v h', J.yld i h v h' → tgt v (wipe slots own) h' fun s2 h2 => wipe s2 own = wipe slots own ∧ cond s2 h2 fun b h3 =>
        if b = true then te s2 h3 fun y h4 => ∃ (t : Addr) (k : List Int) (L : List (Addr × List Int)), y = .ref t ∧ SqT K h4 t (k.map V.int) ∧ h4 D = some (SetTO P w D L) ∧ (∀ p ∈ L, SqT K h4 p.1 (p.2.map V.int)) ∧ L.length + 1 < 64 ∧
          ∀ L' : List (Addr × List Int), (k ∈ L.map (·.2) → L' = L) → (k ∉ L.map (·.2) → L'.Perm ((t, k) :: L)) → Nx (upd h4 D (SetTO P w D L')) else Nx h3) := by
  refine ⟨fun i m h => i ≤ n ∧ m = n - i ∧ Pw i h, ⟨n, Nat.zero_le _, by simp, start⟩, ?_⟩
  rintro i m h ⟨hi, rfl, pw⟩
  have g := good i h hi pw
  rcases Nat.lt_or_ge i n with hlt | hge
  · exact .inr ⟨wk.goes i h hlt g, Pw (i + 1), fun h' p' => ⟨n - (i + 1), by omega, hlt, rfl, p'⟩, fun v h' y => turn i v h h' hlt pw (wk.yields i h v h' hlt g y)⟩
  · obtain rfl : i = n := by omega
    exact .inl ⟨wk.stops h g, fin h pw⟩
end TB

set_option maxHeartbeats 1000000
/-! Tuples: slices and sums of any kind read once; rows of whole numbers. -/
namespace TW
open PySem L2 PyProof.Rows TX
section
variable {K : PySem.W.Frag}
theorem cutV_whole {xs : List V} {lo hi : Option Int} (h : HT.sIx xs.length 0 lo = 0 ∧ HT.sIx xs.length xs.length hi = xs.length) : cutV xs lo hi = xs := by
  unfold cutV
  rw [h.1, h.2]
  simp
/-- t[lo:hi] -/
theorem sl_both {xs : List V} {lo hi : Option Int} {a : Addr} {H : Hp} {Q : VK} (h : H a = some (.tup xs)) (q : ∀ p H', Same H H' → H' p = some (.tup (cutV xs lo hi)) → Q (.ref p) H') : rSlA K (.ref a) lo hi H Q := by
  refine ⟨a, xs, rfl, .of h, fun w => q a H same_rfl ?_, fun _ p np => q p _ (Same.new np) upd_same⟩
  rw [h, cutV_whole w]
/-- t + u -/
theorem cat_both {xs ys : List V} {a b : Addr} {H : Hp} {Q : VK} (h : H a = some (.tup xs)) (k : H b = some (.tup ys)) (hl : xs.length + ys.length ≤ 1000) (q : ∀ p H', Same H H' → H' p = some (.tup (xs ++ ys)) → Q (.ref p) H') : rCatA K (.ref a) (.ref b) H Q := by
  refine ⟨a, b, xs, ys, rfl, rfl, .of h, .of k, line100 hl, fun e => ?_, fun _ e => ?_, fun _ _ p np => q p _ (Same.new np) upd_same⟩
  · subst e
    exact q b H same_rfl k
  · subst e
    refine q a H same_rfl ?_
    rw [h, List.append_nil]
theorem cut_take {xs : List V} {n : Nat} : cutV xs none (some (n : Int)) = xs.take n := by
  unfold cutV
  rw [HT.sIx_none, HT.sIx_nat, List.drop_zero, Nat.sub_zero]
  rcases Nat.le_total n xs.length with h | h
  · rw [Nat.min_eq_left h]
  · rw [Nat.min_eq_right h, List.take_of_length_le h, List.take_of_length_le (Nat.le_refl _)]
theorem cut_drop {xs : List V} {n : Nat} : cutV xs (some (n : Int)) none = xs.drop n := by
  unfold cutV
  rw [HT.sIx_none, HT.sIx_nat]
  rcases Nat.le_total n xs.length with h | h
  · rw [Nat.min_eq_left h, List.take_of_length_le (by rw [List.length_drop]; omega)]
  · rw [Nat.min_eq_right h, List.drop_of_length_le h, List.drop_of_length_le (Nat.le_refl _), List.take_nil]
theorem cut_mid {xs : List V} {n m : Nat} : cutV xs (some (n : Int)) (some (m : Int)) = (xs.drop n).take (m - n) := by
  unfold cutV
  rw [HT.sIx_nat, HT.sIx_nat]
  rcases Nat.le_total n xs.length with h | h
  · rw [Nat.min_eq_left h]
    rcases Nat.le_total m xs.length with h2 | h2
    · rw [Nat.min_eq_left h2]
    · rw [Nat.min_eq_right h2, List.take_of_length_le (Nat.le_of_eq List.length_drop), List.take_of_length_le (by rw [List.length_drop]; omega)]
  · rw [Nat.min_eq_right h, List.drop_of_length_le h, List.drop_of_length_le (Nat.le_refl _)]
    simp
end
/-- what a draw leaves as it was -/
theorem well_strs {H : Hp} {W l : Addr} {ns : List Str} (w : ∃ n, WellAt n H W) (h : H l = some (.lst (ns.map V.str))) : l ≠ W := by
  rintro rfl
  obtain ⟨n, a, b, c, e, _⟩ := w
  rw [h] at e
  cases ns with
  | nil => cases e
  | cons x r =>
    have e2 := Option.some.inj e
    injection e2 with e3
    rw [List.map_cons] at e3
    injection e3 with e4 _
    cases e4
theorem well_no {H : Hp} {W l : Addr} {o : HO} (w : ∃ n, WellAt n H W) (h : H l = some o) (k : ∀ xs, o ≠ .lst xs) : l ≠ W := by
  rintro rfl
  obtain ⟨n, a, b, c, e, _⟩ := w
  rw [h] at e
  exact k _ (Option.some.inj e)
theorem _root_.TX.TreeAt.sm {C W : Addr} {H H' : Hp} {p : Addr} {f : TM.Fo} (t : TreeAt C H p f) (s : Sm W H H') (w : ∃ n, WellAt n H W) : TreeAt C H' p f := by
  obtain ⟨dx, l, d, h1, h2, h3⟩ := t
  exact ⟨dx, l, d, s _ _ (well_no w h1 fun _ z => by cases z) h1, s _ _ (well_strs w h2) h2, s _ _ (well_no w h3 fun _ z => by cases z) h3⟩
theorem tup_sm {W : Addr} {H H' : Hp} {p : Addr} {xs : List V} (h : H p = some (.tup xs)) (s : Sm W H H') (w : ∃ n, WellAt n H W) : H' p = some (.tup xs) := s _ _ (well_no w h fun _ z => by cases z) h
/-- a whole number -/
def wholeV : V → Bool
  | .int _ => true
  | _ => false
/-- a value that no memory is asked for -/
def plainV : V → Bool
  | .int _ => true
  | .bl _ => true
  | .non => true
  | .str _ => true
  | _ => false
def numV : V → Bool
  | .int _ => true
  | .bl _ => true
  | _ => false
def truthV : V → Bool
  | .bl _ => true
  | _ => false
theorem whole_num (v : V) : wholeV v = (numV v && !truthV v) := by cases v <;> rfl
theorem plain_ty {K : PySem.W.Frag} {H : Hp} {v : V} (h : plainV v = true) : ∃ t, TyOf K H v (.type t) ∧ kitB t "int" = some (numV v) ∧ kitB t "bool" = some (truthV v) := by
  cases v with
  | int i => exact ⟨_, .int i, (by decide +kernel : kitB "int" "int" = some true), (by decide +kernel : kitB "int" "bool" = some false)⟩
  | bl b => exact ⟨_, .bl b, (by decide +kernel : kitB "bool" "int" = some true), (by decide +kernel : kitB "bool" "bool" = some true)⟩
  | non => exact ⟨_, .non, (by decide +kernel : kitB "NoneType" "int" = some false), (by decide +kernel : kitB "NoneType" "bool" = some false)⟩
  | str s => exact ⟨_, .str s, (by decide +kernel : kitB "str" "int" = some false), (by decide +kernel : kitB "str" "bool" = some false)⟩
  | _ => cases h
/-- a thing that may be a row of so many values; whether it is one -/
def RowLike (H : Hp) (v : V) (many : Nat) (b : Bool) : Prop :=
  (∃ a xs, v = .ref a ∧ H a = some (.tup xs) ∧ xs.length ≤ 100 ∧ xs.all plainV = true ∧ b = (decide (xs.length = many) && xs.all wholeV)) ∨
  (b = false ∧ (v = .non ∨ (∃ s, v = .str s) ∨ (∃ i, v = .int i) ∨ ∃ a xs, v = .ref a ∧ H a = some (.lst xs)))
theorem RowLike.same {H H' : Hp} {v : V} {many : Nat} {b : Bool} (h : RowLike H v many b) (s : Same H H') : RowLike H' v many b := by
  rcases h with ⟨a, xs, e1, e2, e3⟩ | ⟨e1, e2 | e2 | e2 | ⟨a, xs, e2, e3⟩⟩
  · exact .inl ⟨a, xs, e1, s _ _ e2, e3⟩
  · exact .inr ⟨e1, .inl e2⟩
  · exact .inr ⟨e1, .inr (.inl e2)⟩
  · exact .inr ⟨e1, .inr (.inr (.inl e2))⟩
  · exact .inr ⟨e1, .inr (.inr (.inr ⟨a, xs, e2, s _ _ e3⟩))⟩
/-- a row of whole numbers -/
theorem row_like {H : Hp} {a : Addr} {xs : List V} {n : Nat} (h : H a = some (.tup xs)) (hl : xs.length = n) (hn : n ≤ 100) (hw : xs.all wholeV = true) : RowLike H (.ref a) n true := by
  refine .inl ⟨a, xs, rfl, h, by omega, ?_, ?_⟩
  · rw [List.all_eq_true] at hw ⊢
    intro x hx
    have := hw x hx
    cases x <;> first | rfl | cases this
  · rw [decide_eq_true hl, hw]
    rfl
theorem row_of {H : Hp} {v : V} {n : Nat} (h : RowLike H v n true) : ∃ a xs, v = .ref a ∧ H a = some (.tup xs) ∧ xs.length = n ∧ xs.all wholeV = true := by
  rcases h with ⟨a, xs, e1, e2, e3, e4, e5⟩ | ⟨e1, _⟩
  · have := e5.symm
    rw [Bool.and_eq_true, decide_eq_true_iff] at this
    exact ⟨a, xs, e1, e2, this.1, this.2⟩
  · cases e1
end TW
namespace TM
open PySem L2
/-- beneath a name there is its part of the forest -/
theorem mk_loc : ∀ {t : List Pr} {seen : List Str} {u : Option Str} {c : Str} {a : List Str} {k : Fo}, Valid seen t → (∀ x, u = some x → x ∈ seen) → loc (mk t u) c = some (a, k) → mk t (some c) = k
  | [], _, u, c, a, k, _, _, h => by
    have h' : loc Fo.nil c = some (a, k) := h
    unfold loc at h'
    cases h'
  | (d, o) :: r, seen, u, c, a, k, ⟨h1, h2, h3⟩, hu, h => by
    have hin : ∀ {v : Option Str} {a' : List Str} {k' : Fo}, loc (mk r v) c = some (a', k') → c ∈ r.map Prod.fst := fun {v a' k'} g => by
      have := loc_mem g
      rw [← flat_names _ v] at this
      obtain ⟨p, hp, rfl⟩ := List.mem_map.mp this
      exact List.mem_map.mpr ⟨p, mk_sub hp, rfl⟩
    have out : c ∈ r.map Prod.fst → o ≠ some c := fun hc e => valid_notin h3 (List.mem_append_left _ (h2 c e)) hc
    have skip : o ≠ some c → mk ((d, o) :: r) (some c) = mk r (some c) := fun e => if_neg e
    by_cases ho : o = u
    · have e0 : mk ((d, o) :: r) u = .cons d (mk r (some d)) (mk r u) := if_pos ho
      rw [e0] at h
      rcases loc_cases h with ⟨rfl, rfl, rfl⟩ | ⟨_, b, rfl, g⟩ | ⟨_, _, g⟩
      · exact skip fun e => h1 (h2 d e)
      · rw [skip (out (hin g))]
        exact mk_loc h3 (fun x e => by cases e; simp) g
      · rw [skip (out (hin g))]
        exact mk_loc h3 (fun x e => List.mem_append_left _ (hu x e)) g
    · have e0 : mk ((d, o) :: r) u = mk r u := if_neg ho
      rw [e0] at h
      rw [skip (out (hin h))]
      exact mk_loc h3 (fun x e => List.mem_append_left _ (hu x e)) h
theorem ord_loc {ps : List Pr} {c : Str} {a : List Str} {k : Fo} (va : Valid [] ps) (h : loc (mk ps none) c = some (a, k)) : ord ps (some c) = names k := by
  unfold ord
  rw [mk_loc (u := none) va (fun _ e => by cases e) h]
end TM

set_option maxHeartbeats 1000000
/-! Things as data: equal to themselves. -/
namespace TD
open PySem L2 PyProof.Rows TX TW
/-- a plain value as data -/
def dV : V → PyData
  | .int i => .int i
  | .bl b => .bool b
  | .str s => .str s
  | _ => .none
theorem Dp_plain {K : PySem.W.Frag} {H : Hp} {v : V} (h : plainV v = true) : Dp K H v (dV v) := by
  cases v with
  | int i => exact .int i
  | bl b => exact .bl b
  | str s => exact .str s
  | non => exact .non
  | _ => cases h
theorem DpAll_plain {K : PySem.W.Frag} {H : Hp} : ∀ {xs : List V}, xs.all plainV = true → DpAll K H xs (xs.map dV)
  | [], _ => .nil
  | x :: r, h => by
    rw [List.all_cons, Bool.and_eq_true] at h
    exact .cons (Dp_plain h.1) (DpAll_plain h.2)
theorem Dp_tup {K : PySem.W.Frag} {H : Hp} {a : Addr} {xs : List V} (h : H a = some (.tup xs)) (p : xs.all plainV = true) : Dp K H (.ref a) (.tuple (xs.map dV)) := .tup (.of h) (DpAll_plain p)
theorem whole_plain {xs : List V} (h : xs.all wholeV = true) : xs.all plainV = true := by
  rw [List.all_eq_true] at h ⊢
  intro x hx
  have := h x hx
  cases x <;> first | rfl | cases this
/-- whole numbers alone -/
theorem can_whole {xs : List V} (h : xs.all wholeV = true) : PyData.canLayAll0 (xs.map dV) = true := by
  induction xs with
  | nil => rfl
  | cons x r ih =>
    rw [List.all_cons, Bool.and_eq_true] at h
    rw [List.map_cons]
    unfold PyData.canLayAll0
    rw [ih h.2]
    cases x <;> first | rfl | cases h.1
theorem dep_plain (xs : List V) : PyData.depthAll (xs.map dV) = 0 := by
  induction xs with
  | nil => rfl
  | cons x r ih =>
    rw [List.map_cons]
    unfold PyData.depthAll
    rw [ih]
    cases x <;> rfl
theorem can_tup {xs : List V} (h : xs.all wholeV = true) : PyData.canLay0 (.tuple (xs.map dV)) = true := by unfold PyData.canLay0; exact can_whole h
theorem dep_tup (xs : List V) : PyData.depth (.tuple (xs.map dV)) = 1 := by unfold PyData.depth; rw [dep_plain]
theorem shaped_of {d : PyData} (h : PyData.canLay0 d = true) (k : PyData.depth d ≤ 64) : SeqAt.shaped d = true := by
  unfold SeqAt.shaped
  rw [h, decide_eq_true k]
  rfl
theorem can2 {a b : PyData} (h : PyData.canLay0 a = true) (k : PyData.canLay0 b = true) : PyData.canLay0 (.tuple [a, b]) = true := by
  unfold PyData.canLay0 PyData.canLayAll0 PyData.canLayAll0 PyData.canLayAll0
  rw [h, k]
  rfl
theorem dep2 (a b : PyData) : PyData.depth (.tuple [a, b]) = 1 + max (PyData.depth a) (PyData.depth b) := by
  show PyData.depthAll [a, b] + 1 = _
  show max (PyData.depth a) (max (PyData.depth b) 0) + 1 = _
  omega
theorem canL {xs : List PyData} (h : ∀ x ∈ xs, PyData.canLay0 x = true) : PyData.canLay0 (.list xs) = true := by
  unfold PyData.canLay0
  induction xs with
  | nil => rfl
  | cons x r ih =>
    unfold PyData.canLayAll0
    rw [h x List.mem_cons_self, ih fun y hy => h y (List.mem_cons_of_mem _ hy)]
    rfl
theorem depL {xs : List PyData} {n : Nat} (h : ∀ x ∈ xs, PyData.depth x ≤ n) : PyData.depth (.list xs) ≤ n + 1 := by
  have : PyData.depthAll xs ≤ n := by
    induction xs with
    | nil => exact Nat.zero_le _
    | cons x r ih =>
      unfold PyData.depthAll
      have h1 := h x List.mem_cons_self
      have h2 := ih fun y hy => h y (List.mem_cons_of_mem _ hy)
      omega
  unfold PyData.depth
  omega
theorem eqv_same {d e : PyData} (h : PyData.canLay0 d = true) (k : d = e) : PyData.eqv d e = true := by
  subst k
  exact SeqAt.eqv_refl d h
end TD

set_option maxHeartbeats 2000000
/-! Rows, each once, rising; where tables stand. -/
namespace TG
open PySem L2 PyProof.Rows TX TB TD TW
theorem ltI_irr (a : List Int) : ltI a a = false := by
  cases h : ltI a a with
  | false => rfl
  | true => rw [ltI_asym h] at h; cases h
theorem ltI_trans {a b c : List Int} (h : ltI a b = true) (k : ltI b c = true) : ltI a c = true := by
  cases e : ltI a c with
  | true => rfl
  | false =>
    have := ltI_le (ltI_asym k) e
    rw [h] at this
    cases this
abbrev Rise (l : List (List Int)) : Prop := l.Pairwise fun a b => ltI a b = true
theorem Rise.nodup {l : List (List Int)} (h : Rise l) : l.Nodup := h.imp fun {a b} z e => by rw [e, ltI_irr] at z; cases z
theorem rise_of {l : List (List Int)} (n : l.Nodup) (h : l.Pairwise fun a b => ltI b a = false) : Rise l := by
  refine List.Pairwise.imp₂ (R := fun a b => a ≠ b) (S := fun a b => ltI b a = false) (fun a b hne hb => ?_) n h
  cases e : ltI a b with
  | true => rfl
  | false => exact absurd (ltI_anti e hb) hne
theorem rise_unique : ∀ {l m : List (List Int)}, Rise l → Rise m → (∀ x, x ∈ l ↔ x ∈ m) → l = m := by
  intro l m hl hm h
  refine TM.perm_eq (R := fun a b => ltI a b = true) (fun a b h1 h2 => ?_) ((List.perm_ext_iff_of_nodup hl.nodup hm.nodup).mpr h) hl hm
  rw [ltI_asym h1] at h2
  cases h2
def ins (x : List Int) : List (List Int) → List (List Int)
  | [] => [x]
  | y :: l => if x = y then y :: l else if ltI x y = true then x :: y :: l else y :: ins x l
theorem mem_ins {x z : List Int} : ∀ {l : List (List Int)}, z ∈ ins x l ↔ z = x ∨ z ∈ l
  | [] => by simp [ins]
  | y :: l => by
    unfold ins
    by_cases e : x = y
    · rw [if_pos e]
      subst e
      simp
    · rw [if_neg e]
      by_cases h : ltI x y = true
      · rw [if_pos h]
        simp
      · rw [if_neg h, List.mem_cons, mem_ins (l := l), List.mem_cons]
        constructor
        · rintro (h | h | h)
          · exact .inr (.inl h)
          · exact .inl h
          · exact .inr (.inr h)
        · rintro (h | h | h)
          · exact .inr (.inl h)
          · exact .inl h
          · exact .inr (.inr h)
theorem rise_ins {x : List Int} : ∀ {l : List (List Int)}, Rise l → Rise (ins x l)
  | [], _ => List.pairwise_singleton _ _
  | y :: l, h => by
    unfold ins
    have h' := List.pairwise_cons.mp h
    by_cases e : x = y
    · rw [if_pos e]
      exact h
    · rw [if_neg e]
      by_cases k : ltI x y = true
      · rw [if_pos k]
        refine List.pairwise_cons.mpr ⟨fun z hz => ?_, h⟩
        rcases List.mem_cons.mp hz with e | hz
        · rw [e]
          exact k
        · exact ltI_trans k (h'.1 z hz)
      · rw [if_neg k]
        refine List.pairwise_cons.mpr ⟨fun z hz => ?_, rise_ins h'.2⟩
        rcases mem_ins.mp hz with e2 | hz
        · rw [e2]
          cases k2 : ltI y x with
          | true => rfl
          | false => exact absurd (ltI_anti (by simpa using k) k2) e
        · exact h'.1 z hz
/-- rows, each once, rising -/
def norm (rs : List (List Int)) : List (List Int) := rs.foldr ins []
theorem mem_norm {rs : List (List Int)} {x : List Int} : x ∈ norm rs ↔ x ∈ rs := by
  unfold norm
  induction rs with
  | nil => simp
  | cons r rs ih => rw [List.foldr_cons, mem_ins, ih, List.mem_cons]
theorem rise_norm (rs : List (List Int)) : Rise (norm rs) := by
  unfold norm
  induction rs with
  | nil => exact List.Pairwise.nil
  | cons r rs ih => exact rise_ins ih
theorem norm_of {l rs : List (List Int)} (h : Rise l) (k : ∀ x, x ∈ l ↔ x ∈ rs) : l = norm rs := rise_unique h (rise_norm rs) fun x => (k x).trans mem_norm.symm
theorem norm_len (rs : List (List Int)) : (norm rs).length ≤ rs.length := by
  unfold norm
  have : ∀ (x : List Int) (l : List (List Int)), (ins x l).length ≤ l.length + 1 := by
    intro x l
    induction l with
    | nil => exact Nat.le_refl _
    | cons y l ih =>
      unfold ins
      split
      · exact Nat.le_succ _
      · split
        · exact Nat.le_refl _
        · rw [List.length_cons, List.length_cons]
          omega
  induction rs with
  | nil => exact Nat.le_refl _
  | cons r rs ih =>
    rw [List.foldr_cons, List.length_cons]
    have := this r (rs.foldr ins [])
    omega
theorem norm_filter (rs : List (List Int)) (p : List Int → Bool) : (norm rs).filter p = norm (rs.filter p) := norm_of ((rise_norm rs).filter p) fun x => by rw [List.mem_filter, List.mem_filter, mem_norm]
theorem norm_idem {l : List (List Int)} (h : Rise l) : norm l = l := (norm_of h fun _ => Iff.rfl).symm
theorem norm_norm (rs : List (List Int)) : norm (norm rs) = norm rs := norm_idem (rise_norm rs)
/-! ### where rows stand -/
abbrev RowsAt (H : Hp) : List Addr → List (List Int) → Prop := Paired fun a r => H a = some (.tup (r.map V.int))
theorem RowsAt.same {H H' : Hp} {as : List Addr} {rs : List (List Int)} (h : RowsAt H as rs) (s : Same H H') : RowsAt H' as rs := Paired.mapP h fun a q e => s a _ e
theorem RowsAt.put {H : Hp} {as : List Addr} {rs : List (List Int)} {p : Addr} {xs : List V} {o : HO} (h : RowsAt H as rs) (hp : H p = some (.lst xs)) : RowsAt (upd H p o) as rs :=
  Paired.mapP h fun a q e => by rw [upd_ne (ne_of e hp (by intro z; cases z))]; exact e
theorem RowsAt.sm {W : Addr} {H H' : Hp} {as : List Addr} {rs : List (List Int)} (h : RowsAt H as rs) (s : Sm W H H') (w : ∃ n, WellAt n H W) : RowsAt H' as rs := Paired.mapP h fun a q e => tup_sm e s w
theorem RowsAt.len {H : Hp} {as : List Addr} {rs : List (List Int)} (h : RowsAt H as rs) : as.length = rs.length := Paired.length h
theorem pr_snoc {α β : Type} {R : α → β → Prop} {as : List α} {bs : List β} {a : α} {b : β} (h : Paired R as bs) (r : R a b) : Paired R (as ++ [a]) (bs ++ [b]) := by
  induction h with
  | nil => exact .cons r .nil
  | cons h _ ih => exact .cons h ih
theorem pr_at {α β : Type} {R : α → β → Prop} {as : List α} {bs : List β} (h : Paired R as bs) : ∀ {i : Nat} {a : α}, as[i]? = some a → ∃ b, bs[i]? = some b ∧ R a b := by
  induction h with
  | nil => intro i a h; simp at h
  | cons hd _ ih =>
    intro i a h
    cases i with
    | zero =>
      rw [List.getElem?_cons_zero] at h
      cases h
      exact ⟨_, rfl, hd⟩
    | succ i => exact ih (by simpa using h)
theorem pr_by {α β : Type} {R : α → β → Prop} {as : List α} {bs : List β} (h : Paired R as bs) : ∀ {i : Nat} {b : β}, bs[i]? = some b → ∃ a, as[i]? = some a ∧ R a b := by
  induction h with
  | nil => intro i a h; simp at h
  | cons hd _ ih =>
    intro i a h
    cases i with
    | zero =>
      rw [List.getElem?_cons_zero] at h
      cases h
      exact ⟨_, rfl, hd⟩
    | succ i => exact ih (by simpa using h)
theorem pr_app {α β : Type} {R : α → β → Prop} {as as' : List α} {bs bs' : List β} (h : Paired R as bs) (k : Paired R as' bs') : Paired R (as ++ as') (bs ++ bs') := by
  induction h with
  | nil => exact k
  | cons h _ ih => exact .cons h ih
theorem pr_zip {α β : Type} {R : α → β → Prop} {as : List α} {bs : List β} (h : Paired R as bs) : ∀ p ∈ as.zip bs, R p.1 p.2 := by
  induction h with
  | nil => intro p hp; cases hp
  | cons hd _ ih =>
    intro p hp
    rcases List.mem_cons.mp hp with e | hp
    · rw [e]
      exact hd
    · exact ih p hp
theorem zip_fst {α β : Type} : ∀ {as : List α} {bs : List β}, as.length = bs.length → (as.zip bs).map (·.1) = as ∧ (as.zip bs).map (·.2) = bs
  | [], [], _ => ⟨rfl, rfl⟩
  | [], _ :: _, h => by cases h
  | _ :: _, [], h => by cases h
  | a :: as, b :: bs, h => by
    have := zip_fst (as := as) (bs := bs) (by simpa using h)
    rw [List.zip_cons_cons, List.map_cons, List.map_cons, this.1, this.2]
    exact ⟨rfl, rfl⟩
theorem of_zip {H : Hp} {L : List (Addr × List Int)} (h : ∀ p ∈ L, H p.1 = some (.tup (p.2.map V.int))) : RowsAt H (L.map (·.1)) (L.map (·.2)) := by
  induction L with
  | nil => exact .nil
  | cons p L ih => exact .cons (h p List.mem_cons_self) (ih fun q hq => h q (List.mem_cons_of_mem _ hq))
/-! ### rows as data -/
def dR (rs : List (List Int)) : PyData := .list (rs.map fun r => .tuple ((r.map V.int).map dV))
theorem whole_ints (r : List Int) : (r.map V.int).all wholeV = true := by
  rw [List.all_eq_true]
  intro v hv
  obtain ⟨i, _, rfl⟩ := List.mem_map.mp hv
  rfl
theorem DpRow {K : PySem.W.Frag} {H : Hp} {a : Addr} {r : List Int} (h : H a = some (.tup (r.map V.int))) : Dp K H (.ref a) (.tuple ((r.map V.int).map dV)) := Dp_tup h (whole_plain (whole_ints r))
theorem DpRows {K : PySem.W.Frag} {H : Hp} {a : Addr} {as : List Addr} {rs : List (List Int)} (h : H a = some (.lst (as.map V.ref))) (k : RowsAt H as rs) : Dp K H (.ref a) (dR rs) := by
  refine .lst (.of h) ?_
  clear h
  induction k with
  | nil => exact .nil
  | cons h _ ih => exact .cons (DpRow h) ih
theorem canRows (rs : List (List Int)) : PyData.canLay0 (dR rs) = true := canL fun d hd => by
  obtain ⟨r, _, rfl⟩ := List.mem_map.mp hd
  exact can_tup (whole_ints r)
theorem shRows (rs : List (List Int)) : SeqAt.shaped (dR rs) = true := by
  refine shaped_of (canRows rs) ?_
  have : PyData.depth (dR rs) ≤ 1 + 1 := depL fun d hd => by
    obtain ⟨r, _, rfl⟩ := List.mem_map.mp hd
    rw [dep_tup]
    exact Nat.le_refl _
  omega
theorem eqv_ints : ∀ (r q : List Int), PyData.eqvAll ((r.map V.int).map dV) ((q.map V.int).map dV) = decide (r = q)
  | [], [] => rfl
  | [], _ :: _ => rfl
  | _ :: _, [] => rfl
  | x :: r, y :: q => by
    rw [List.map_cons, List.map_cons, List.map_cons, List.map_cons]
    unfold PyData.eqvAll
    rw [eqv_ints r q]
    have : PyData.eqv (dV (V.int x)) (dV (V.int y)) = decide (x = y) := by
      show PyData.eqv (.int x) (.int y) = _
      unfold PyData.eqv
      by_cases h : x = y <;> simp [h]
    rw [this]
    by_cases h : x = y <;> by_cases h2 : r = q <;> simp [h, h2]
theorem eqv_row (r q : List Int) : PyData.eqv (.tuple ((r.map V.int).map dV)) (.tuple ((q.map V.int).map dV)) = decide (r = q) := by
  unfold PyData.eqv
  exact eqv_ints r q
theorem eqv_dR (rs qs : List (List Int)) : PyData.eqv (dR rs) (dR qs) = decide (rs = qs) := by
  unfold dR PyData.eqv
  induction rs generalizing qs with
  | nil => cases qs <;> rfl
  | cons r rs ih =>
    cases qs with
    | nil => rfl
    | cons q qs =>
      rw [List.map_cons, List.map_cons]
      unfold PyData.eqvAll
      rw [ih qs, eqv_row]
      by_cases h : r = q <;> by_cases h2 : rs = qs <;> simp [h, h2]
/-! ### where tables stand -/
def bflds (l r : Addr) : List (Str × V) := putF "_rows" (.ref r) (putF "_columns" (.ref l) [])
theorem kbc : ¬ (("_columns" : Str) = "_rows") := by decide +kernel
theorem bflds_col (l r : Addr) : (bflds l r).lookup ("_columns" : Str) = some (.ref l) := by
  unfold bflds
  rw [lookup_putF, if_neg kbc, lookup_putF, if_pos rfl]
theorem bflds_rows (l r : Addr) : (bflds l r).lookup ("_rows" : Str) = some (.ref r) := by
  unfold bflds
  rw [lookup_putF, if_pos rfl]
theorem bflds_no (l r : Addr) {m : Str} (h1 : ¬ m = "_rows") (h2 : ¬ m = "_columns") : (bflds l r).lookup m = none := by
  unfold bflds
  rw [lookup_putF, if_neg h1, lookup_putF, if_neg h2]
  rfl
/-- unlike names, not too many -/
structure Cs (cs : List Str) : Prop where
  nd : cs.Nodup
  le : cs.length ≤ 8
  ok : ∀ x ∈ cs, TM.NameOk x
/-- a table of these columns and rows -/
def TabAt (C : Addr) (H : Hp) (p : Addr) (cs : List Str) (rs : List (List Int)) : Prop := ∃ dx l r as, H p = some (.ins C dx (bflds l r)) ∧ H l = some (.lst (cs.map V.str)) ∧ H r = some (.lst (as.map V.ref)) ∧ RowsAt H as rs
theorem TabAt.same {C : Addr} {H H' : Hp} {p : Addr} {cs : List Str} {rs : List (List Int)} (t : TabAt C H p cs rs) (s : Same H H') : TabAt C H' p cs rs := by
  obtain ⟨dx, l, r, as, h1, h2, h3, h4⟩ := t
  exact ⟨dx, l, r, as, s _ _ h1, s _ _ h2, s _ _ h3, h4.same s⟩
/-- the class of tables -/
structure Bc (K : PySem.W.Frag) (mg : Str → Option Value) (C : Addr) : Prop where
  cl : Cls K C
  nC : NoAttr K C "_columns"
  nR : NoAttr K C "_rows"
  g : mg "Table" = some (.ref C)
  ins : Ic K C
end TG

namespace T89
open PySem L2
def top (i : Nat) : Stmt := PySem.Challenge.pw_foldbough_k89_tables_as_texts.main.body.getD i (.Pass ⟨0, 0, 0, 0⟩)
abbrev s_notext : Stmt := inClass (top 5) 0
abbrev s_number : Stmt := top 9
abbrev s_numbers : Stmt := top 10
abbrev s_written : Stmt := top 11
abbrev s_is_whole : Stmt := top 15
abbrev s_is_name : Stmt := top 16
abbrev s_are : Stmt := top 17
abbrev s_is_row : Stmt := top 18
abbrev s_binit : Stmt := inClass (top 20) 0
abbrev s_bcolumns : Stmt := inClass (top 20) 1
abbrev s_brows : Stmt := inClass (top 20) 2
abbrev s_blen : Stmt := inClass (top 20) 8
abbrev s_beq : Stmt := inClass (top 20) 9
abbrev s_cc : Stmt := top 21
abbrev s_sorted : Stmt := top 22
abbrev s_show : Stmt := top 26
abbrev s_read : Stmt := top 27
abbrev s_checkt : Stmt := top 28
abbrev s_well : Stmt := top 30
abbrev s_draw : Stmt := top 31
abbrev s_names : Stmt := top 32
abbrev s_value : Stmt := top 33
abbrev s_text : Stmt := top 34
abbrev s_spoilt : Stmt := top 35
abbrev s_lnumber : Stmt := top 36
abbrev s_stop : Stmt := top 37
abbrev s_answer : Stmt := top 38
abbrev s_law : Stmt := top 39
end T89

set_option maxHeartbeats 1000000
local macro_rules | `(tactic| walk_at "z") => `(tactic| ((try dsimp only); first | assumption | omega | decide | (simp only [List.length_cons, List.length_nil]; first | decide | omega)))
namespace T89
open PySem L2 PyProof.Rows TX
section
variable {P : Program} {w : World} {K : PySem.W.Frag} {mg : Str → Option Value} {base : Heap}
theorem sc_well : FnScope ["_law_cell"] ["_law_cell"] (defScope s_well) := ⟨rfl, rfl, rfl, by decide +kernel, rfl, by decide +kernel, by decide +kernel⟩
def sp_well : Sp := fun vs H Q _ => ∃ (cell : Int), vs = [.int cell] ∧ ∀ H' p, Same H H' → H p = none → WellAt 100000 H' p → Q (.ref p) H'
theorem ok_well {f : Addr} {fd : FuncData} (F : Fn K mg "_law_well" s_well ["_law_cell"] f fd) : FnOk P w K mg base CX0 1 f fd ["_law_cell"] sp_well := by
  refine F.F.ok sc_well (fun vs H Q E h => ?_) (fun cdv A outer s H vs Q E hr h => ?_)
  · obtain ⟨cell, rfl, _⟩ := h
    rfl
  · obtain ⟨cell, rfl, q⟩ := h
    refine ⟨_, pss_one (ps_ret (pe_lst (pa_cons (pv 0) (pa_cons (pe_op op_mod (pv 0) pe_int) (pa_cons pe_int pa_nil))))), ?_⟩
    refine ⟨_, rfl, _, rfl, _, _, rfl, rfl, by walk_at "z", by walk_at "z", fun p hp => ?_⟩
    refine q _ p (Same.new hp) hp ⟨_, _, _, upd_same, ?_, ?_, by decide, by decide⟩
    · exact Int.emod_nonneg _ (by decide)
    · have := Int.emod_lt_of_pos cell (show (0 : Int) < 2147483629 by decide)
      omega
theorem sc_draw : FnScope ["_law_well_here", "_law_many", "_law_found", "_law_number_here"] ["_law_well_here", "_law_many"] (defScope s_draw) := ⟨rfl, rfl, rfl, by decide +kernel, rfl, by decide +kernel, by decide +kernel⟩
/-- a draw: one below top; the well may be drawn from once less -/
def sp_draw : Sp := fun vs H Q _ => ∃ (W : Addr) (t n : Nat), vs = [.ref W, .int t] ∧ 0 < t ∧ t < 10 ^ 41 ∧ WellAt (n + 1) H W ∧ ∀ (H' : Hp) (r : Nat), r < t → Sm W H H' → WellAt n H' W → Q (.int r) H'
theorem ok_draw {f : Addr} {fd : FuncData} (F : Fn K mg "_law_draw" s_draw ["_law_well_here", "_law_many"] f fd) : FnOk P w K mg base CX0 1 f fd ["_law_well_here", "_law_many"] sp_draw := by
  refine F.F.ok sc_draw (fun vs H Q E h => ?_) (fun cdv A outer s H vs Q E hr h => ?_)
  · obtain ⟨W, t, n, rfl, _⟩ := h
    rfl
  · obtain ⟨W, t, n, rfl, h0, h1, ⟨a, b, c, hW, b0, b1, c0, c1⟩, q⟩ := h
    have hu := hu_of hr
    have t0 : (0 : Int) < (t : Int) := by omega
    have aI0 : ∀ x y z : V, atI [x, y, z] (0 : Int) = some x := fun _ _ _ => rfl
    have aI1 : ∀ x y z : V, atI [x, y, z] (1 : Int) = some y := fun _ _ _ => rfl
    have aI2 : ∀ x y z : V, atI [x, y, z] (2 : Int) = some z := fun _ _ _ => rfl
    have nd := sc_draw.nd
    refine ⟨_, pss_cons (ps_if (pt_cmpR op_ge (pe_ix ix_list (pv 0) pe_int (fun _ _ => rfl)) (pe_op op_pow pe_int pe_int) (nomark _))
        (pss_cons (ps_set (i := 2) nd rfl (Or.inl rfl) (pe_op op_mod (pe_ix ix_list (pv 0) pe_int (fun _ _ => rfl)) (pv 1)))
        (pss_cons (ps_asg (pe_op op_fdivW (pe_ix ix_list (pv 0) pe_int (fun _ _ => rfl)) (pv 1)) (pg_sub (pv 0) pe_int set_list))
        (pss_one (ps_ret (pv 2))))) pss_nil)
      (pss_cons (ps_asg (pe_op op_add (pe_ix ix_list (pv 0) pe_int (fun _ _ => rfl)) pe_int) (pg_sub (pv 0) pe_int set_list))
      (pss_cons (ps_set (i := 3) nd rfl (Or.inl rfl) (pe_op op_mod (pe_op op_mul (pe_op op_add (pe_op op_add (pe_ix ix_list (pv 0) pe_int (fun _ _ => rfl)) (pe_op op_mul pe_int (pe_ix ix_list (pv 0) pe_int (fun _ _ => rfl)))) pe_int) pe_int) pe_int))
      (pss_cons (ps_set (i := 3) nd rfl (Or.inl rfl) (pe_op op_mod (pe_op op_mul (pv 3) (pe_op op_add (pe_op op_add (pe_op op_fdiv (pv 3) pe_int) pe_int) (pe_ix ix_list (pv 0) pe_int (fun _ _ => rfl)))) pe_int))
      (pss_one (ps_ret (pe_op op_mod (pe_op op_fdiv (pe_op op_mod (pe_op op_mul (pv 3) (pe_op op_add (pe_op op_fdiv (pv 3) pe_int) pe_int)) pe_int) pe_int) (pv 1))))))), ?_⟩
    refine ⟨_, rfl, W, _, _, _, rfl, rfl, .of hW, aI0 _ _ _, _, _, rfl, rfl, ⟨by decide, by decide, by decide⟩, _, _, rfl, rfl, _, rfl, ite2 (fun ha => ?_) (fun ha => ?_)⟩
    · refine ⟨_, rfl, W, _, _, _, rfl, rfl, .of hW, aI0 _ _ _, _, rfl, _, _, rfl, rfl, by walk_at "z", ?_⟩
      refine ⟨_, rfl, W, _, _, _, rfl, rfl, .of hW, aI0 _ _ _, _, rfl, _, _, rfl, rfl, wide_div (b := 140) (by omega) (Nat.lt_trans (show (t : Int).natAbs < 10 ^ 41 by omega) (by decide +kernel)) (by decide) (by decide), ?_⟩
      refine ⟨_, rfl, W, _, _, 0, rfl, rfl, hW, rfl, _, rfl, ?_⟩
      have hm := Int.emod_nonneg a (show (t : Int) ≠ 0 by omega)
      have hl := Int.emod_lt_of_pos a t0
      have e : a % (t : Int) = ((a % (t : Int)).toNat : Int) := by omega
      show Q (.int (a % (t : Int))) _
      rw [e]
      exact q _ _ (by omega) (Sm.put .rfl') ⟨_, _, _, upd_same, b0, b1, c0, by omega⟩
    · refine ⟨_, rfl, W, _, _, _, rfl, rfl, .of hW, aI2 _ _ _, _, _, rfl, rfl, ?_⟩
      refine ⟨_, rfl, W, _, _, 2, rfl, rfl, hW, rfl, ?_⟩
      have hW1 : upd H W (.lst [.int a, .int b, .int (c + 1)]) W = some (.lst [.int a, .int b, .int (c + 1)]) := upd_same
      refine ⟨_, rfl, W, _, _, _, rfl, rfl, .of hW1, aI1 _ _ _, _, rfl, W, _, _, _, rfl, rfl, .of hW1, aI2 _ _ _, _, _, rfl, rfl, .inl (by decide), _, _, rfl, rfl, _, _, rfl, rfl, _, _, rfl, rfl, .inr (by decide), _, _, rfl, rfl, by walk_at "z", ?_⟩
      dsimp only
      generalize hx : (b + 104729 * (c + 1) + 1) * 48271 % 2147483647 = x
      have x0 : 0 ≤ x := by rw [← hx]; exact Int.emod_nonneg _ (by decide)
      have x1 : x < 2147483647 := by rw [← hx]; exact Int.emod_lt_of_pos _ (by decide)
      refine ⟨_, rfl, _, rfl, _, _, rfl, rfl, ⟨by decide, by decide⟩, _, _, rfl, rfl, _, rfl, W, _, _, _, rfl, rfl, .of hW1, aI2 _ _ _, _, _, rfl, rfl, _, _, rfl, rfl, .inl (by constructor <;> omega), _, _, rfl, rfl, by walk_at "z", ?_⟩
      dsimp only
      generalize hy : x * (x / 1009 + 69621 + (c + 1)) % 2147483587 = y
      have y0 : 0 ≤ y := by rw [← hy]; exact Int.emod_nonneg _ (by decide)
      have y1 : y < 2147483587 := by rw [← hy]; exact Int.emod_lt_of_pos _ (by decide)
      refine ⟨_, rfl, _, rfl, _, _, rfl, rfl, ⟨by decide, by decide⟩, _, _, rfl, rfl, _, _, rfl, rfl, .inl (by constructor <;> omega), _, _, rfl, rfl, by walk_at "z", _, _, rfl, rfl, ⟨by decide, by decide⟩, _, rfl, _, _, rfl, rfl, by walk_at "z", ?_⟩
      dsimp only
      generalize hz : y * (y / 2003 + 40692) % 2147483563 / 3 = z
      have hm := Int.emod_nonneg z (show (t : Int) ≠ 0 by omega)
      have hl := Int.emod_lt_of_pos z t0
      have e : z % (t : Int) = ((z % (t : Int)).toNat : Int) := by omega
      rw [e]
      exact q _ _ (by omega) (Sm.put .rfl') ⟨_, _, _, hW1, b0, b1, by omega, by omega⟩
end
end T89

set_option maxHeartbeats 2000000
/-! Rules of our own: != of an instance whose class has an own __eq__ alone; == of one, whatever it says. -/
namespace TY
open PySem L2 PyProof.Rows TX
section
variable {prog : Program} {w : World} {A : Around} {E : Value → Shared → Prop} {s : Shared} {K : PySem.W.Frag} {x C f : Addr} {ox : Obj} {od : Option Obj} {b tb : Value}
theorem ifBound_B {M : Model} {id : String} {name : Str} {args : List Value} {Q : Option Value → Shared → Prop} (X : K.In s.heap) (I : PySem.W.InstAt s.heap x ox C od) (hs : PySem.W.findIn K (.ref C) name = some (some (.builtin id)))
    (hb : ∀ self, bindSpecial (.builtin id) self = pure (.builtin id, [self])) (h : wpAny M A (call (.builtin id) (.ref x :: args)) (fun v => Q (some v)) E s) : wpAny M A (callSpecialIfBound? (.ref x) name args) Q E s := by
  simp only [callSpecialIfBound?, bindSpecialIfBound?]
  refine wpAny_holding (wpAny_bind (wpAny_bind (wpAny_bind (I.type.here ((PySem.W.looks_findIn X hs).here ?_)))))
  refine wpAny_bind (wpAny_askSetting (wpAny_ite ?_))
  have fin : wpAny M A (call (.builtin id) ([.ref x] ++ args) >>= fun v => pure (some v)) Q E s := wpAny_bind (wpAny_mono h (fun v s' h' => wpAny_pure h') fun _ _ h' => h')
  rw [hb]
  split
  · exact wpAny_bind (wpAny_pure (wpAny_pure (by exact fin)))
  · exact wpAny_tryCatch (wpAny_bind (wpAny_pure (wpAny_pure (by exact fin))))
theorem objNe_own (hu : A.units < cLine) (X : K.In s.heap) (I : PySem.W.InstAt s.heap x ox C od) (hs : PySem.W.findIn K (.ref C) "__eq__" = some (some (.ref f))) (hf : PySem.W.isFn K (.ref f) = true) {Q : Fin → Shared → Prop}
    (h : wpAny (model prog w) A (call (.ref f) [.ref x, b]) (fun v s' => ∃ r, v = .bool r ∧ Q (.done (.ret (.bool (!r)))) s') E s) : wpAny (model prog w) A (Builtin.«object.__ne__» ⟨[.ref x, b], []⟩) Q E s := by
  have step : ∀ {Q' : Option Value → Shared → Prop}, (∀ r s', Q (.done (.ret (.bool (!r)))) s' → Q' (some (.bool r)) s') → wpAny (model prog w) A (callSpecialIfBound? (.ref x) "__eq__" [b]) Q' E s := fun hq =>
    PySem.W.ifBound_K X I hs hf (wpAny_mono h (fun v s' ⟨r, e, q⟩ => by subst e; exact hq r s' q) fun _ _ e => e)
  unfold Builtin.«object.__ne__»
  repeat (first | with_reducible refine wpAny_cRoomFor hu ?_ | with_reducible refine step (fun r s' q => ?_) | wp_step)
  exact q
theorem looks_obj {M : Model} (X : K.In s.heap) (I : PySem.W.InstAt s.heap x ox C od) (hm : PySem.W.mroIn K C (.type "object") = some true) : PySem.W.Looks M s.heap (isInstance (.ref x) (.type "object")) true := I.type.andThen (PySem.W.looks_mroIn X hm)
/-- x != b, the class having an own __eq__ alone -/
theorem ne_own {Q : Value → Shared → Prop} (hu : A.units + 1 < cLine) (X : K.In s.heap) (I : PySem.W.InstAt s.heap x ox C od) (hm : PySem.W.mroIn K C (.type "object") = some true) (hb : PySem.W.Looks (model prog w) s.heap (typeOf b) tb) (hn : PySem.W.notFirst K C tb = true)
    (hne : PySem.W.findIn K (.ref C) "__ne__" = some (some (.builtin "object.__ne__"))) (hs : PySem.W.findIn K (.ref C) "__eq__" = some (some (.ref f))) (hf : PySem.W.isFn K (.ref f) = true)
    (h : wpAny (model prog w) A.in1 (call (.ref f) [.ref x, b]) (fun v s' => ∃ r, v = .bool r ∧ Q (.bool (!r)) s') E s) : wpAny (model prog w) A (richCompare .NotEq (.ref x) b) Q E s := by
  have one : wpAny (model prog w) A (tryCompare (.ref x) (cmpInfo .NotEq).2.1 b) (fun r s' => ∃ v, r = some v ∧ Q v s') E s := by
    unfold tryCompare
    refine wpAny_bind (ifBound_B X I hne F.slot_tuple_iterator_ne.bind (wpAny_call (codeAny_call_builtin F.slot_tuple_iterator_ne.plain F.cmpEntry_ne ?_)))
    refine @PySem.W.check_slot (model prog w) _ _ s "object.__ne__" "object" "__ne__" (.ref x) [b] [] _ F.cmpKind_ne F.cmpSplit_ne (looks_obj X I hm) (F.cmpArgs_ne _ _) ?_
    refine objNe_own (by show A.in1.units < cLine; have : A.in1.units = A.units + 1 := rfl; omega) X I hs hf (wpAny_mono h (fun v s' ⟨r, e, q⟩ => ⟨r, e, ?_⟩) fun _ _ e => e)
    exact wpAny_pure ⟨_, rfl, q⟩
  unfold richCompare
  simp only [oneThing_ref]
  refine wpAny_holding (wpAny_bind (wpAny_cRoomFor (Nat.lt_of_succ_lt hu) ?_))
  refine wpAny_bind (I.type.here (wpAny_bind (hb.here ?_)))
  split
  · rename_i q
    have e : PySem.W.subIn K tb (.ref C) = some false := by
      rcases Bool.or_eq_true_iff.mp hn with e | e
      · rw [beq_iff_eq.mp e] at q; simp at q
      · exact beq_iff_eq.mp e
    refine wpAny_bind ((PySem.W.looks_subIn X e).here ?_)
    simp only [Bool.false_eq_true, if_false]
    refine wpAny_bind (wpAny_mono one (fun r s' z => ?_) fun _ _ e => e)
    obtain ⟨v, rfl, hq⟩ := z
    exact wpAny_pure hq
  · refine wpAny_bind (wpAny_pure ?_)
    simp only [Bool.false_eq_true, if_false]
    refine wpAny_bind (wpAny_mono one (fun r s' z => ?_) fun _ _ e => e)
    obtain ⟨v, rfl, hq⟩ := z
    exact wpAny_pure hq
end
/-! ### as expressions -/
section
variable {X : Cx} {CX : CXT} {n : Nat} {C f : Addr} {fd : FuncData} {ps : List Str} {sp : Sp} {E : XK}
/-- x == y and x != y by an own __eq__ -/
def rOwnEq (K : PySem.W.Frag) (C : Addr) (sp : Sp) (E : XK) (neg : Bool) : R2 := fun x y H Q => ∃ (a dx : Addr) (fs : List (Str × V)) (t : Value), x = .ref a ∧ H a = some (.ins C dx fs) ∧ TyX K H y t ∧ PySem.W.notFirst K C t = true ∧
  sp [x, y] H (fun v H' => ∃ r, v = .bl r ∧ Q (.bl (if neg = true then !r else r)) H') E
theorem run_own {A : Around} {pins : List (Addr × Obj)} {s : Shared} {σ : L2.St} {H : Hp} {x y : V} {v u : Value} {Q : VK} (F : FnOk X.prog X.w X.K X.mg X.base CX n f fd ps sp) (hb : Binds X.K fd ps []) (hx : Passes CX X E) (hr : Room n A) (hf : A.frames = X.A.frames)
    (I : Inv X pins σ H s) (rx : RelV x v) (ry : RelV y u) (h : sp [x, y] H Q E) : wpAny (model X.prog X.w) A (call (.ref f) [v, u]) (EP X pins σ Q) X.xe s := by
  have e0 : Env0 X.prog X.w X.K X.mg X.base A X.stack s H := by
    have e := I.env0
    exact ⟨by rw [hf]; exact e.frames, e.mod, e.bs, e.bsz, e.funs, e.frf, e.hok, e.bare⟩
  have hl := F.len _ _ _ _ h
  have r2 : Vals [x, y] [v, u] := .cons rx (.cons ry .nil)
  refine wpAny_call (codeAny_mono (F.run A X.stack s H ⟨[v, u], []⟩ [v, u] [x, y] _ E hr e0 (by
    have := hb s [v, u] I.kIn (by simpa using hl)
    simpa using this) r2 h) fun r s' hq => ?_)
  cases r with
  | error e => exact hx pins σ H s e s' I hq
  | ok fl =>
    cases fl with
    | ret w => exact I.after hq
    | next => exact False.elim hq
    | brk => exact False.elim hq
    | cont => exact False.elim hq
theorem op_eqOwn (F : FnOk X.prog X.w X.K X.mg X.base CX n f fd ps sp) (hs : PySem.W.findIn X.K (.ref C) "__eq__" = some (some (.ref f))) (hf : PySem.W.isFn X.K (.ref f) = true) (hb : Binds X.K fd ps []) (hx : Passes CX X E) (hr : Room n X.A) :
    OpR X (compareOp .Eq) (rOwnEq X.K C sp E false) := by
  intro pins s σ H x y v u Q I rx ry h
  obtain ⟨a, dx, fs, t, rfl, ha, ty, hn, q⟩ := h
  cases (show v = Value.ref a from rx)
  obtain ⟨mA, J, _⟩ := ins_get I.hok ha
  obtain ⟨od, J, _⟩ := J.look
  obtain ⟨P, Z, p, _⟩ := kit_of I ry ty
  obtain ⟨m, hF⟩ := I.fr
  refine PySem.W.cmp_ofEq (PySem.W.cmp_K (op := .Eq) (tb := t) hr.units0 hF I.ok.mod.kin J (Z.ty _ _ I.kIn p) hn hs hf ?_)
  refine wpAny_mono (run_own F hb hx hr rfl I rx ry q) (fun w s' z => ?_) fun _ _ e => e
  obtain ⟨z', H', I', rz, r, ez, qz⟩ := z
  subst ez
  cases (show w = Value.bool r from rz)
  exact ⟨.bl r, H', I', rfl, qz⟩
theorem op_neOwn (F : FnOk X.prog X.w X.K X.mg X.base CX n f fd ps sp) (hm : PySem.W.mroIn X.K C (.type "object") = some true) (hne : PySem.W.findIn X.K (.ref C) "__ne__" = some (some (.builtin "object.__ne__")))
    (hs : PySem.W.findIn X.K (.ref C) "__eq__" = some (some (.ref f))) (hf : PySem.W.isFn X.K (.ref f) = true) (hb : Binds X.K fd ps []) (hx : Passes CX X E) (hr : Room (n + 1) X.A) : OpR X (compareOp .NotEq) (rOwnEq X.K C sp E true) := by
  intro pins s σ H x y v u Q I rx ry h
  obtain ⟨a, dx, fs, t, rfl, ha, ty, hn, q⟩ := h
  cases (show v = Value.ref a from rx)
  obtain ⟨mA, J, _⟩ := ins_get I.hok ha
  obtain ⟨od, J, _⟩ := J.look
  obtain ⟨P, Z, p, _⟩ := kit_of I ry ty
  have hr1 : Room n X.A.in1 := hr.in1
  have hu : X.A.units + 1 < cLine := by
    have := hr1.units0
    exact this
  refine PySem.W.cmp_ofNotEq (ne_own hu I.kIn J hm (Z.ty _ _ I.kIn p) hn hne hs hf ?_)
  refine wpAny_mono (run_own F hb hx hr1 rfl I rx ry q) (fun w s' z => ?_) fun _ _ e => e
  obtain ⟨z', H', I', rz, r, ez, qz⟩ := z
  subst ez
  cases (show w = Value.bool r from rz)
  exact ⟨r, rfl, .bl (!r), H', I', rfl, qz⟩
end
end TY

set_option maxHeartbeats 4000000
/-! A rule of our own: len(set(xs)) of texts, some alike or not. -/
namespace TUD
open PySem PySem.Spec PyProof.Rows SS
section
variable {prog : Program} {w : World} {A : Around} {R : Result → Shared → Prop} {I : Addr} {fp wr : List Addr} {G : Array GenState → Array GenState → Prop} {n : Nat} {P : Nat → Value → Prop} {St : Nat → Shared → Prop}
/-- the texts met ahead of the i-th -/
def met (ks : Nat → Str) (i : Nat) (k : Str) : Bool := ((List.range i).map ks).any (· == k)
/-- how many unlike ones ahead of the i-th -/
def cnt (ks : Nat → Str) : Nat → Nat
  | 0 => 0
  | i + 1 => if met ks i (ks i) = true then cnt ks i else cnt ks i + 1
theorem cnt_le (ks : Nat → Str) : ∀ i, cnt ks i ≤ i
  | 0 => Nat.le_refl _
  | i + 1 => by
    have := cnt_le ks i
    unfold cnt
    split <;> omega
theorem met_new {ks : Nat → Str} {i : Nat} (hd : ∀ j, j < i → ks j ≠ ks i) : met ks i (ks i) = false := by
  unfold met
  rw [List.any_eq_false]
  intro y hy
  obtain ⟨j, hj, rfl⟩ := List.mem_map.mp hy
  simpa using hd j (List.mem_range.mp hj)
theorem met_next {ks : Nat → Str} {i : Nat} (k : Str) : (met ks i k || decide (k = ks i)) = met ks (i + 1) k := by
  unfold met
  rw [List.range_succ, List.map_append, List.any_append]
  have e : decide (k = ks i) = ([i].map ks).any (· == k) := by
    by_cases h : k = ks i
    · rw [decide_eq_true h, h]
      simp
    · rw [decide_eq_false h]
      have : (ks i == k) = false := by simpa using fun z => h z.symm
      simp [this]
  rw [e]
theorem loopD (Wk : WalksS prog w A.in1 I fp wr G n P St) (S : Addr) (nS : S ∉ fp) (ks : Nat → Str) (hb : n + 1 < scanBound) (hv : ∀ i v, P i v → ∃ t, v = .str (ks i) t) :
    ∀ (m i : Nat) (s : Shared), n - i = m → i ≤ n → St i s → s.heap.SetOf (PySem.strKind prog w) S (met ks i) (cnt ks i) →
      (∀ s', Moved (S :: wr) G s s' → s'.heap.SetOf (PySem.strKind prog w) S (met ks n) (cnt ks n) → R (.ok (.ret .none)) s') → codeAny (model prog w) A (.builtin "set.update.loop" ⟨[.ref S, .ref I], []⟩) R s := by
  have nW : S ∉ wr := fun z => nS (Wk.sub _ z)
  have up : ∀ b ∈ wr, b ∈ S :: wr := fun b z => List.mem_cons_of_mem _ z
  have keep : ∀ {s s' : Shared} {i : Nat}, Moved wr G s s' → s.heap.SetOf (PySem.strKind prog w) S (met ks i) (cnt ks i) → s'.heap.SetOf (PySem.strKind prog w) S (met ks i) (cnt ks i) := fun mv h => by
    obtain ⟨o, es, ep, t, ho, r⟩ := h
    exact ⟨o, es, ep, t, mv.heap S _ nW ho, r⟩
  intro m
  induction m with
  | zero =>
    intro i s hm hi hst hS hR
    obtain rfl : i = n := by omega
    refine codeAny_builtin PyProof.Rows.F.entry_set_update_loop ?_
    rw [Around.under_plainId PyProof.Rows.F.plain_set_update_loop _]
    show wpAny _ A.in1 (pyNext (.ref I) >>= _) _ _ s
    refine wpAny_bind (Wk.done s _ _ hst fun s' mv => ?_)
    show wpAny _ A.in1 (ret Value.none) _ _ s'
    exact wpAny_pure (hR s' (mv.mono up) (keep mv hS))
  | succ m ih =>
    intro i s hm hi hst hS hR
    have hlt : i < n := by omega
    refine codeAny_builtin PyProof.Rows.F.entry_set_update_loop ?_
    rw [Around.under_plainId PyProof.Rows.F.plain_set_update_loop _]
    show wpAny _ A.in1 (pyNext (.ref I) >>= _) _ _ s
    refine wpAny_bind (Wk.item i s _ _ hlt hst fun v s' hP hst' mv => ?_)
    obtain ⟨t, rfl⟩ := hv i v hP
    have h1 := keep mv hS
    show wpAny _ A.in1 (holding [Value.str (ks i) t] (setAdd S (.str (ks i) t)) >>= _) _ _ s'
    refine wpAny_bind (wpAny_holding ?_)
    unfold setAdd
    refine wpAny_holding ?_
    refine wpAny_bind ((PySem.strKind prog w).pyHash (k := ks i) (strKind_is _ _ _ _) ?_)
    refine wpAny_setAddHashed_of (knd := PySem.strKind prog w) (s := { s' with toks := s'.toks + 1 }) (strKind_is _ _ _ _) rfl h1 (by have := cnt_le ks i; omega) fun h' hsb h2 => ?_
    have h3 : h'.SetOf (PySem.strKind prog w) S (met ks (i + 1)) (cnt ks (i + 1)) := SetOf_congr h2 (fun k => met_next k) rfl
    refine wpAny_pure ⟨plainId_quiet PyProof.Rows.F.plain_set_update_loop _, ih (i + 1) _ (by omega) hlt (Wk.frame _ s' _ _ hst' (Nat.le_succ _) fun b hb o e => ?_) h3 fun s2 m2 h4 => ?_⟩
    · exact (hsb.2 b fun z => nS (z ▸ hb)).trans e
    · exact hR s2 (Moved.trans Wk.gtrans ((mv.mono up).then_heap (Nat.le_succ _) fun b o hb e => (hsb.2 b fun z => hb (by rw [z]; exact List.mem_cons_self)).trans e) m2) h4
end
section
variable {prog : Program} {w : World} {A : Around} {E : Value → Shared → Prop} {s : Shared}
/-- a set that was just begun -/
abbrev bare (led : Bool) : Obj := { cls := .type "set", dict := none, data := .set #[] 0 (.fresh 0 0 led) }
set_option maxHeartbeats 3200000 in
theorem set_texts {l : Addr} {items : Array Value} {xs : List Str} {Q : Value → Shared → Prop} (hh : A.handled = none) (hl : s.heap.IsList l items) (hi : PyProof.Rows.StrsAre items.toList xs) (h64 : xs.length < 64)
    (h : ∀ (h' : Heap) (tk : Nat), h'.SetOf (PySem.strKind prog w) s.heap.objs.size (met (fun i => xs.getD i Str.empty) items.size) (cnt (fun i => xs.getD i Str.empty) items.size) → (∀ b o, b < s.heap.objs.size → s.heap.get? b = some o → h'.get? b = some o) → Q (.ref s.heap.objs.size) { s with heap := h', toks := tk }) :
    wpAny (model prog w) A (call (.type "set") [.ref l]) Q E s := by
  obtain ⟨c, tl, hmro⟩ := PySem.F.called_set.mro
  have g1 := PySem.F.called_set.made
  have g2 := PySem.F.called_set.sub
  have g3 := PySem.F.called_set.notType
  have g4 := PySem.F.called_set.canCreate
  have g5 := PySem.F.typeCall_set_1 (.ref l)
  refine wpAny_call (codeAny_of_tree ?_)
  show wpAny _ _ (callAny (.type "set") _) _ _ _
  refine wpAny_pure ⟨Code.quiet_builtin _ (by decide +kernel), codeAny_builtin PySem.F.entry_type_call ?_⟩
  rw [Around.under_plain (weight_type_call_type "set" [.ref l] []) rfl]
  repeat (any_goals (first | assumption | wp_step))
  refine codeAny_mono (code_set_new_1 (.ref l) (E := E) (Q₁ := fun u s1 => ∃ led : Bool, u = .ref s.heap.objs.size ∧ s1 = { s with heap := s.heap.push (bare led) }) fun led => ⟨led, rfl, rfl⟩) fun r s1 hr => ?_
  cases r with
  | error e => exact hr
  | ok fl =>
   cases fl with
   | ret u =>
    obtain ⟨led, rfl, rfl⟩ := hr
    have at0 : (s.heap.push (bare led)).get? s.heap.objs.size = some (bare led) := Heap.get?_push_size _ rfl
    have ty0 : Shared.TypeIs { s with heap := s.heap.push (bare led) } (.ref s.heap.objs.size) "set" := ⟨_, at0, rfl⟩
    have g6 := PySem.F.called_set.init.lookup
    have g7 := PySem.F.called_set.init.bind (.ref s.heap.objs.size)
    repeat (any_goals (first | assumption | wp_step))
    refine codeAny_mono (codeAny_call_builtin (R := wants (fun r s2 => r = .none ∧ ∃ h' tk, s2 = { s with heap := h', toks := tk } ∧ h'.SetOf (PySem.strKind prog w) s.heap.objs.size (met (fun i => xs.getD i Str.empty) items.size) (cnt (fun i => xs.getD i Str.empty) items.size) ∧
        (∀ b o, b < s.heap.objs.size → s.heap.get? b = some o → h'.get? b = some o)) E) PySem.F.called_set.init.plain PySem.F.entry_set_init (check_set_init_1 ty0 ?_)) fun r2 s2 hr2 => ?_
    · obtain ⟨ol, hol, hcl, nl, hdl⟩ := hl
      obtain ⟨oc, od, odata, osl⟩ := ol
      simp only at hcl hdl
      subst hcl hdl
      have at1 : (s.heap.push (bare led)).get? l = some { cls := .type "list", dict := od, data := .seq items nl, slots := osl } := Heap.get?_push_of_some _ hol
      have g8 := PySem.F.sub_list_set
      have g9 := PySem.F.sub_list_frozenset
      have g10 : (Value.type "list" == Value.type "dict") = false := by decide
      have il : (s.heap.push (bare led)).IsList l items := ⟨_, at1, rfl, nl, rfl⟩
      unfold Builtin.«set.__init__» noKeywords Builtin.Frozenset.updateFrom
      generalize hPI : pyIter = PI
      wp_walk
      subst hPI
      refine wpAny_pyIter_list il ?_
      refine wpAny_bind (wpAny_runValue ?_)
      have lS : l < s.heap.objs.size := Heap.lt_size hol
      have sz : (s.heap.push (bare led)).objs.size = s.heap.objs.size + 1 := Heap.size_push _ _
      have hn3 : A.in1.in1.in1.handled = none := by simp [hh]
      have lI : l ≠ (s.heap.push (bare led)).objs.size := by
        rw [sz]
        exact Nat.ne_of_lt (Nat.lt_succ_of_lt lS)
      have nS : s.heap.objs.size ∉ [(s.heap.push (bare led)).objs.size, l] := by
        rw [sz]
        simp only [List.mem_cons, List.not_mem_nil, or_false, not_or]
        exact ⟨Nat.ne_of_lt (Nat.lt_succ_self _), Nat.ne_of_gt lS⟩
      have hsz : xs.length = items.size := by rw [← StrsAre.len_eq hi, Array.length_toList]
      have hv : ∀ (i : Nat) (v : Value), items[i]? = some v → ∃ t, v = .str (xs.getD i Str.empty) t := fun i v e => strs_at hi i v (by rw [Array.getElem?_toList]; exact e)
      refine loopD ((Walks.list hn3 _ l lI items).toS) s.heap.objs.size nS (fun i => xs.getD i Str.empty) (by unfold scanBound; omega) hv (items.size - 0) 0 _ (by omega) (Nat.zero_le _) ⟨⟨_, Heap.get?_push_size _ rfl, rfl, rfl⟩, (il.push _)⟩ ?begun ?ended
      case begun =>
        have at2 : ((s.heap.push (bare led)).push { cls := .type "list_iterator", data := .fields #[.ref l, .int 0 0] }).get? s.heap.objs.size = some (bare led) := Heap.get?_push_of_some _ at0
        exact PyProof.Rows.SetOf_congr ((PyProof.Rows.setObjOf_fresh (knd := PySem.strKind prog w) led).setOf at2 (by unfold scanBound; omega)) (fun _ => rfl) rfl
      case ended =>
        intro s3 mv hS3
        obtain ⟨h', g', d', tk', os'⟩ := s3
        obtain rfl : g' = s.gens := mv.gens
        obtain rfl : d' = s.drawn := mv.drawn
        obtain rfl : os' = s.os := mv.os
        show wpAny _ _ _ _ _ _
        refine wpAny_pure ?_
        show wpAny _ _ (ret Value.none) _ _ _
        refine wpAny_pure ⟨rfl, h', tk', rfl, hS3, fun b o hb e => ?_⟩
        refine mv.heap b o ?_ (Heap.get?_push_of_some _ (Heap.get?_push_of_some _ e))
        rw [sz]
        simp only [List.mem_cons, List.not_mem_nil, or_false, not_or]
        exact ⟨Nat.ne_of_lt hb, Nat.ne_of_lt (Nat.lt_succ_of_lt hb)⟩
    · cases r2 with
      | error e => exact hr2
      | ok f2 =>
        cases f2 with
        | ret r =>
          obtain ⟨rfl, h', tk, rfl, h1, h2⟩ := hr2
          repeat (any_goals (first | assumption | wp_step))
          exact h _ _ h1 h2
        | _ => exact hr2.elim
   | _ => exact hr.elim
end
end TUD

set_option maxHeartbeats 2000000
namespace TUD
open PySem L2 PyProof.Rows TX TY
/-- how many unlike texts -/
def unl (xs : List Str) : Nat := cnt (fun i => xs.getD i Str.empty) xs.length
theorem met_old {ks : Nat → Str} {i : Nat} : met ks i (ks i) = true ↔ ∃ j, j < i ∧ ks j = ks i := by
  unfold met
  rw [List.any_eq_true]
  constructor
  · rintro ⟨y, hy, e⟩
    obtain ⟨j, hj, rfl⟩ := List.mem_map.mp hy
    exact ⟨j, List.mem_range.mp hj, by simpa using e⟩
  · rintro ⟨j, hj, e⟩
    exact ⟨ks j, List.mem_map.mpr ⟨j, List.mem_range.mpr hj, rfl⟩, by simpa using e⟩
theorem cnt_eq {ks : Nat → Str} : ∀ {i : Nat}, cnt ks i = i ↔ ∀ b, b < i → ∀ a, a < b → ks a ≠ ks b
  | 0 => ⟨fun _ b hb => absurd hb (Nat.not_lt_zero _), fun _ => rfl⟩
  | i + 1 => by
    have ih := cnt_eq (ks := ks) (i := i)
    have le := cnt_le ks i
    unfold cnt
    constructor
    · intro h b hb a ha e
      split at h
      · omega
      · rename_i hm
        have h' : cnt ks i = i := by omega
        by_cases hbi : b = i
        · subst hbi
          exact hm (met_old.mpr ⟨a, ha, e⟩)
        · exact ih.mp h' b (by omega) a ha e
    · intro h
      have h1 := ih.mpr fun b hb a ha => h b (by omega) a ha
      rw [if_neg]
      · omega
      · intro z
        obtain ⟨j, hj, e⟩ := met_old.mp z
        exact h i (Nat.lt_succ_self _) j hj e
theorem unl_eq {xs : List Str} : unl xs = xs.length ↔ xs.Nodup := by
  unfold unl
  rw [cnt_eq]
  constructor
  · intro h
    rw [List.nodup_iff_pairwise_ne, List.pairwise_iff_getElem]
    intro i j hi hj hij e
    refine h j hj i hij ?_
    rw [List.getD_eq_getElem?_getD, List.getD_eq_getElem?_getD, List.getElem?_eq_getElem hi, List.getElem?_eq_getElem hj]
    exact e
  · intro h b hb a ha e
    have ha' : a < xs.length := by omega
    rw [List.getD_eq_getElem?_getD, List.getD_eq_getElem?_getD, List.getElem?_eq_getElem ha', List.getElem?_eq_getElem hb] at e
    have := (List.getElem_inj h).mp e
    omega
section
variable {X : Cx}
/-- len(set(xs)), xs texts -/
def tLenD (K : PySem.W.Frag) (ta : TE) : TE := fun σ H Q => ta σ H fun x H1 => ∃ (l : Addr) (xs : List Str), x = .ref l ∧ SqL K H1 l (xs.map V.str) ∧ xs.length < 64 ∧ Q (.int (unl xs)) H1
theorem vals_strs : ∀ {xs : List Str} {us : List Value}, Vals (xs.map V.str) us → StrsAre us xs
  | [], _, h => by
    cases h
    exact .nil
  | x :: r, _, h => by
    cases h with
    | cons h t =>
      obtain ⟨k, e⟩ := (show ∃ k, _ = Value.str x k from h)
      subst e
      exact .cons x k (vals_strs t)
theorem pe_lenD {a : Expr} {ta : TE} {p p2 q pos : Pos} (hc : X.calm = true) (hg : Gl X "len") (hm : X.mg "len" = none) (hg2 : Gl X "set") (hm2 : X.mg "set" = none) (ha : PE X a ta)
    (na : starEach [a] X.env = (false, eval a X.env) :: starEach [] X.env := by rfl) : PE X (.Call (.Name "len" p) [.Call (.Name "set" p2) [a] [] q] [] pos) (tLenD X.K ta) := by
  refine ⟨fun pins s σ H Q I h => ?_⟩
  refine Call_ (ld_blt I hg hm boot_len (PyProof.Rows.callWith_builtin1 (PyProof.Rows.args_cons ?_ rfl) rfl rfl))
  refine Call_ (ld_blt I hg2 hm2 boot_set (PyProof.Rows.callWith_type1 (PyProof.Rows.args_cons (thn (ha.run pins s σ H _ I h) fun v s1 ⟨x, H1, I1, r1, q1⟩ => PyProof.Rows.args_nil ?_) na) na rfl))
  obtain ⟨l, xs, rfl, hq, h64, q2⟩ := q1
  cases r1
  obtain ⟨its, r, pl, hz⟩ := I1.list hq
  have hl : its.toArray.size = xs.length := by rw [List.size_toArray, ← r.length, List.length_map]
  refine set_texts (I1.ok.hd hc) pl.isList (by simpa using vals_strs r) h64 fun h' tk hS hk => ?_
  refine PyProof.Rows.args_nil ?_
  rw [hl] at hS
  have hle := cnt_le (fun i => xs.getD i Str.empty) xs.length
  obtain ⟨o, es, ep, t, ho, hex, hd', _, _, _, hf, hn⟩ := hS
  have I2 : Inv X pins σ H1 { s1 with heap := h', toks := tk } := I1.kept fun b o e => hk b o (Heap.lt_size e) e
  exact call_len_set ho hex hd' hf (by rw [hn]; omega) ⟨.int (unl xs), H1, I2.tok _, ⟨_, by rw [hn]; rfl⟩, q2⟩
end
end TUD

set_option maxHeartbeats 1000000
/-! Refusals with a field of their own: made, raised, caught. -/
namespace TE
open PySem L2 PyProof.Rows TX TY
/-- an own class over ValueError, read off the written part -/
def oexB (K : PySem.W.Frag) (C : Addr) : Bool := match K.lookup C with
  | some ⟨.type "type", _, .cls cd, sl⟩ => (match cd.mro, sl.toList with
    | .ref D :: bm, [_, _, _, _, some (.builtin n), _] => D == C && (n == "ValueError.__new__" && (!cd.hasDel && (cd.hasDict && PySem.HandSPX.refsVE bm)))
    | _, _ => false)
  | _ => false
theorem oexB_ok {K : PySem.W.Frag} {C : Addr} (q : oexB K C = true) : ∃ nm q N bs bm sn sub ab col dd k0 k1 k2 k3 k5, K.lookup C = some (excClassObj nm q C N bs bm true sn sub ab col dd k0 k1 k2 k3 k5 "ValueError.__new__") ∧ PySem.HandSPX.refsVE bm = true := by
  unfold oexB at q
  split at q
  · rename_i dd cd sl ho
    split at q
    · rename_i D bm k0 k1 k2 k3 n k5 hm hs
      simp only [Bool.and_eq_true, beq_iff_eq, Bool.not_eq_true'] at q
      obtain ⟨rfl, rfl, hdel, hdict, ht⟩ := q
      obtain ⟨nm, bs, mro, ns, qn, hd, sn, sub, ab, col, del⟩ := cd
      dsimp only at hm hdel hdict
      subst hm hdel hdict
      have hsl : sl = #[k0, k1, k2, k3, some (.builtin "ValueError.__new__"), k5] := by
        obtain ⟨l⟩ := sl
        simp only at hs
        rw [hs]
      subst hsl
      exact ⟨nm, qn, ns, bs, bm, sn, sub, ab, col, dd, k0, k1, k2, k3, k5, ho, ht⟩
    · cases q
  · cases q
section
variable {K : PySem.W.Frag} {mg : Str → Option Value}
/-- a class that is raised, with its own field -/
structure Nt (K : PySem.W.Frag) (mg : Str → Option Value) (x fld qual : Str) (st : Stmt) (Ct fi : Addr) (di : FuncData) : Prop where
  T : OexC K Ct
  i : PySem.W.findIn K (.ref Ct) "__init__" = some (some (.ref fi))
  t : PySem.W.typeIn K (.ref fi) = some (.type "function")
  F : Fun K "__init__" qual st fi di
  b : Binds K di ["self", fld] []
  g : mg x = some (.ref Ct)
  no : PySem.W.findIn K (.ref Ct) fld = some none
def sp_efld (C : Addr) (fld : Str) : Sp := fun vs H Q _ => ∃ (a : Addr) (v : V), vs = [.ref a, v] ∧ H a = some (exo a C none) ∧ ∀ dx, H dx = none → dx ≠ a → Q .non (upd (upd H dx (exd dx [(fld, v)])) a (exo a C (some dx)))
/-- raise C(v) -/
theorem rd_efld {C : Addr} {fld : Str} {H : Hp} {v : V} {Q : XK} (q : ∀ H' d, Same H H' → H' d = some (.xd [(fld, v)]) → Q (.ref C) (some d) H') : ∀ a, H a = none → sp_efld C fld [.ref a, v] (upd H a (exo a C none))
    (fun u H2 => u = .non ∧ ∃ (d : Addr) (fs : List (Str × V)), H2 a = some (exo a C (some d)) ∧ H2 d = some (exd d fs) ∧ H d = none ∧ Q (.ref C) (some d) (upd (del H2 a) d (.xd fs))) (fun _ _ _ => False) := by
  intro a na
  refine ⟨a, v, rfl, upd_same, fun dx nx hne => ⟨rfl, dx, [(fld, v)], upd_same, by rw [upd_ne hne, upd_same], ?_, ?_⟩⟩
  · rw [upd_ne hne] at nx
    exact nx
  · rw [upd_ne hne] at nx
    refine q _ dx (fun b o e => ?_) upd_same
    have hb1 : b ≠ dx := ne_of_none e nx
    have hb2 : b ≠ a := ne_of_none e na
    rw [upd_ne hb1, del_ne hb2, upd_ne hb2, upd_ne hb1, upd_ne hb2]
    exact e
end
end TE

set_option maxHeartbeats 1000000
/-! A rule of our own: f(k = v, ..), no argument by place. -/
namespace TK
open PySem L2 PyProof.Rows
theorem pe_callK0 {X : Cx} {CX : CXT} {k : Nat} {f : Addr} {fd : FuncData} {ps ks : List Str} {sp : Sp} {E : XK} {x : Str} {p pos : Pos} {kws : List Keyword} {tk : TA} {g : List Value → List Value → List Value} {gV : List V → List V → List V}
    (F : FnOk X.prog X.w X.K X.mg X.base CX k f fd ps sp) (hr : Room k X.A) (hg : Gl X x) (hm : X.mg x = some (.ref f)) (hk : PySem.W.keepIn X.K (.ref f) = true) (hb : KBn X.K fd ps 0 ks g gV) (hx : Passes CX X E) (hkw : PK X kws tk)
    (hall : ((backToKw pos (keywordEach kws X.env)).all (·.1.isSome)) = true := by rfl) (hks : (backToKw pos (keywordEach kws X.env)).filterMap (·.1) = ks := by rfl) (hdb : (x == Str.ofString "__debug__") = false := by decide +kernel)
    (hpl : (((backTo pos (starEach [] X.env)).any (·.1)) || (backToKw pos (keywordEach kws X.env)).any (·.1.isNone)) = false := by rfl) : PE X (.Call (.Name x p) [] kws pos) (tCallN 0 ks.length sp gV E tNil tk) :=
  ⟨fun pins s σ H Q I h => wpAny_Call_Name_kw (ld_glob I hg hm (by
    refine PySem.W.callWith_KW0 I.ok.mod.kin hk hall ?_ hpl
    refine thn (hkw.run pos pins s σ H _ I h) fun ws s2 x => ?_
    obtain ⟨zs, H2, I2, rz, l1, l2, q2⟩ := x
    refine ⟨I2.kIn, ?_⟩
    rw [hks]
    exact run_fnN F hr hb hx I2 .nil rz rfl l2 q2) hdb)⟩
theorem kbn0 {K : PySem.W.Frag} {x qual : Str} {st : Stmt} {f : Addr} {fd : FuncData} {ps ks : List Str} (F : Fun K x qual st f fd) (g : {α : Type} → List α → List α) (hrel : ∀ {zs : List V} {ws : List Value}, Vals zs ws → Vals (g zs) (g ws))
    (h : ∀ (kV doc pm : Value) (an : Option Addr) (cdv ct : Value) (ws : List Value), ws.length = ks.length → bindArgs (PySem.W.fnOf x qual (defArgs st) (defBody st) (defScope st) .none kV doc pm an cdv ct) { pos := [], kw := ks.zip ws } = pure (ps.zip (g ws))) :
    KBn K fd ps 0 ks (fun _ ws => g ws) (fun _ zs => g zs) := by
  obtain ⟨oc, od, kV, doc, pm, an, cdv, ct, osl, rfl, lk, hcd⟩ := F.ex
  refine ⟨fun s us ws hK hu hw => ?_, fun _ r => hrel r⟩
  have : us = [] := List.length_eq_zero_iff.mp hu
  subst this
  exact .of_eq (h kV doc pm an cdv ct ws hw)
theorem vals_rev {zs : List V} {ws : List Value} (h : Vals zs ws) : Vals zs.reverse ws.reverse := by
  have app : ∀ {a b : List V} {c d : List Value}, Vals a c → Vals b d → Vals (a ++ b) (c ++ d) := by
    intro a b c d h k
    induction h with
    | nil => exact k
    | cons r _ ih => exact .cons r ih
  induction h with
  | nil => exact .nil
  | cons r _ ih =>
    rw [List.reverse_cons, List.reverse_cons]
    exact app ih (.cons r .nil)
end TK

set_option maxHeartbeats 1000000
/-! Rules of our own: a method that may raise what the caller's slots say; a method called by names alone. -/
namespace TK
open PySem L2 PyProof.Rows
section
variable {X : Cx} {CX : CXT} {k : Nat} {f C : Addr} {fd : FuncData} {ps : List Str} {sp : Sp} {m : Str} {pos apos : Pos} {o : Expr} {ta : TE} {pl : Sem Bool}
def tMethE (C : Addr) (m : Str) (sp : Sp) (E : L2.St → XK) (ta : TE) (t : TA) : TE := fun σ H Q => ta σ H fun x H1 => ∃ (a dx : Addr) (fs : List (Str × V)), x = .ref a ∧ H1 a = some (.ins C dx fs) ∧ fs.lookup m = none ∧ t σ H1 fun vs H2 => sp (x :: vs) H2 Q (E σ)
theorem pe_methE {E : L2.St → XK} {e : Expr} {es : List Expr} {t : TA} (he : PE X o ta) (c : Cls X.K C) (hm : Meth X.K C m f) (F : FnOk X.prog X.w X.K X.mg X.base CX k f fd ps sp) (hr : Room k X.A) (hb : Binds X.K fd ps []) (hx : ∀ σ, PassesAt CX X σ (E σ)) (ha : PA X (e :: es) t)
    (hst : starEach (e :: es) X.env = (false, eval e X.env) :: starEach es X.env := by rfl) (hpl : (backTo pos (starEach es X.env)).any (·.1) = false := by rfl)
    (ht : eval (.Call (.Attribute o m apos) (e :: es) [] pos) X.env = (do
      let ov ← eval o X.env
      standAt apos.atName
      let (f, first) ← holding [ov] (getMethod ov m pl)
      callWith pos f first (backTo pos (starEach (e :: es) X.env)) (backToKw pos (keywordEach [] X.env))) := by rfl) : PE X (.Call (.Attribute o m apos) (e :: es) [] pos) (tMethE C m sp E ta t) := by
  refine ⟨fun pins s σ H Q I h => PySem.W.methodCall_KW (thn (he.run pins s σ H _ I h) fun u s1 x => ?_) ht⟩
  obtain ⟨x, H1, I1, rx, a, dx, fs, rfl, ea, l, q⟩ := x
  cases (show u = Value.ref a from rx)
  refine getmeth_ok I1 ea c hm l (PySem.W.callWith_K (h₀ := X.base) I.ok.mod.kin hm.kp (thn (ha.run pos pins s1 σ H1 _ I1 q) fun us s2 x => ?_) hst hpl)
  obtain ⟨vs, H2, I2, r, q2⟩ := x
  exact ⟨I2.kIn, run_fnS F hr hb (hx σ) I2 (.cons (show RelV (V.ref a) (Value.ref a) from rfl) r) q2⟩
def tMethK0 (C : Addr) (m : Str) (n : Nat) (sp : Sp) (gV : List V → List V → List V) (E : XK) (ta : TE) (tk : TA) : TE := fun σ H Q => ta σ H fun x H1 => ∃ (a dx : Addr) (fs : List (Str × V)), x = .ref a ∧ H1 a = some (.ins C dx fs) ∧ fs.lookup m = none ∧ tk σ H1 fun zs H2 => zs.length = n ∧ sp (gV [x] zs) H2 Q E
theorem pe_methK0 {E : XK} {kws : List Keyword} {ks : List Str} {tk : TA} {g : List Value → List Value → List Value} {gV : List V → List V → List V} (he : PE X o ta) (c : Cls X.K C) (hm : Meth X.K C m f) (F : FnOk X.prog X.w X.K X.mg X.base CX k f fd ps sp) (hr : Room k X.A) (hb : KBn X.K fd ps 1 ks g gV) (hx : Passes CX X E) (hkw : PK X kws tk)
    (hall : ((backToKw pos (keywordEach kws X.env)).all (·.1.isSome)) = true := by rfl) (hks : (backToKw pos (keywordEach kws X.env)).filterMap (·.1) = ks := by rfl)
    (hpl : (((backTo pos (starEach [] X.env)).any (·.1)) || (backToKw pos (keywordEach kws X.env)).any (·.1.isNone)) = false := by rfl)
    (ht : eval (.Call (.Attribute o m apos) [] kws pos) X.env = (do
      let ov ← eval o X.env
      standAt apos.atName
      let (f, first) ← holding [ov] (getMethod ov m pl)
      callWith pos f first (backTo pos (starEach [] X.env)) (backToKw pos (keywordEach kws X.env))) := by rfl) : PE X (.Call (.Attribute o m apos) [] kws pos) (tMethK0 C m ks.length sp gV E ta tk) := by
  refine ⟨fun pins s σ H Q I h => PySem.W.methodCall_KW (thn (he.run pins s σ H _ I h) fun u s1 x => ?_) ht⟩
  obtain ⟨x, H1, I1, rx, a, dx, fs, rfl, ea, l, q⟩ := x
  cases (show u = Value.ref a from rx)
  refine getmeth_ok I1 ea c hm l (PySem.W.callWith_KW0 I.ok.mod.kin hm.kp hall ?_ hpl)
  refine thn (hkw.run pos pins s1 σ H1 _ I1 q) fun ws s2 x => ?_
  obtain ⟨zs, H2, I2, rz, l2, q2⟩ := x
  refine ⟨I2.kIn, ?_⟩
  rw [hks]
  exact run_fnN F hr hb hx I2 (.cons (show RelV (V.ref a) (Value.ref a) from rfl) .nil) rz rfl l2 q2
theorem kbn1 {K : PySem.W.Frag} {x qual : Str} {st : Stmt} {f : Addr} {fd : FuncData} {ps ks : List Str} (F : Fun K x qual st f fd) (g : {α : Type} → List α → List α → List α) (hrel : ∀ {vs : List V} {us : List Value} {zs : List V} {ws : List Value}, Vals vs us → Vals zs ws → Vals (g vs zs) (g us ws)) (n : Nat)
    (h : ∀ (kV doc pm : Value) (an : Option Addr) (cdv ct : Value) (us ws : List Value), us.length = n → ws.length = ks.length → bindArgs (PySem.W.fnOf x qual (defArgs st) (defBody st) (defScope st) .none kV doc pm an cdv ct) { pos := us, kw := ks.zip ws } = pure (ps.zip (g us ws))) :
    KBn K fd ps n ks (fun us ws => g us ws) (fun vs zs => g vs zs) := by
  obtain ⟨oc, od, kV, doc, pm, an, cdv, ct, osl, rfl, lk, hcd⟩ := F.ex
  exact ⟨fun s us ws hK hu hw => .of_eq (h kV doc pm an cdv ct us ws hu hw), fun r1 r2 => hrel r1 r2⟩
end
end TK

set_option maxHeartbeats 2000000
/-! Rules of our own: dict == dict that may be False; str(o) by an own __str__. -/
namespace TQ
open PySem L2 PyProof.Rows TX TY
section
variable {κ : Type} [DecidableEq κ]
/-- whether each entry has its like -/
def likes (ls : List (κ × V)) (p : κ × V) : Bool := match valV ls p.1 with
  | some y => eqV p.2 y
  | none => false
theorem hits_any {A : Around} {s : Shared} {ls : List (κ × V)} {vb : List (κ × Value)} (rb : KV ls vb) (fb : ∀ p ∈ ls, flatV p.2 = true) : ∀ {ks : List (κ × V)} {va : List (κ × Value)}, KV ks va → (∀ p ∈ ks, flatV p.2 = true) → PySem.W.KeqHits A s vb va (ks.all (likes ls)) := by
  intro ks va ra
  unfold KV at ra
  induction ra with
  | nil => intro _; exact .nil
  | @cons p q ps qs h t ih =>
    intro hp
    obtain ⟨k, v⟩ := q
    obtain ⟨h1, h2⟩ := h
    have h1' : p.1 = k := h1
    subst h1'
    have rr := rb.val p.1
    rw [List.all_cons]
    cases e : valV ls p.1 with
    | none =>
      have e2 : likes ls p = false := by unfold likes; rw [e]
      rw [e] at rr
      rw [e2, Bool.false_and]
      refine .miss ?_
      cases hv : valueAt vb p.1 with
      | none => rfl
      | some y => rw [hv] at rr; cases rr
    | some y =>
      have e2 : likes ls p = eqV p.2 y := by unfold likes; rw [e]
      rw [e] at rr
      rw [e2]
      obtain ⟨u, hu, ru⟩ := rr.some_of
      have fy : flatV y = true := by
        unfold valV at e
        rw [Option.map_eq_some_iff] at e
        obtain ⟨q, hq, rfl⟩ := e
        exact fb q (List.mem_of_find?_eq_some hq)
      exact .hit hu (eqAt_V h2 ru (hp p List.mem_cons_self) fy) (ih fun q hq => hp q (List.mem_cons_of_mem _ hq))
end
section
variable {X : Cx}
/-- d == e -/
def rEqDB : R2 := fun x y H Q => ∃ a b ks ls, x = .ref a ∧ y = .ref b ∧ H a = some (.dK ks) ∧ H b = some (.dK ls) ∧ (∀ p ∈ ks, flatV p.2 = true) ∧ (∀ p ∈ ls, flatV p.2 = true) ∧ Q (.bl (ks.length == ls.length && ks.all (likes ls))) H
theorem op_eqDB (hu : X.A.units < cLine) : OpR X (compareOp .Eq) rEqDB := by
  intro pins s σ H x y v u Q I rx ry h
  obtain ⟨a, b, ks, ls, rfl, rfl, ea, eb, fa, fb, q⟩ := h
  cases (show v = Value.ref a from rx)
  cases (show u = Value.ref b from ry)
  obtain ⟨_, ya, va, ra, da⟩ := (show ObjOk X.prog X.w H s.heap a (.dK ks) from I.hok a _ ea)
  obtain ⟨_, yb, vb, rb, db⟩ := (show ObjOk X.prog X.w H s.heap b (.dK ls) from I.hok b _ eb)
  have la : va.length = ks.length := ra.length.symm
  have lb : vb.length = ls.length := rb.length.symm
  refine PySem.W.keq_eq (knd := mixKind X.prog X.w) (r := ks.all (likes ls)) ya yb da db hu (fun _ => hits_any rb fb ra fa) (fin_bl I q ?_)
  rw [la, lb]
theorem mi_str {P : Program} {w : World} {v : Value} {S : PySem.Spec} (hs : ∀ (A : Around) (R : Result → Shared → Prop) (s : Shared), S A R s → wpAny (model P w) A.in1 (Builtin.Str.strOf v) (fun r s' => R (.ok (.ret r)) s') (fun e s' => R (.error e) s') s) :
    MeetsIn P w (Builtin.«str.__new__» ⟨[.type "str", v], []⟩) S := MeetsIn.of_wp fun A R s h => by
  rw [str_new_tree v]
  exact wpAny_bind (wpAny_pure (wpAny_bind (wpAny_of_eq isSubtype_str_str (wpAny_bind (wpAny_mono (hs A R s h) (fun r s' h' => wpAny_pure ⟨_, rfl, h'⟩) fun _ _ e => e)))))
/-- str(o) by an own __str__ -/
def rStrO (C : Addr) (sp : Sp) (E : XK) : List V → Hp → VK → Prop := fun xs H Q => ∃ a dx fs, xs = [.ref a] ∧ H a = some (.ins C dx fs) ∧ sp [.ref a] H (fun v H' => ∃ y : Str, v = .str y ∧ Q (.str y) H') E
theorem call_strO {CX : CXT} {C f : Addr} {fd : FuncData} {ps : List Str} {sp : Sp} {E : XK} {n : Nat} (G : FnOk X.prog X.w X.K X.mg X.base CX n f fd ps sp) (hs : PySem.W.findIn X.K (.ref C) "__str__" = some (some (.ref f)))
    (hf : PySem.W.isFn X.K (.ref f) = true) (hb : Binds X.K fd ps []) (hx : Passes CX X E) (hr : Room (n + 2) X.A) : CallR X (.type "str") (rStrO C sp E) := by
  intro pins s σ H xs us Q I r h
  obtain ⟨a, dx, fs, rfl, ha, hsp⟩ := h
  obtain ⟨u, rfl, rx⟩ := vals1 r
  cases rx
  obtain ⟨mA, J, _⟩ := ins_get I.hok ha
  obtain ⟨od, J, _⟩ := J.look
  obtain ⟨m, hF⟩ := I.fr
  have hin : Room (n + 1) X.A.in1 := hr.in1
  have h1 : Room n X.A.in1.in1 := hin.in1
  refine callType_newIn (T := "str") (S := fun A' R s' => wpAny (model X.prog X.w) A'.in1 (Builtin.Str.strOf (.ref a)) (fun r s' => R (.ok (.ret r)) s') (fun e s' => R (.error e) s') s') F.called_str (by decide) (F.typeCall_str_1 _) (F.newCall_str_1 _) (fun obj => F.args_object_init_2 obj _) F.entry_str_new
    (mi_str fun A' R s' h => h) ?_
  show wpAny _ X.A.in1.in1 (Builtin.Str.strOf (.ref a)) _ _ s
  unfold Builtin.Str.strOf
  refine wpAny_bind (m := cRoomFor "str" _) (wpAny_cRoomFor h1.units0 ?_)
  refine wpAny_bind (m := callSpecial? (.ref a) (PySem.Str.ofString "__str__")) (PySem.W.special_fn I.kIn J hs (beq_iff_eq.mp hf) ?_)
  have e0 : Env0 X.prog X.w X.K X.mg X.base X.A.in1.in1 X.stack s H := by
    have e := I.env0
    exact ⟨e.frames, e.mod, e.bs, e.bsz, e.funs, e.frf, e.hok, e.bare⟩
  have hl := G.len _ _ _ _ hsp
  refine wpAny_call (codeAny_mono (G.run X.A.in1.in1 X.stack s H ⟨[.ref a], []⟩ [.ref a] [.ref a] _ E h1 e0 (by
    have := hb s [.ref a] I.kIn (by simpa using hl)
    simpa using this) (.cons rfl .nil) hsp) fun r s' hq => ?_)
  cases r with
  | error e => exact hx pins σ H s e s' I hq
  | ok fl =>
    cases fl with
    | ret u =>
      obtain ⟨z, H', I', rz, y, ez, q⟩ := I.after hq
      subst ez
      obtain ⟨t, rfl⟩ := rz
      refine wpAny_bind (wpAny_pure ?_)
      exact wpAny_pure ⟨typeIs_str _ _ _, .str y, H', I', ⟨t, rfl⟩, q⟩
    | next => exact False.elim hq
    | brk => exact False.elim hq
    | cont => exact False.elim hq
end
end TQ

set_option maxHeartbeats 2000000
/-! Lambdas that are kept, handed on and called. -/
namespace TLC
open PySem PySem.Spec PyProof.Rows L2 LamX NdefX
/-- the object at f is the lambda F with this body -/
def LamO (f : Addr) (F : NF) (b : Expr) : HO := .ext fun h => ∃ pm ctv, h.get? f = some (PySem.W.kla_obj F.name F.qual F.params b F.scope F.cl pm F.c ctv)
theorem lamO_tbl {f : Addr} {F : NF} {b : Expr} (ps : Array Value) : LamO f F b ≠ .tbl ps := fun z => by
  unfold LamO at z
  cases z
theorem lamO_get {P : Program} {w : World} {H : Hp} {h : Heap} {f : Addr} {F : NF} {b : Expr} (k : HOk P w H h) (e : H f = some (LamO f F b)) : ∃ pm ctv, h.get? f = some (PySem.W.kla_obj F.name F.qual F.params b F.scope F.cl pm F.c ctv) := (k f _ e).1
section
variable {X : Cx} {pins : List (Addr × Obj)} {σ : L2.St} {H : Hp} {s : Shared}
/-- known as soon as it is laid -/
theorem inv_lam {h' : Heap} {t' : Nat} {F : NF} {b : Expr} {pm ctv : Value} (I : Inv X pins σ H { s with heap := h', toks := t' }) :
    Inv X pins σ (upd H h'.objs.size (LamO h'.objs.size F b)) { s with heap := h'.push (PySem.W.kla_obj F.name F.qual F.params b F.scope F.cl pm F.c ctv), toks := t' } := by
  have e := Heap.get?_push_size h' (o := PySem.W.kla_obj F.name F.qual F.params b F.scope F.cl pm F.c ctv) rfl
  exact I.laid (h' := h'.push (PySem.W.kla_obj F.name F.qual F.params b F.scope F.cl pm F.c ctv)) (t' := t') (fun c u z => Heap.get?_push_of_some _ z) (Nat.le_refl _) ⟨⟨pm, ctv, e⟩, ⟨_, e⟩, fun g1 g2 ⟨p, c, z⟩ k => ⟨p, c, k _ z⟩⟩
end
/-- what one more code object leaves of the tables -/
theorem tabs_more {T : List (Addr × Str)} {H : Hp} {P c : Addr} {q : Str} {pos : Pos} {ps : Array Value} (hT : Tabs T H) (hu : ∀ p ∈ T, p.1 = P → p.2 = q) (hP : H P = some (.tbl ps)) (tr : TriplesOk ps.toList)
    (al : ∀ (pos : Pos) (cv : Value), codeAmong pos ps.toList = some cv → ∃ c, cv = .ref c ∧ H c = some (CodeO c q)) (nC : H c = none) :
    ExtN H (upd (upd H P (.tbl (ps ++ #[rawInt pos.line, rawInt pos.col, .ref c]))) c (CodeO c q)) ∧ Tabs T (upd (upd H P (.tbl (ps ++ #[rawInt pos.line, rawInt pos.col, .ref c]))) c (CodeO c q)) := by
  have ne : P ≠ c := ne_of_none hP nC
  have ex : ExtN H (upd (upd H P (.tbl (ps ++ #[rawInt pos.line, rawInt pos.col, .ref c]))) c (CodeO c q)) := by
    intro a o e n
    have h1 : a ≠ c := ne_of_none e nC
    have h2 : a ≠ P := by
      rintro rfl
      rw [hP] at e
      exact n _ (Option.some.inj e).symm
    rw [upd_ne h1, upd_ne h2, e]
  refine ⟨ex, fun p hp => ?_⟩
  by_cases hb : p.1 = P
  · have l : (ps ++ #[rawInt pos.line, rawInt pos.col, .ref c]).toList = ps.toList ++ [rawInt pos.line, rawInt pos.col, .ref c] := by simp
    rw [hb, hu p hp hb]
    refine ⟨ps ++ #[rawInt pos.line, rawInt pos.col, .ref c], ?_, ?_, ?_⟩
    · rw [upd_ne ne, upd_same]
    · rw [l]
      exact TriplesOk_snoc _ _ _ _ tr
    · intro pos' cv e
      rw [l] at e
      cases among_app _ tr e with
      | inl z =>
        obtain ⟨c0, k1, k2⟩ := al _ _ z
        exact ⟨c0, k1, ex _ _ k2 codeO_ne⟩
      | inr z => exact ⟨c, z, upd_same⟩
  · obtain ⟨qs, k1, k2, k3⟩ := hT p hp
    refine ⟨qs, ?_, k2, fun pos' cv e => ?_⟩
    · rw [upd_ne (ne_of_none k1 nC), upd_ne hb, k1]
    · obtain ⟨c0, j1, j2⟩ := k3 pos' cv e
      exact ⟨c0, j1, ex _ _ j2 codeO_ne⟩
/-- a lambda as a value -/
def tLamV (T : List (Addr × Str)) (mk : Addr → NF) (b : Expr) : TE := fun σ H Q => Tabs T H ∧ ∀ (f c : Addr) (H1 : Hp), ExtN H H1 → (∀ a, H1 a = none → H a = none) → Tabs T H1 → H f = none → H1 f = some (LamO f (mk c) b) → H1 c = some (CodeO c (mk c).qual) → Q (.ref f) H1
section
variable {X : Cx}
theorem pe_lamV {T : List (Addr × Str)} {c P : Addr} {params : Arguments} {body : Expr} {scope : Scope} {pos : Pos} (TB : TabB X.base X.mg c P) (hcode : X.env.code = .ref c) (hm : (P, X.env.qual ++ "<lambda>") ∈ T) (hu : ∀ p ∈ T, p.1 = P → p.2 = X.env.qual ++ "<lambda>")
    (L : LamS X.env.scope scope) (hdef : defaultsOf params X.env = ([], [])) :
    PE X (.Lambda params body scope pos) (tLamV T (fun c => ⟨"<lambda>", X.env.qual ++ "<lambda>", params, [], scope, cloFrom X.env.cells scope.names [], c⟩) body) := by
  refine ⟨fun pins s σ H Q I ⟨hT, h⟩ => PySem.W.kla_eval hdef ?_⟩
  obtain ⟨ps, hP, tr, al⟩ := hT _ hm
  have tab : s.heap.get? P = some { cls := .none, data := .fields ps } := I.hok P _ hP
  have clo := closure_ok (env := X.env) (L.has I.ok)
  cases among : codeAmong pos ps.toList with
  | some cv =>
    obtain ⟨c1, rfl, e1⟩ := al _ _ among
    refine PySem.W.kla_makeFunctionHit (mg := X.mg) (c := c) (P := P) (ps := ps) clo I.ok.glob (I.mod.glob.keeps I.bk) hcode (TB.code.keeps I.bk) tab tr among (TB.bm.keeps I.bk) fun ctv h' tk keep _ => ?_
    have I1 : Inv X pins σ H { s with heap := h', toks := tk } := I.kept keep
    have nF : H h'.objs.size = none := I1.hok.fresh (Nat.le_refl _)
    refine ⟨.ref h'.objs.size, _, inv_lam (F := ⟨"<lambda>", X.env.qual ++ "<lambda>", params, [], scope, cloFrom X.env.cells scope.names [], c1⟩) (b := body) I1, rfl, h _ c1 _ ?_ (fun a => upd_none) ?_ nF upd_same ?_⟩
    · intro a o e _
      rw [upd_ne (ne_of_none e nF), e]
    · exact hT.ext fun a o e => by rw [upd_ne (ne_of_none e nF), e]
    · rw [upd_ne (ne_of_none e1 nF), e1]
  | none =>
    refine PySem.W.kla_makeFunction (mg := X.mg) (c := c) (P := P) (ps := ps) clo I.ok.glob (I.mod.glob.keeps I.bk) hcode (TB.code.keeps I.bk) tab tr among TB.gP (TB.bm.keeps I.bk) fun c1 ctv h' tk but lo hi rec_ tab' => ?_
    obtain ⟨_, oc, vs, t, e2, g1, g2, g3⟩ := rec_
    cases e2
    have nC : H c1 = none := I.hok.fresh lo
    obtain ⟨ex, T1⟩ := tabs_more (pos := pos) hT hu hP tr al nC
    have I1 := inv_table (t' := tk) (more := #[rawInt pos.line, rawInt pos.col, .ref c1]) (h' := h') I hP (fun a o n e => but a o n e) tab' lo ⟨oc, vs, t, g1, g2, g3⟩
    have e1 : upd (upd H P (.tbl (ps ++ #[rawInt pos.line, rawInt pos.col, .ref c1]))) c1 (CodeO c1 (X.env.qual ++ "<lambda>")) c1 = some (CodeO c1 (X.env.qual ++ "<lambda>")) := upd_same
    have fr : H h'.objs.size = none := I.hok.fresh (Nat.le_trans lo (Nat.le_of_lt hi))
    have back : ∀ a, upd (upd H P (.tbl (ps ++ #[rawInt pos.line, rawInt pos.col, .ref c1]))) c1 (CodeO c1 (X.env.qual ++ "<lambda>")) a = none → H a = none := fun a z => upd_none (upd_none z)
    generalize upd (upd H P (.tbl (ps ++ #[rawInt pos.line, rawInt pos.col, .ref c1]))) c1 (CodeO c1 (X.env.qual ++ "<lambda>")) = H1 at ex T1 I1 e1 back
    have nF : H1 h'.objs.size = none := I1.hok.fresh (Nat.le_refl _)
    refine ⟨.ref h'.objs.size, _, inv_lam (F := ⟨"<lambda>", X.env.qual ++ "<lambda>", params, [], scope, cloFrom X.env.cells scope.names [], c1⟩) (b := body) I1, rfl, h _ c1 _ ?_ (fun a z => back a (upd_none z)) ?_ fr upd_same ?_⟩
    · intro a o e n
      have := ex _ _ e n
      rw [upd_ne (ne_of_none this nF), this]
    · exact T1.ext fun a o e => by rw [upd_ne (ne_of_none e nF), e]
    · rw [upd_ne (ne_of_none e1 nF), e1]
end
end TLC

set_option maxHeartbeats 2000000
namespace TLC
open PySem PySem.Spec PyProof.Rows L2 LamX NdefX
/-- what the cells hold they hold later, where the frames above are not theirs -/
theorem cells_un {cl : List (Str × Addr)} {fr : List Str} {ws : List (Option V)} {fs ex : List Addr} {H H' : Hp} {h h' : Heap} (C : CellsAt cl fr ws h H) (u : Un fs ex H H' h h') (hx : ∀ y c, cl.lookup y = some c → c ∉ ex) : CellsAt cl fr ws h' H' := by
  have mv : ∀ y c, cl.lookup y = some c → ∀ v, h.IsCell c v → h'.IsCell c v := by
    rintro y c e v ⟨o, ho, hd⟩
    obtain ⟨sl, z⟩ := u.any ho (C.all y c e).1 (hx y c e)
    exact ⟨_, z, hd⟩
  constructor
  · exact C.len
  · intro y c e
    obtain ⟨n, v, k⟩ := C.all y c e
    exact ⟨u.free c k.choose k.choose_spec.1 n (hx y c e), v, mv y c e v k⟩
  · exact C.inj
  · intro i y e
    obtain ⟨c, hc, hv⟩ := C.has i y e
    refine ⟨c, hc, fun v ev => ?_⟩
    obtain ⟨u', r, k⟩ := hv v ev
    exact ⟨u', r, mv y c hc _ k⟩
/-- the promise of a lambda: what it asks of what its cells hold, of the heap, of the two ends -/
abbrev LSp := List (Option V) → Hp → VK → XK → Prop
structure LOk (P : Program) (w : World) (K : PySem.W.Frag) (mg : Str → Option Value) (base : Heap) (CX : CXT) (k : Nat) (f : Addr) (F : NF) (b : Expr) (fr : List Str) (sp : LSp) : Prop where
  run : ∀ (A : Around) (outer : List Env) (s : Shared) (H : Hp) (ws : List (Option V)) (Q : VK) (E : XK), Room k A → Env0 P w K mg base A outer s H → H f = some (LamO f F b) → H F.c = some (CodeO F.c F.qual) → CellsAt F.cl fr ws s.heap H → sp ws H Q E →
    codeAny (model P w) A (.call (.ref f) ⟨[], []⟩) (CR CX outer P w H s Q E) s
section
variable {CX : CXT} {P : Program} {w : World} {K : PySem.W.Frag} {mg : Str → Option Value} {base : Heap} {N fr : List Str} {F : NF} {f : Addr} {k j : Nat} {b : Expr} {sp : LSp}
/-- a lambda by its body -/
theorem lok_of (S : NScope N [] fr F.scope) (hb : ∀ pm ctv : Value, bindArgs (PySem.W.kla_fn F.name F.qual F.params b F.scope F.cl pm (.ref F.c) ctv) ⟨[], []⟩ = pure [])
    (body : ∀ (A : Around) (outer : List Env) (s : Shared) (H : Hp) (ws : List (Option V)) (Q : VK) (E : XK), Room k (A.deeper (envF F f s.heap.objs.size)) → ws.length = fr.length → sp ws H Q E → ∃ t, PE (ncx CX P w K mg base N F f A outer s H E) b t ∧ t (startF N [] ws) H Q) :
    LOk P w K mg base CX (k + 1) f F b fr sp := by
  refine ⟨fun A outer s H ws Q E hr e0 hf hc C h => ?_⟩
  obtain ⟨pm, ctv, ob⟩ := lamO_get e0.hok hf
  refine PySem.W.kla_callFunE hr.depth ob rfl S.co S.gen rfl (codeO_at e0.hok hc) ?_
  rw [hb pm ctv]
  have lim : s.heap.NoLimit := e0.mod.nolimit.keeps fun a o e => (e0.bs a o e).1
  refine wpAny_pure (wpAny_newFunctionEnv S.nocell (fun y hy => absurd hy (by simp)) (fun g ns sb => ⟨lim.fresh _ sb, ?_⟩) S.kind)
  show codeAny (model P w) A (.expr b (envF F f s.heap.objs.size)) _ _
  obtain ⟨t, ht, q⟩ := body A outer s H ws Q E (hr.deeper _) C.len h
  have J : Inv (ncx CX P w K mg base N F f A outer s H E) [] (startF N [] ws) H { s with heap := g, toks := s.toks + ([] : List (Str × Value)).length } :=
    inv_startN (us := []) S hr.hd e0 rfl .nil C ns fun a o e => sb.extBut a o (Nat.ne_of_lt (Heap.lt_size e)) (Heap.get?_push_of_some _ e)
  refine PySem.W.kla_codeExpr (wpAny_mono (ht.run [] _ _ H Q J q) (fun u s' hq => ?_) fun _ _ z => z)
  obtain ⟨v, H', J', r, q'⟩ := hq
  exact ⟨v, H', J'.os, J'.bare, J'.base, J'.hok, r, q'⟩
theorem LOk.mono (o : LOk P w K mg base CX j f F b fr sp) (h : j ≤ k) : LOk P w K mg base CX k f F b fr sp := ⟨fun A outer s H ws Q E hr => o.run A outer s H ws Q E (hr.mono h)⟩
end
/-- x(), x the parameter that holds the lambda: C tells the cells as they were at the frame's beginning -/
def tLamCall (i : Nat) (f : Addr) (F : NF) (b : Expr) (ws : List (Option V)) (sp : LSp) (E : XK) : TE := fun σ H Q => σ[i]? = some (some (.ref f)) ∧ H f = some (LamO f F b) ∧ H F.c = some (CodeO F.c F.qual) ∧ sp ws H Q E
section
variable {X : Cx} {CX : CXT} {k i : Nat} {f : Addr} {F : NF} {b : Expr} {fr : List Str} {ws : List (Option V)} {sp : LSp} {E : XK} {x : Str} {p pos : Pos}
theorem lam_at {pins : List (Addr × Obj)} {σ : L2.St} {H : Hp} {s : Shared} (I : Inv X pins σ H s) (e : H f = some (LamO f F b)) : PySem.W.FnAt f s.heap := by
  obtain ⟨pm, ctv, z⟩ := lamO_get I.hok e
  exact ⟨_, _, _, _, z⟩
theorem pe_lamCall (O : LOk X.prog X.w X.K X.mg X.base CX k f F b fr sp) (C : CellsAt F.cl fr ws X.s_0.heap X.H_0) (hex : ∀ y c, F.cl.lookup y = some c → c ∉ X.ex) (hr : Room k X.A) (hx : Passes CX X E) (hN : X.N[i]? = some x) (hv : Vis X.env.scope x)
    (hd : (x == ("__debug__" : Str)) = false := by decide) (hcd : (x == ("__classdict__" : Str)) = false := by decide) : PE X (.Call (.Name x p) [] [] pos) (tLamCall i f F b ws sp E) := by
  refine ⟨fun pins s σ H Q I ⟨h1, h2, h3, h4⟩ => ?_⟩
  refine wpAny_Call_Name_kw (thn ((pe_var (pos := p) hN hv hd hcd).run pins s σ H (fun v H1 => v = .ref f ∧ H1 = H) I ⟨.ref f, h1, rfl, rfl⟩) fun u s1 ⟨v, H1, I1, r1, q1⟩ => ?_)
  obtain ⟨rfl, rfl⟩ := q1
  obtain rfl : u = Value.ref f := r1
  refine PySem.W.callWith_F0 (first := []) (lam_at I1 h2) (wpAny_call (codeAny_mono (O.run X.A X.stack s1 H1 ws Q E hr I1.env0 h2 h3 (cells_un C I1.base hex) h4) fun r s' hq => ?_))
  match r, hq with
  | .error e, hq => exact hx pins σ H1 s1 e s' I1 hq
  | .ok (.ret u), hq => exact I1.after hq
end
/-- a def that calls the lambda that it got: lw is what the lambda asks -/
structure COk (P : Program) (w : World) (K : PySem.W.Frag) (mg : Str → Option Value) (base : Heap) (k j : Nat) (g : Addr) (csp : (Hp → VK → XK → Prop) → Hp → VK → Prop) : Prop where
  run : ∀ (A : Around) (outer : List Env) (s : Shared) (H : Hp) (f : Addr) (F : NF) (b : Expr) (fr : List Str) (ws : List (Option V)) (sp : LSp) (Q : VK), Room k A → Env0 P w K mg base A outer s H → LOk P w K mg base (L2.CX P w) j f F b fr sp →
    H f = some (LamO f F b) → H F.c = some (CodeO F.c F.qual) → CellsAt F.cl fr ws s.heap H → csp (sp ws) H Q → codeAny (model P w) A (.call (.ref g) ⟨[.ref f], []⟩) (CR L2.CX0 outer P w H s Q L2.E0) s
/-- g(e), e a lambda: kn is what is known of cells there -/
def tCallC (P : Program) (w : World) (K : PySem.W.Frag) (mg : Str → Option Value) (base : Heap) (j : Nat) (kn : L2.St → List (Str × Addr) → List Str → List (Option V) → Prop) (csp : (Hp → VK → XK → Prop) → Hp → VK → Prop) (te : TE) : TE := fun σ H Q =>
  te σ H fun v H1 => ∃ f F b fr ws sp, v = .ref f ∧ H1 f = some (LamO f F b) ∧ H1 F.c = some (CodeO F.c F.qual) ∧ LOk P w K mg base (L2.CX P w) j f F b fr sp ∧ kn σ F.cl fr ws ∧ csp (sp ws) H1 Q
section
variable {X : Cx} {k j : Nat} {g : Addr} {csp : (Hp → VK → XK → Prop) → Hp → VK → Prop} {kn : L2.St → List (Str × Addr) → List Str → List (Option V) → Prop} {x : Str} {p pos : Pos} {e : Expr} {te : TE}
theorem pe_callC (G : COk X.prog X.w X.K X.mg X.base k j g csp) (hk : ∀ pins s σ H, Inv X pins σ H s → ∀ cl fr ws, kn σ cl fr ws → CellsAt cl fr ws s.heap H) (hr : Room k X.A) (hg : Gl X x) (hm : X.mg x = some (.ref g)) (hkp : PySem.W.keepIn X.K (.ref g) = true) (he : PE X e te)
    (hdb : (x == ("__debug__" : Str)) = false := by decide) (hst : starEach [e] X.env = (false, eval e X.env) :: starEach [] X.env := by rfl) (hpl : (backTo pos (starEach [] X.env)).any (·.1) = false := by rfl) :
    PE X (.Call (.Name x p) [e] [] pos) (tCallC X.prog X.w X.K X.mg X.base j kn csp te) := by
  refine ⟨fun pins s σ H Q I h => wpAny_Call_Name_kw (ld_glob I hg hm ?_ hdb)⟩
  have one := (pa_cons he pa_nil hst : PA X [e] (tCons te tNil)).run pos pins s σ H (fun vs H1 => match vs with
    | [v] => ∃ f F b fr ws sp, v = .ref f ∧ H1 f = some (LamO f F b) ∧ H1 F.c = some (CodeO F.c F.qual) ∧ LOk X.prog X.w X.K X.mg X.base (L2.CX X.prog X.w) j f F b fr sp ∧ kn σ F.cl fr ws ∧ csp (sp ws) H1 Q
    | _ => False) I h
  refine PySem.W.callWith_K (h₀ := X.base) I.ok.mod.kin hkp (thn one fun us s1 ⟨vs, H1, I1, r, q⟩ => ⟨I1.kIn, ?_⟩) hst hpl
  match vs, r, q with
  | [v], r, q =>
  obtain ⟨f, F, b, fr, ws, sp, rfl, h1, h2, O, kn1, q⟩ := q
  cases r with
  | cons r0 rn =>
    cases rn
    cases r0
    refine wpAny_call (codeAny_mono (G.run X.A X.stack s1 H1 f F b fr ws sp Q hr I1.env0 O h1 h2 (hk _ _ _ _ I1 _ _ _ kn1) q) fun r s' hq => ?_)
    match r, hq with
    | .error _, hq => exact False.elim hq
    | .ok (.ret u), hq => exact I1.after hq
end
end TLC

set_option maxHeartbeats 2000000
/-! [f(x) for x in xs] where what is known of the def's own cells at the block's beginning may be used of the element. -/
namespace TLC
open PySem PySem.Spec PyProof.Rows L2 LamX NdefX
section
variable {X : Cx}
/-- the promise of the element, told how the def stood when the block began -/
def Elt (X : Cx) (scope : Scope) (elt : Expr) (te : L2.St → TE) : Prop :=
  ∀ (pins : List (Addr × Obj)) (σ : L2.St) (s : Shared) (H : Hp) (C : Addr) (cl : List (Str × Addr)) (fp : List Addr), Inv X pins σ H s → (∀ b ∈ fp, ∀ x c, X.env.cells.lookup x = some c → c ≠ b) → PE (X.blk s H scope (compEnvC scope cl C X.env) fp) elt (te σ)
/-- the loop within the block -/
theorem blk_loop {σ : L2.St} {H : Hp} {s s0 : Shared} {elt tg iter : Expr} {scope : Scope} {pos : Pos} {vs : List Nat} {g : TG} {te : TE} {ce : Env} {fp : List Addr} {it D : Addr} {tn : Nat → Heap → Prop} {J : It} {Q : VK} {W : Nat → Nat → Hp → Prop} {R : Result → Shared → Prop} {n : Nat}
    (hc : X.calm = true) (T : Turn X.prog X.w X.K tg J fp it tn) (pg : PG (X.blk s H scope ce fp) tg g) (pe : PE (X.blk s H scope ce fp) elt te)
    (step : ∀ i m H1, W i m H1 → (J.stop i H1 ∧ Q (.ref D) H1) ∨ (J.go i H1 ∧ ∃ Nx : Hp → Prop, (∀ H', Nx H' → ∃ m', m' < m ∧ W (i + 1) m' H') ∧ ∀ x H', J.yld i H1 x H' → g x (wipe σ vs) H' fun σ2 H2 => wipe σ2 vs = wipe σ vs ∧
      te σ2 H2 fun y H4 => ∃ acc, H4 D = some (.lst acc) ∧ acc.length < sizeLine ∧ Nx (upd H4 D (.lst (acc ++ [y])))))
    (out : ∀ s' H', Inv (X.blk s H scope ce fp) [] (wipe σ vs) H' s' → Q (.ref D) H' → R (.ok .next) s')
    (start : Inv (X.blk s H scope ce fp) [] (wipe σ vs) H s0 ∧ tn 0 s0.heap ∧ (∀ b ∈ fp, H b = none) ∧ W 0 n H) :
    codeAny (model X.prog X.w) X.A (.compLoop (.ListComp elt [⟨tg, iter, [], 0⟩] scope pos) 0 (.ref it) (.ref D) ce) R s0 := by
  -- an iterator's objects stand apart from all that the block knows
  have apart : ∀ {σ' H' s'}, Inv (X.blk s H scope ce fp) [] σ' H' s' → (∀ b ∈ fp, H' b = none) → ∀ b ∈ fp, FpOk (X.blk s H scope ce fp) [] H' b := by
    intro σ' H' s' I' no b hb
    obtain ⟨k1, k2⟩ := I'.ok.exf b hb
    exact ⟨no b hb, k1, I'.ok.exfs b hb, .inl hb, k2, fun p hp => absurd (show p ∈ ([] : List (Addr × Obj)) ++ [] from hp) (by simp)⟩
  refine compLoop_any (fun m s' => ∃ i H', (Inv (X.blk s H scope ce fp) [] (wipe σ vs) H' s' ∧ tn i s'.heap ∧ ∀ b ∈ fp, H' b = none) ∧ W i m H') ?_ n ⟨0, H, ⟨start.1, start.2.1, start.2.2.1⟩, start.2.2.2⟩
  rintro m s1 ⟨i, H1, ⟨I1, t1, no1⟩, w1⟩
  cases step i m H1 w1 with
  | inl e =>
    refine thnF (T.done (X.blk s H scope ce fp) rfl rfl rfl hc i [] s1 (wipe σ vs) H1 (fun _ _ => False) I1 (apart I1 no1) t1 e.1) ?_
    rintro r s2 ⟨rfl, I2⟩
    exact out s2 H1 I2 e.2
  | inr e =>
    obtain ⟨go, Nx, nx, each⟩ := e
    refine thnF (T.item (X.blk s H scope ce fp) rfl rfl rfl hc i [] s1 (wipe σ vs) H1 (fun _ _ => False) I1 (apart I1 no1) t1 go) ?_
    rintro r s2 ⟨u, rfl, k2⟩
    refine thnF k2 ?_
    rintro _ s3 ⟨x, H3, I3, r3, y3, t3, no3⟩
    have P3 := I3.pinned (apart I3 no3) (T.obj _ _ t3)
    refine thnF (pg.run _ s3 _ H3 x u _ P3 r3 (each x H3 y3)) ?_
    rintro _ s4 ⟨σ4, H4, P4, same, q4⟩
    refine wpAny_tests_nil ?_
    rw [if_pos rfl]
    refine thnF (pe.run _ s4 σ4 H4 _ P4 q4) ?_
    rintro z s5 ⟨y, H5, P5, r5, acc, hD, hz, n5⟩
    refine app_ok (X := X.blk s H scope ce fp) P5 hD hz r5 fun s6 P6 => ?_
    obtain ⟨m', lt, w6⟩ := nx _ n5
    have kept : ∀ b ∈ fp, ∀ o, s3.heap.get? b = some o → s6.heap.get? b = some o ∧ (upd H5 D (.lst (acc ++ [y]))) b = none := fun b hb o e =>
      have k := P6.pin (b, o) (List.mem_append_right _ (List.mem_append_right _ (mem_pinsAt hb e)))
      ⟨k.1, k.2.1⟩
    have len : (wipe σ vs).length = σ4.length := by rw [← same, wipe_length]
    refine ⟨m', lt, i + 1, _, ⟨(P6.unpinned (pins := [])).weak len fun j v e => ?_, T.keep _ _ _ t3 fun b hb o e => (kept b hb o e).1, fun b hb => ?_⟩, w6⟩
    · rw [← same] at e
      exact (wipe_some e).1
    · obtain ⟨o, e, _⟩ := T.obj _ _ t3 b hb
      exact (kept b hb o e).2
theorem pe_lcW {elt tg iter : Expr} {scope : Scope} {own : List (Str × Nat)} {pos : Pos} {wi : TI} {g : TG} {te : L2.St → TE} (hc : X.calm = true) (hN : X.N.Nodup) (hi : PI X tg iter wi) (ok : BlkOk X.N X.env.scope scope own)
    (hg : ∀ (s : Shared) (H : Hp) (C : Addr) (cl : List (Str × Addr)) (fp : List Addr), PG (X.blk s H scope (compEnvC scope cl C X.env) fp) tg g) (he : Elt X scope elt te) (hs : ∀ x, foldedSetIterable iter X.env x = pure x := by intro _; rfl) :
    PE X (.ListComp elt [⟨tg, iter, [], 0⟩] scope pos) (fun σ H Q => tLc wi g tYes (te σ) (own.map (·.2)) σ H Q) := by
  refine ⟨fun pins s σ H Q I h => ?_⟩
  have cap : ∀ y ∈ scope.names, y.2 = .free → ∃ c, X.env.cells.lookup y.1 = some c := fun y hy e => I.ok.has _ (ok.free y hy e)
  rw [eval_ListComp]
  refine wpAny_comprehension_free (use := none) rfl hs (closure_ok cap) ok.kind (fun y hy e => e ▸ ok.uniq y hy) (thn (hi.run pins s σ H _ I h) fun _ _ k => thn k ?_)
  rintro _ s2 ⟨it, fp, tn, J, H2, rfl, I2, T, t2, f2, q⟩
  refine wpAny_newObj_type (newEnv_comp ?_) (Nat.zero_le _)
  have nD : H2 s2.heap.objs.size = none := I2.hok.fresh (Nat.le_refl _)
  obtain ⟨W, ⟨n, w0⟩, step⟩ := q _ nD
  generalize eD : s2.heap.objs.size = D at nD w0 step ⊢
  -- the new list
  obtain ⟨s3, e3⟩ : ∃ s3 : Shared, s3 = { s2 with heap := s2.heap.push { cls := .type "list", data := .seq ([] : List Value).toArray } } := ⟨_, rfl⟩
  have old : ∀ b o, s2.heap.get? b = some o → s3.heap.get? b = some o := fun b o e => by rw [e3]; exact Heap.get?_push_of_some _ e
  have I3 : Inv X pins σ (upd H2 D (.lst [])) s3 := by
    have lay : s3.heap.get? D = some { cls := .type "list", data := .seq ([] : List Value).toArray } := by rw [e3, ← eD]; exact Heap.get?_push_size _ rfl
    have z := I2.laid (a := D) (o := .lst []) (t' := s2.toks) old (Nat.le_of_eq eD) ⟨Nat.zero_le _, [], 0, .nil, lay⟩
    rw [e3] at z ⊢
    exact z
  have t3 : tn 0 s3.heap := T.keep _ _ _ t2 fun b _ o e => old b o e
  have f3 : ∀ b ∈ fp, FpOk X pins (upd H2 D (.lst [])) b ∧ b < s3.heap.objs.size := fun b hb => by
    obtain ⟨o, e, _⟩ := T.obj _ _ t2 b hb
    have lt := Heap.lt_size e
    have ne : b ≠ D := by rw [← eD]; exact Nat.ne_of_lt lt
    exact ⟨⟨by rw [upd_ne ne]; exact (f2 b hb).1, (f2 b hb).2⟩, Heap.lt_size (old b o e)⟩
  rw [← e3]
  generalize upd H2 D (.lst []) = H3 at I3 f3 w0
  have J0 := block_start I3 ok hN f3
  have sz : (s3.heap.push { cls := .type "dict", data := .dict #[] }).objs.size = s3.heap.objs.size + 1 := Heap.size_push ..
  show codeAny _ _ (.compStart (.ListComp elt [⟨tg, iter, [], 0⟩] scope pos) 0 (.ref it) (.ref D) (compEnvC scope (cellsFrom (s3.heap.objs.size + 1) scope.names (cloFrom X.env.cells scope.names [])) s3.heap.objs.size X.env)) _ _
  have pg := hg s3 H3 s3.heap.objs.size (cellsFrom (s3.heap.objs.size + 1) scope.names (cloFrom X.env.cells scope.names [])) fp
  have pe := he pins σ s3 H3 s3.heap.objs.size (cellsFrom (s3.heap.objs.size + 1) scope.names (cloFrom X.env.cells scope.names [])) fp I3 fun b hb x c e => (f3 b hb).1.2.2.2.2.1 x c e
  have loc : (compEnvC scope (cellsFrom (s3.heap.objs.size + 1) scope.names (cloFrom X.env.cells scope.names [])) s3.heap.objs.size X.env).locals = s3.heap.objs.size := rfl
  generalize compEnvC scope (cellsFrom (s3.heap.objs.size + 1) scope.names (cloFrom X.env.cells scope.names [])) s3.heap.objs.size X.env = ce at J0 pg pe loc ⊢
  have t4 : tn 0 (pushCells (s3.heap.push { cls := .type "dict", data := .dict #[] }) scope.names) := T.keep _ _ _ t3 fun b _ o e => pushCells_keeps _ _ _ _ (Heap.get?_push_of_some _ e)
  have run : codeAny (model X.prog X.w) X.A (.compLoop (.ListComp elt [⟨tg, iter, [], 0⟩] scope pos) 0 (.ref it) (.ref D) ce) (compPost (model X.prog X.w) X.A X.xe none (EP X pins σ Q) (.ref D) s3.heap.objs.size) { s3 with heap := pushCells (s3.heap.push { cls := .type "dict", data := .dict #[] }) scope.names } := by
    refine blk_loop (Q := Q) (W := W) (n := n) (vs := own.map (·.2)) hc T pg pe (fun i m H1 w1 => ?_) (fun s' H' I' qq => ?_) ⟨J0, t4, fun b hb => (f3 b hb).1.1, w0⟩
    · rcases step i m H1 w1 with z | ⟨go, Nx, hn, each⟩
      · exact .inl z
      · exact .inr ⟨go, Nx, hn, fun x H' y => each x H' y⟩
    · obtain ⟨m, hm, _⟩ := I'.loc
      have no : H' s3.heap.objs.size = none := loc ▸ I'.free
      have K := I3.call' (ch := fp) I'.os I'.base I'.hok I'.bare fun b hb => ⟨(f3 b hb).1.2.2.2.1, (f3 b hb).1.2.1, (f3 b hb).1.2.2.2.2.1, (f3 b hb).1.2.2.2.2.2⟩
      obtain ⟨_, k1, _, k3, k4, k5⟩ := I3.fpOk (H' := H') (Nat.le_refl _) no
      have hm : s'.heap.Ns ce.locals m := hm
      rw [loc] at hm
      exact ⟨m, hm, fun h' sb => ⟨.ref D, H', K.turned (t' := s'.toks) (fun b o hb e => (sb.2 b hb).trans e) no k1 k3 k4 k5, rfl, qq⟩⟩
  exact codeAny_compStart_list run (T.self X.A 0 _ _ _ t4 run)
/-- what is known, in the def itself, of the cells that a lambda took -/
def Kn (X : Cx) (σ : L2.St) (cl : List (Str × Addr)) (fr : List Str) (ws : List (Option V)) : Prop := ∃ js, (X.Ok → Caps X cl fr js) ∧ ws = js.map (slotAt σ)
theorem kn_here : ∀ (pins : List (Addr × Obj)) (s : Shared) (σ : L2.St) (H : Hp), Inv X pins σ H s → ∀ cl fr ws, Kn X σ cl fr ws → CellsAt cl fr ws s.heap H := by
  rintro pins s σ H I cl fr ws ⟨js, c, rfl⟩
  exact cells_of I (c I.ok)
/-- .. and within a block -/
theorem kn_blk {pins : List (Addr × Obj)} {σ : L2.St} {s : Shared} {H : Hp} {scope : Scope} {ce : Env} {fp : List Addr} (I : Inv X pins σ H s) (nf : ∀ b ∈ fp, ∀ x c, X.env.cells.lookup x = some c → c ≠ b) :
    ∀ (pins' : List (Addr × Obj)) (s' : Shared) (σ' : L2.St) (H' : Hp), Inv (X.blk s H scope ce fp) pins' σ' H' s' → ∀ cl fr ws, Kn X σ cl fr ws → CellsAt cl fr ws s'.heap H' := by
  rintro pins' s' σ' H' I' cl fr ws ⟨js, c, rfl⟩
  exact cells_un (cells_of I (c I.ok)) I'.base fun y a e hb => nf a hb y a ((c I.ok).sub y a e) rfl
end
end TLC

set_option maxHeartbeats 2000000
namespace TLC
open PySem PySem.Spec PyProof.Rows L2 LamX NdefX
section
variable {X : Cx} {CX : CXT} {k i : Nat} {f : Addr} {F : NF} {b : Expr} {fr : List Str} {ws : List (Option V)} {sp : LSp} {E : L2.St → XK} {x : Str} {p pos : Pos}
/-- x() within a try: what is let out may speak of the slots -/
theorem pe_lamCallS (O : LOk X.prog X.w X.K X.mg X.base CX k f F b fr sp) (C : CellsAt F.cl fr ws X.s_0.heap X.H_0) (hex : ∀ y c, F.cl.lookup y = some c → c ∉ X.ex) (hr : Room k X.A) (hx : ∀ σ, PassesAt CX X σ (E σ)) (hN : X.N[i]? = some x) (hv : Vis X.env.scope x)
    (hd : (x == ("__debug__" : Str)) = false := by decide) (hcd : (x == ("__classdict__" : Str)) = false := by decide) : PE X (.Call (.Name x p) [] [] pos) (fun σ H Q => tLamCall i f F b ws sp (E σ) σ H Q) := by
  refine ⟨fun pins s σ H Q I ⟨h1, h2, h3, h4⟩ => ?_⟩
  refine wpAny_Call_Name_kw (thn ((pe_var (pos := p) hN hv hd hcd).run pins s σ H (fun v H1 => v = .ref f ∧ H1 = H) I ⟨.ref f, h1, rfl, rfl⟩) fun u s1 ⟨v, H1, I1, r1, q1⟩ => ?_)
  obtain ⟨rfl, rfl⟩ := q1
  obtain rfl : u = Value.ref f := r1
  refine PySem.W.callWith_F0 (first := []) (lam_at I1 h2) (wpAny_call (codeAny_mono (O.run X.A X.stack s1 H1 ws Q (E σ) hr I1.env0 h2 h3 (cells_un C I1.base hex) h4) fun r s' hq => ?_))
  match r, hq with
  | .error e, hq => exact hx σ pins H1 s1 e s' I1 hq
  | .ok (.ret u), hq => exact I1.after hq
end
/-- a def that calls the lambda handed in, by its body -/
theorem cok_of {P : Program} {w : World} {K : PySem.W.Frag} {mg : Str → Option Value} {base : Heap} {k j : Nat} {g : Addr} {gd : FuncData} {x a : Str} {st : Stmt} {N : List Str} {csp : (Hp → VK → XK → Prop) → Hp → VK → Prop} (G : TX.Fn K mg x st [a] g gd) (S : FnScope N [a] (defScope st))
    (body : ∀ (cdv : Value) (A : Around) (outer : List Env) (s : Shared) (H : Hp) (f : Addr) (F : NF) (b : Expr) (fr : List Str) (ws : List (Option V)) (sp : LSp) (Q : VK), Room k (A.deeper (envOfC x (defScope st) s.heap.objs.size g cdv)) → LOk P w K mg base (L2.CX P w) j f F b fr sp →
      CellsAt F.cl fr ws s.heap H → H f = some (LamO f F b) → H F.c = some (CodeO F.c F.qual) → csp (sp ws) H Q →
      ∃ t, PSs (cxOf L2.CX0 P w K mg base N x (defScope st) g cdv A outer s H L2.E0).nox (defBody st) t ∧ t { nx := fun _ H' => Q .non H', rt := Q } (L2.start N [.ref f]) H) :
    COk P w K mg base (k + 1) j g csp := by
  obtain ⟨oc, od, kV, doc, pm, an, cdv, ct, osl, e, lk, hcd⟩ := G.F.ex
  subst e
  refine ⟨fun A outer s H f F b fr ws sp Q hr e0 O hf hc C h => ?_⟩
  have kin : K.In s.heap := e0.mod.kin.keeps fun a o e => (e0.bs a o e).1
  refine run_ofS (N := N) (ps := [a]) (us := [.ref f]) (vs := [.ref f]) lk hcd S hr e0 (G.b s [.ref f] kin rfl) (.cons rfl .nil) rfl fun hr' => ?_
  obtain ⟨t, ht, q⟩ := body cdv A outer s H f F b fr ws sp Q hr' O C hf hc h
  exact ⟨t, ht.nox, q⟩
end TLC
namespace TLC
open PySem PySem.Spec PyProof.Rows L2 LamX NdefX
/-- a def whose code object is known -/
structure FunC (K : PySem.W.Frag) (x qual : Str) (st : Stmt) (f : Addr) (fd : FuncData) (c : Addr) : Prop where
  ex : ∃ (oc : Value) (od : Option Addr) (kV doc pm : Value) (an : Option Addr) (ct : Value) (osl : Array (Option Value)),
    fd = PySem.W.fnOf x qual (defArgs st) (defBody st) (defScope st) .none kV doc pm an (.ref c) ct ∧ K.lookup f = some ⟨oc, od, .func fd, osl⟩ ∧ PySem.W.codeIn K (.ref c) qual = true
  kp : PySem.W.keepIn K (.ref f) = true
theorem FunC.ok {P : Program} {w : World} {K : PySem.W.Frag} {mg : Str → Option Value} {base : Heap} {x qual : Str} {st : Stmt} {f c : Addr} {fd : FuncData} {N ps : List Str} {k : Nat} {sp : Sp} (F : FunC K x qual st f fd c) (S : FnScope N ps (defScope st)) (len : ∀ vs H Q E, sp vs H Q E → vs.length = ps.length)
    (hbody : ∀ (A : Around) (outer : List Env) (s : Shared) (H : Hp) (vs : List V) (Q : VK) (E : XK), Room k (A.deeper (envOfC qual (defScope st) s.heap.objs.size f (.ref c))) → sp vs H Q E →
      ∃ t, PSs (cxOf L2.CX0 P w K mg base N qual (defScope st) f (.ref c) A outer s H E).nox (defBody st) t ∧ t { nx := fun _ H' => Q .non H', rt := Q } (L2.start N vs) H) : FnOk P w K mg base L2.CX0 (k + 1) f fd ps sp := by
  obtain ⟨oc, od, kV, doc, pm, an, ct, osl, e, lk, hcd⟩ := F.ex
  subst e
  refine fn_of lk hcd S len fun A outer s H vs Q E hr hsp => ?_
  obtain ⟨t, h, q⟩ := hbody A outer s H vs Q E hr hsp
  exact ⟨t, h.nox, q⟩
/-- such a def of the module, ready to be called -/
structure FnC (K : PySem.W.Frag) (mg : Str → Option Value) (x : Str) (st : Stmt) (ps : List Str) (f : Addr) (fd : FuncData) (c : Addr) : Prop where
  F : FunC K x x st f fd c
  g : mg x = some (.ref f)
  b : Binds K fd ps []
end TLC

set_option maxHeartbeats 2000000
namespace T89
open PySem L2 PyProof.Rows TX TY TW TD TB TG TUD TE TK
/-! Whatever may be handed in, seen from the heap; what stands but at the well and in instances, stays. -/
def Kp (W : Addr) (H H' : Hp) : Prop := ∀ a o, a ≠ W → (∀ C dx fs, o ≠ .ins C dx fs) → (∀ ps, o ≠ .tbl ps) → H a = some o → H' a = some o
theorem Kp.sm {W : Addr} {H H' : Hp} (s : Sm W H H') : Kp W H H' := fun a o n _ _ e => s a o n e
theorem Kp.of {W : Addr} {H H' : Hp} (s : Same H H') : Kp W H H' := fun a o _ _ _ e => s a o e
theorem Kp.ext {W : Addr} {H H' : Hp} (s : LamX.ExtN H H') : Kp W H H' := fun a o _ _ t e => s a o e t
theorem Kp.but {W : Addr} {H H' : Hp} {p C dx : Addr} {fs : List (Str × V)} (hp : H p = some (.ins C dx fs)) (k : ∀ b o, b ≠ p → H b = some o → H' b = some o) : Kp W H H' := fun a o _ no _ e =>
  k a o (fun z => by rw [z, hp] at e; exact no C dx fs (Option.some.inj e).symm) e
inductive Lf (W : Addr) (H : Hp) : V → Prop
  | non : Lf W H .non
  | bl (b : Bool) : Lf W H (.bl b)
  | int (i : Int) : Lf W H (.int i)
  | str (x : Str) (h : x.length ≤ 1000000) : Lf W H (.str x)
  | tup {a : Addr} {xs : List V} (n : a ≠ W) (h : H a = some (.tup xs)) : Lf W H (.ref a)
  | lst {a : Addr} {xs : List V} (n : a ≠ W) (h : H a = some (.lst xs)) : Lf W H (.ref a)
  | dK {a : Addr} {kvs : List (Key × V)} (n : a ≠ W) (h : H a = some (.dK kvs)) : Lf W H (.ref a)
theorem Lf.kp {W : Addr} {H H' : Hp} {v : V} (h : Lf W H v) (s : Kp W H H') : Lf W H' v := by
  cases h with
  | non => exact .non
  | bl b => exact .bl b
  | int i => exact .int i
  | str x h => exact .str x h
  | tup n h => exact .tup n (s _ _ n (fun _ _ _ z => by cases z) (fun _ z => by cases z) h)
  | lst n h => exact .lst n (s _ _ n (fun _ _ _ z => by cases z) (fun _ z => by cases z) h)
  | dK n h => exact .dK n (s _ _ n (fun _ _ _ z => by cases z) (fun _ z => by cases z) h)
def isS : V → Bool
  | .str _ => true
  | _ => false
theorem Lf.ty {K : PySem.W.Frag} {W : Addr} {H : Hp} {v : V} (h : Lf W H v) : ∃ t, TyX K H v (.type t) ∧ kitB t "str" = some (isS v) ∧ kitB t "int" = some (numV v) ∧ kitB t "bool" = some (truthV v) := by
  cases h with
  | non => exact ⟨_, .base .non, by decide +kernel, by decide +kernel, by decide +kernel⟩
  | bl b => exact ⟨_, .base (.bl b), (show kitB "bool" "str" = some false by decide +kernel), (show kitB "bool" "int" = some true by decide +kernel), (show kitB "bool" "bool" = some true by decide +kernel)⟩
  | int i => exact ⟨_, .base (.int i), (show kitB "int" "str" = some false by decide +kernel), (show kitB "int" "int" = some true by decide +kernel), (show kitB "int" "bool" = some false by decide +kernel)⟩
  | str x _ => exact ⟨_, .base (.str x), (show kitB "str" "str" = some true by decide +kernel), (show kitB "str" "int" = some false by decide +kernel), (show kitB "str" "bool" = some false by decide +kernel)⟩
  | tup _ h => exact ⟨_, .base (.tup h), (show kitB "tuple" "str" = some false by decide +kernel), (show kitB "tuple" "int" = some false by decide +kernel), (show kitB "tuple" "bool" = some false by decide +kernel)⟩
  | lst _ h => exact ⟨_, .base (.lst h), (show kitB "list" "str" = some false by decide +kernel), (show kitB "list" "int" = some false by decide +kernel), (show kitB "list" "bool" = some false by decide +kernel)⟩
  | dK _ h => exact ⟨_, .base (.dK h), (show kitB "dict" "str" = some false by decide +kernel), (show kitB "dict" "int" = some false by decide +kernel), (show kitB "dict" "bool" = some false by decide +kernel)⟩
/-- what is neither list nor tuple -/
inductive Ob (W : Addr) (H : Hp) : V → Prop
  | int (i : Int) : Ob W H (.int i)
  | str (x : Str) : Ob W H (.str x)
  | dK {a : Addr} {kvs : List (Key × V)} (n : a ≠ W) (h : H a = some (.dK kvs)) : Ob W H (.ref a)
theorem Ob.kp {W : Addr} {H H' : Hp} {v : V} (h : Ob W H v) (s : Kp W H H') : Ob W H' v := by
  cases h with
  | int i => exact .int i
  | str x => exact .str x
  | dK n h => exact .dK n (s _ _ n (fun _ _ _ z => by cases z) (fun _ z => by cases z) h)
/-- what may be a row: its values, where it is a tuple -/
def RowT (W : Addr) (H : Hp) (v : V) (d : Option (List V)) : Prop := (∃ a ys, v = .ref a ∧ a ≠ W ∧ H a = some (.tup ys) ∧ ys.length ≤ 20 ∧ (∀ y ∈ ys, Lf W H y) ∧ d = some ys) ∨ (d = none ∧ (v = .non ∨ (∃ a xs, v = .ref a ∧ a ≠ W ∧ H a = some (.lst xs)) ∨ Ob W H v))
theorem RowT.kp {W : Addr} {H H' : Hp} {v : V} {d : Option (List V)} (h : RowT W H v d) (s : Kp W H H') : RowT W H' v d := by
  rcases h with ⟨a, ys, e, n, h1, h2, h3, h4⟩ | ⟨e, h | ⟨a, xs, h, n, h1⟩ | h⟩
  · exact .inl ⟨a, ys, e, n, s _ _ n (fun _ _ _ z => by cases z) (fun _ z => by cases z) h1, h2, fun y hy => (h3 y hy).kp s, h4⟩
  · exact .inr ⟨e, .inl h⟩
  · exact .inr ⟨e, .inr (.inl ⟨a, xs, h, n, s _ _ n (fun _ _ _ z => by cases z) (fun _ z => by cases z) h1⟩)⟩
  · exact .inr ⟨e, .inr (.inr (h.kp s))⟩
theorem RowT.ty {K : PySem.W.Frag} {W : Addr} {H : Hp} {v : V} {d : Option (List V)} (h : RowT W H v d) : ∃ t, TyX K H v (.type t) ∧ kitB t "tuple" = some d.isSome := by
  rcases h with ⟨a, ys, rfl, n, h1, h2, h3, rfl⟩ | ⟨rfl, rfl | ⟨a, xs, rfl, n, h1⟩ | h⟩
  · exact ⟨_, .base (.tup h1), (show kitB "tuple" "tuple" = some true by decide +kernel)⟩
  · exact ⟨_, .base .non, (show kitB "NoneType" "tuple" = some false by decide +kernel)⟩
  · exact ⟨_, .base (.lst h1), (show kitB "list" "tuple" = some false by decide +kernel)⟩
  · cases h with
    | int i => exact ⟨_, .base (.int i), (show kitB "int" "tuple" = some false by decide +kernel)⟩
    | str x => exact ⟨_, .base (.str x), (show kitB "str" "tuple" = some false by decide +kernel)⟩
    | dK n h => exact ⟨_, .base (.dK h), (show kitB "dict" "tuple" = some false by decide +kernel)⟩
/-- what may be rows -/
def RowsT (W : Addr) (H : Hp) (v : V) (o : Option (List (Option (List V)))) : Prop := (∃ L xs ds, v = .ref L ∧ L ≠ W ∧ H L = some (.lst xs) ∧ Paired (RowT W H) xs ds ∧ xs.length ≤ 20 ∧ o = some ds) ∨ (o = none ∧ ((∃ a xs, v = .ref a ∧ a ≠ W ∧ H a = some (.tup xs)) ∨ Ob W H v))
theorem RowsT.kp {W : Addr} {H H' : Hp} {v : V} {o : Option (List (Option (List V)))} (h : RowsT W H v o) (s : Kp W H H') : RowsT W H' v o := by
  rcases h with ⟨L, xs, ds, e, n, h1, h2, h3, h4⟩ | ⟨e, ⟨a, xs, h, n, h1⟩ | h⟩
  · exact .inl ⟨L, xs, ds, e, n, s _ _ n (fun _ _ _ z => by cases z) (fun _ z => by cases z) h1, Paired.mapP h2 fun a d e => e.kp s, h3, h4⟩
  · exact .inr ⟨e, .inl ⟨a, xs, h, n, s _ _ n (fun _ _ _ z => by cases z) (fun _ z => by cases z) h1⟩⟩
  · exact .inr ⟨e, .inr (h.kp s)⟩
theorem RowsT.ty {K : PySem.W.Frag} {W : Addr} {H : Hp} {v : V} {o : Option (List (Option (List V)))} (h : RowsT W H v o) : v ≠ .non ∧ ∃ t, TyX K H v (.type t) ∧ kitB t "list" = some o.isSome := by
  rcases h with ⟨L, xs, ds, rfl, n, h1, h2, h3, rfl⟩ | ⟨rfl, ⟨a, xs, rfl, n, h1⟩ | h⟩
  · exact ⟨(fun z => by cases z), _, .base (.lst h1), (show kitB "list" "list" = some true by decide +kernel)⟩
  · exact ⟨(fun z => by cases z), _, .base (.tup h1), (show kitB "tuple" "list" = some false by decide +kernel)⟩
  · cases h with
    | int i => exact ⟨(fun z => by cases z), _, .base (.int i), (show kitB "int" "list" = some false by decide +kernel)⟩
    | str x => exact ⟨(fun z => by cases z), _, .base (.str x), (show kitB "str" "list" = some false by decide +kernel)⟩
    | dK n h => exact ⟨(fun z => by cases z), _, .base (.dK h), (show kitB "dict" "list" = some false by decide +kernel)⟩
/-- what a name is -/
def okc (c : Nat) : Bool := !decide ([c] < (Str.ofString "a").cps.toList) && !decide ((Str.ofString "z").cps.toList < [c])
theorem okc_iff (c : Nat) : okc c = true ↔ 97 ≤ c ∧ c ≤ 122 := by
  unfold okc
  rw [str_a, str_z, S_cps, S_cps, Bool.and_eq_true, Bool.not_eq_true', Bool.not_eq_true', decide_eq_false_iff_not, decide_eq_false_iff_not, lt_sign, lt_sign]
  omega
def nameB (x : Str) : Bool := decide (1 ≤ x.length) && (decide (x.length ≤ 8) && x.cps.toList.all okc)
theorem nameB_iff (x : Str) : nameB x = true ↔ TM.NameOk x := by
  unfold nameB TM.NameOk
  rw [Bool.and_eq_true, Bool.and_eq_true, decide_eq_true_iff, decide_eq_true_iff, List.all_eq_true]
  constructor
  · rintro ⟨h1, h2, h3⟩
    exact ⟨h1, h2, fun c hc => (okc_iff c).mp (h3 c hc)⟩
  · rintro ⟨h1, h2, h3⟩
    exact ⟨h1, h2, fun c hc => (okc_iff c).mpr (h3 c hc)⟩
def isNm : V → Bool
  | .str x => nameB x
  | _ => false
def colsV (xs : List V) : Bool := decide (xs.length ≤ 8) && (xs.all isNm && decide xs.Nodup)
/-- what may be columns; whether it is -/
def ColsT (W : Addr) (H : Hp) (v : V) (b : Bool) : Prop := (∃ L xs, v = .ref L ∧ L ≠ W ∧ H L = some (.lst xs) ∧ (∀ x ∈ xs, Lf W H x) ∧ b = colsV xs) ∨ (b = false ∧ (v = .non ∨ (∃ a xs, v = .ref a ∧ a ≠ W ∧ H a = some (.tup xs)) ∨ Ob W H v))
theorem ColsT.kp {W : Addr} {H H' : Hp} {v : V} {b : Bool} (h : ColsT W H v b) (s : Kp W H H') : ColsT W H' v b := by
  rcases h with ⟨L, xs, e, n, h1, h3, h4⟩ | ⟨e, h | ⟨a, xs, h, n, h1⟩ | h⟩
  · exact .inl ⟨L, xs, e, n, s _ _ n (fun _ _ _ z => by cases z) (fun _ z => by cases z) h1, fun x hx => (h3 x hx).kp s, h4⟩
  · exact .inr ⟨e, .inl h⟩
  · exact .inr ⟨e, .inr (.inl ⟨a, xs, h, n, s _ _ n (fun _ _ _ z => by cases z) (fun _ z => by cases z) h1⟩)⟩
  · exact .inr ⟨e, .inr (.inr (h.kp s))⟩
theorem all_names {xs : List V} (k : xs.all isNm = true) : ∃ ns : List Str, xs = ns.map V.str ∧ ∀ n ∈ ns, TM.NameOk n := by
  induction xs with
  | nil => exact ⟨[], rfl, fun _ h => nomatch h⟩
  | cons x xs ih =>
    rw [List.all_cons, Bool.and_eq_true] at k
    obtain ⟨ns, e, ok⟩ := ih k.2
    cases x with
    | str s => exact ⟨s :: ns, by rw [List.map_cons, e], fun n hn => (List.mem_cons.mp hn).elim (fun e => e ▸ (nameB_iff s).mp k.1) (ok n)⟩
    | _ => cases k.1
theorem nd_strs {ns : List Str} : (ns.map V.str).Nodup ↔ ns.Nodup := by
  constructor
  · intro h
    exact List.Pairwise.of_map V.str (fun a b hab e => hab (by rw [e])) h
  · intro h
    refine List.pairwise_map.mpr (h.imp fun {a b} hab e => hab (V.str.inj e))
/-! ### rows -/
def okRow (wide : Nat) : Option (List V) → Bool
  | some ys => decide (ys.length = wide) && ys.all wholeV
  | none => false
/-- the first that is no row -/
def firstB (wide : Nat) : List (Option (List V)) → Option Nat
  | [] => none
  | d :: ds => if okRow wide d then (firstB wide ds).map (· + 1) else some 0
def dueR (wide : Nat) : Option (List (Option (List V))) → Option Nat
  | none => some 0
  | some ds => firstB wide ds
theorem firstB_at {wide : Nat} : ∀ {ds : List (Option (List V))} {i : Nat} {d : Option (List V)}, (∀ d' ∈ ds.take i, okRow wide d' = true) → ds[i]? = some d → okRow wide d = false → firstB wide ds = some i := by
  intro ds
  induction ds with
  | nil => intro i d _ h; simp at h
  | cons c ds ih =>
    intro i d ha hd hb
    cases i with
    | zero =>
      have : c = d := by simpa using hd
      subst this
      unfold firstB
      rw [hb]
      rfl
    | succ i =>
      have hc : okRow wide c = true := ha c (by rw [List.take_succ_cons]; exact List.mem_cons_self)
      unfold firstB
      rw [hc, if_pos rfl, ih (fun d' hd' => ha d' (by rw [List.take_succ_cons]; exact List.mem_cons_of_mem _ hd')) (by simpa using hd) hb]
      rfl
theorem firstB_none {wide : Nat} : ∀ {ds : List (Option (List V))}, (∀ d ∈ ds, okRow wide d = true) → firstB wide ds = none := by
  intro ds
  induction ds with
  | nil => intro _; rfl
  | cons c ds ih =>
    intro ha
    unfold firstB
    rw [ha c List.mem_cons_self, if_pos rfl, ih fun d hd => ha d (List.mem_cons_of_mem _ hd)]
    rfl
theorem whole_vals {ys : List V} (h : ys.all wholeV = true) : ∃ r : List Int, ys = r.map V.int := by
  induction ys with
  | nil => exact ⟨[], rfl⟩
  | cons y ys ih =>
    rw [List.all_cons, Bool.and_eq_true] at h
    obtain ⟨r, e⟩ := ih h.2
    cases y with
    | int i => exact ⟨i :: r, by rw [List.map_cons, e]⟩
    | _ => cases h.1
/-- rows that are all right, as they stand -/
theorem rows_of {W : Addr} {H : Hp} {wide : Nat} {xs : List V} {ds : List (Option (List V))} (h : Paired (RowT W H) xs ds) (ok : ∀ d ∈ ds, okRow wide d = true) : ∃ (as : List Addr) (rs : List (List Int)), xs = as.map V.ref ∧ RowsAt H as rs ∧ (∀ r ∈ rs, r.length = wide) ∧ rs.length = xs.length := by
  induction h with
  | nil => exact ⟨[], [], rfl, .nil, (fun _ h => nomatch h), rfl⟩
  | cons x _ ih =>
    obtain ⟨as, rs, e, h1, h2, h3⟩ := ih fun d hd => ok d (List.mem_cons_of_mem _ hd)
    have k := ok _ List.mem_cons_self
    rcases x with ⟨a, ys, rfl, n, e1, _, _, rfl⟩ | ⟨rfl, _⟩
    · unfold okRow at k
      rw [Bool.and_eq_true, decide_eq_true_iff] at k
      obtain ⟨r, rfl⟩ := whole_vals k.2
      refine ⟨a :: as, r :: rs, by rw [List.map_cons, e], .cons e1 h1, fun q hq => ?_, by rw [List.length_cons, List.length_cons, h3]⟩
      rcases List.mem_cons.mp hq with e | hq
      · rw [e]
        simpa using k.1
      · exact h2 q hq
    · cases k
def optI : Option Nat → V
  | none => .non
  | some k => .int k
end T89

set_option maxHeartbeats 2000000
namespace T89
open PySem L2 PyProof.Rows TX TY TW TD TB TG TUD TE TK
section
variable {P : Program} {w : World} {K : PySem.W.Frag} {mg : Str → Option Value} {base : Heap}
theorem sml {n : Nat} (h : n ≤ 1000000) : n ≤ sizeLine := Nat.le_trans h (by decide)
/-- the constants of the module -/
structure Cn (mg : Str → Option Value) : Prop where
  longest : ∃ t, mg "LONGEST_NAME" = some (.int 8 t)
  most : ∃ t, mg "MOST_COLUMNS" = some (.int 8 t)
theorem sc_is_name : FnScope ["thing", "sign"] ["thing"] (defScope s_is_name) := ⟨rfl, rfl, rfl, by decide +kernel, rfl, by decide +kernel, by decide +kernel⟩
def sp_is_name : Sp := fun vs H Q _ => ∃ (W : Addr) (v : V), vs = [v] ∧ Lf W H v ∧ ∀ H', Same H H' → Q (.bl (isNm v)) H'
theorem ok_is_name {f : Addr} {fd : FuncData} (F : Fn K mg "is_name" s_is_name ["thing"] f fd) (B : Bn mg) (C : Cn mg) : FnOk P w K mg base CX0 1 f fd ["thing"] sp_is_name := by
  refine F.F.ok sc_is_name (fun vs H Q E h => ?_) (fun cdv A outer s H vs Q E hr h => ?_)
  · obtain ⟨W, x, rfl, _⟩ := h
    rfl
  · obtain ⟨W, v, rfl, hv, q⟩ := h
    have hu := hu_of hr
    obtain ⟨tl, hlg⟩ := C.longest
    refine ⟨_, pss_cons (ps_if (PW.pt (pw_or (pt_not (pt_val (pe_callB call_isi (by rfl) B.isi boot_isinstance (pa_cons (pv 0) (pa_cons (pe_bltn (v := .ty "str") (by rfl) B.str boot_str rfl) pa_nil)))))
        (pw_or1 (pt_not (pt_chain op_le op_le pe_int (pe_callB call_len_str (by rfl) B.len PySem.boot_len (pa_cons (pv 0) pa_nil)) (pe_glob (v := .int 8) (by rfl) hlg ⟨_, rfl⟩)))))) (pss_one (ps_ret pe_bl)) pss_nil)
      (pss_one (ps_ret (pe_callB (cr_all rfl) (by rfl) B.all boot_all (pa_cons (pe_lc (own := [("sign", 1)]) (g := gName 1) (tt := tYes) rfl sc_is_name.nd (pi_str (pv 0)) (blkOk_by (N := ["thing", "sign"]) (sc := defScope s_is_name) (by decide +kernel))
          (fun _ _ _ _ _ => pg_name (i := 1) sc_is_name.nd rfl (Or.inl rfl)) (fun _ _ _ _ _ => pts_nil)
          (fun _ _ _ _ _ => pe_chain op_le_str op_le_str pe_str (pv 1) pe_str)) pa_nil)))), ?_⟩
    obtain ⟨t, ty, hk, _, _⟩ := hv.ty (K := K)
    refine ⟨_, rfl, _, _, _, _, isS v, rfl, .ty _, ty, kit_ty hk, _, rfl, ?_⟩
    have q0 := q H same_rfl
    cases hv with
    | str x hx =>
      have e0 : isNm (.str x) = nameB x := rfl
      rw [e0] at q0
      have q' : ∀ H', Same H H' → Q (.bl (nameB x)) H' := q
      clear q
      by_cases h1 : 1 ≤ x.length
      · by_cases h2 : x.length ≤ 8
        · refine ⟨_, rfl, x, rfl, sml (by omega), _, _, rfl, rfl, true, ?_, _, _, rfl, rfl, true, ?_, ?_⟩
          · exact congrArg V.bl (decide_eq_true (show (1 : Int) ≤ (x.length : Int) by omega))
          · exact congrArg V.bl (decide_eq_true (show (x.length : Int) ≤ 8 by omega))
          refine ⟨_, rfl, x, rfl, fun L nL => ?_⟩
          refine lc_it walk_str (fun i H' => H' L = some (.lst (((x.cps.toList.take i).map okc).map V.bl)) ∧ Same H H') ⟨upd_same, Same.new nL⟩ (fun _ _ _ _ => trivial) ?_ ?_
          · rintro i v H1 H1' hi ⟨e1, s1⟩ ⟨rfl, c, hc, rfl⟩
            refine ⟨rfl, ?_⟩
            have hc' : x.cps.toList[i]? = some c := by rw [Array.getElem?_toList]; exact hc
            have key : ∀ b : Bool, okc c = b → ∃ xs, H1' L = some (.lst xs) ∧ xs.length < sizeLine ∧ (upd H1' L (.lst (xs ++ [V.bl b])) L = some (.lst (((x.cps.toList.take (i + 1)).map okc).map V.bl)) ∧ Same H (upd H1' L (.lst (xs ++ [V.bl b])))) := by
              intro b hb
              refine ⟨_, e1, ?_, ?_, Same.mut s1 nL⟩
              · rw [List.length_map, List.length_map, List.length_take]
                have : x.cps.toList.length ≤ 8 := by rw [Array.length_toList]; exact h2
                exact line100' (by omega)
              · rw [upd_same, List.take_add_one, hc', List.map_append, List.map_append, ← hb]
                rfl
            refine ⟨_, rfl, _, _, rfl, rfl, !decide ([c] < (Str.ofString "a").cps.toList), rfl, ?_⟩
            cases ha : !decide ([c] < (Str.ofString "a").cps.toList) with
            | true =>
              refine ⟨_, _, rfl, rfl, ?_⟩
              exact key _ (by unfold okc; rw [ha, Bool.true_and])
            | false => exact key false (by unfold okc; rw [ha, Bool.false_and])
          · rintro H1 ⟨e1, s1⟩
            rw [show x.cps.size = x.cps.toList.length by rw [Array.length_toList], List.take_length] at e1
            refine ⟨L, x.cps.toList.map okc, rfl, .of e1, ?_⟩
            have e2 : (x.cps.toList.map okc).all id = nameB x := by
              unfold nameB
              rw [decide_eq_true h1, decide_eq_true h2, Bool.true_and, Bool.true_and, List.all_map]
              rfl
            rw [e2]
            exact q' _ s1
        · have e1 : nameB x = false := by unfold nameB; rw [decide_eq_false h2, Bool.false_and, Bool.and_false]
          rw [e1] at q0
          refine ⟨_, rfl, x, rfl, sml (by omega), _, _, rfl, rfl, true, ?_, _, _, rfl, rfl, false, ?_, ?_⟩
          · exact congrArg V.bl (decide_eq_true (show (1 : Int) ≤ (x.length : Int) by omega))
          · exact congrArg V.bl (decide_eq_false (show ¬ (x.length : Int) ≤ 8 by omega))
          exact q0
      · have e1 : nameB x = false := by unfold nameB; rw [decide_eq_false h1, Bool.false_and]
        rw [e1] at q0
        refine ⟨_, rfl, x, rfl, sml (by omega), _, _, rfl, rfl, false, ?_, false, rfl, ?_⟩
        · exact congrArg V.bl (decide_eq_false (show ¬ (1 : Int) ≤ (x.length : Int) by omega))
        exact q0
    | _ => exact q0
/-- the defs of the program that are called -/
structure Kt (K : PySem.W.Frag) (mg : Str → Option Value) (fW fN fA fR fK fS : Addr) (dW dN dA dR dK dS : FuncData) : Prop where
  B : Bn mg
  C : Cn mg
  set : mg "set" = none
  bool : mg "bool" = none
  whole : Fn K mg "is_whole" s_is_whole ["thing"] fW dW
  isn : Fn K mg "is_name" s_is_name ["thing"] fN dN
  are : Fn K mg "are_columns" s_are ["thing"] fA dA
  row : Fn K mg "is_row" s_is_row ["thing", "many"] fR dR
  chk : Fn K mg "_check_columns" s_cc ["columns"] fK dK
  srt : Fn K mg "_sorted_rows" s_sorted ["rows", "many"] fS dS
variable {fW fN fA fR fK fS : Addr} {dW dN dA dR dK dS : FuncData}
theorem sc_is_whole : FnScope ["thing"] ["thing"] (defScope s_is_whole) := ⟨rfl, rfl, rfl, by decide +kernel, rfl, by decide +kernel, by decide +kernel⟩
def sp_is_whole : Sp := fun vs H Q _ => ∃ (W : Addr) (v : V), vs = [v] ∧ Lf W H v ∧ Q (.bl (wholeV v)) H
theorem ok_is_whole (T : Kt K mg fW fN fA fR fK fS dW dN dA dR dK dS) : FnOk P w K mg base CX0 1 fW dW ["thing"] sp_is_whole := by
  have B := T.B
  refine T.whole.F.ok sc_is_whole (fun vs H Q E h => ?_) (fun cdv A outer s H vs Q E hr h => ?_)
  · obtain ⟨W, v, rfl, _⟩ := h
    rfl
  · obtain ⟨W, v, rfl, hv, q⟩ := h
    refine ⟨_, pss_one (ps_ret (pe_and (pe_callB call_isi (by rfl) B.isi boot_isinstance (pa_cons (pv 0) (pa_cons (pe_bltn (v := .ty "int") (by rfl) B.int boot_int rfl) pa_nil)))
      (pe_one (pe_not (pe_callB call_isi (by rfl) B.isi boot_isinstance (pa_cons (pv 0) (pa_cons (pe_bltn (v := .ty "bool") (by rfl) T.bool boot_bool rfl) pa_nil))))))), ?_⟩
    obtain ⟨t, h1, _, h2, h3⟩ := hv.ty (K := K)
    refine ⟨_, rfl, _, _, _, _, _, rfl, .ty _, h1, kit_ty h2, _, rfl, ?_⟩
    rw [whole_num] at q
    cases hn : numV v with
    | false =>
      rw [hn] at q
      exact q
    | true =>
      rw [hn] at q
      refine ⟨_, rfl, _, _, _, _, _, rfl, .ty _, h1, kit_ty h3, _, rfl, ?_⟩
      simpa using q
theorem sc_is_row : FnScope ["thing", "many", "value"] ["thing", "many"] (defScope s_is_row) := ⟨rfl, rfl, rfl, by decide +kernel, rfl, by decide +kernel, by decide +kernel⟩
def sp_is_row : Sp := fun vs H Q _ => ∃ (W : Addr) (v : V) (d : Option (List V)) (many : Nat), vs = [v, .int many] ∧ RowT W H v d ∧ ∀ H', Same H H' → Q (.bl (okRow many d)) H'
theorem ok_is_row (T : Kt K mg fW fN fA fR fK fS dW dN dA dR dK dS) : FnOk P w K mg base CX0 2 fR dR ["thing", "many"] sp_is_row := by
  have B := T.B
  have GW : FnOk P w K mg base CX0 1 fW dW ["thing"] sp_is_whole := ok_is_whole T
  refine T.row.F.ok sc_is_row (fun vs H Q E h => ?_) (fun cdv A outer s H vs Q E hr h => ?_)
  · obtain ⟨W, v, d, many, rfl, _⟩ := h
    rfl
  · obtain ⟨W, v, d, many, rfl, hd, q⟩ := h
    have nd := sc_is_row.nd
    refine ⟨_, pss_cons (ps_if (PW.pt (pw_or (pt_not (pt_val (pe_callB call_isi (by rfl) B.isi boot_isinstance (pa_cons (pv 0) (pa_cons (pe_bltn (v := .ty "tuple") (by rfl) B.tuple boot_tuple rfl) pa_nil)))))
        (pw_or1 (pt_cmpR op_ne (pe_callB call_len_seq (by rfl) B.len PySem.boot_len (pa_cons (pv 0) pa_nil)) (pv 1) (nomark _))))) (pss_one (ps_ret pe_bl)) pss_nil)
      (pss_one (ps_ret (pe_callB (cr_all rfl) (by rfl) B.all boot_all (pa_cons (pe_lc (own := [("value", 2)]) (g := gName 2) (tt := tYes) (te := tCall sp_is_whole [] E0 (tCons (tVar 2) tNil)) rfl nd (pi_tup (pv 0)) (blkOk_by (N := ["thing", "many", "value"]) (sc := defScope s_is_row) (by decide +kernel))
          (fun _ _ _ _ _ => pg_name (i := 2) nd rfl (Or.inl rfl)) (fun _ _ _ _ _ => pts_nil)
          (fun _ _ _ _ _ => pe_call GW hr rfl T.whole.g T.whole.F.kp T.whole.b .nil pass0 (pa_cons (pv 2) pa_nil))) pa_nil)))), ?_⟩
    obtain ⟨t, h1, h2⟩ := hd.ty (K := K)
    refine ⟨_, rfl, _, _, _, _, _, rfl, .ty _, h1, kit_ty h2, _, rfl, ?_⟩
    rcases hd with ⟨a, ys, rfl, n, ha, hl, hy, rfl⟩ | ⟨rfl, _⟩
    · refine ⟨_, rfl, a, _, rfl, .inr (.of ha), _, rfl, rfl, _, rfl, ?_⟩
      by_cases hlen : ys.length = many
      · rw [decide_eq_true (show V.int (ys.length : Int) = V.int (many : Int) by rw [hlen])]
        refine ⟨_, rfl, a, rfl, ⟨_, .of ha⟩, fun L nL => ?_⟩
        refine lc_it (walk_tup (xs := ys)) (fun i h => h L = some (.lst (((ys.take i).map wholeV).map V.bl)) ∧ Same H h)
          ⟨upd_same, Same.new nL⟩ (fun i h _ ⟨_, s⟩ => .of (s _ _ ha)) ?_ ?_
        · rintro i x h h' hi ⟨e4, s4⟩ ⟨rfl, hx⟩
          refine ⟨rfl, ?_⟩
          refine ⟨_, rfl, W, _, rfl, (hy x (List.mem_of_getElem? hx)).kp (.of s4), ?_⟩
          refine ⟨_, e4, ?_, ?_, Same.mut s4 nL⟩
          · rw [List.length_map, List.length_map, List.length_take]
            exact line100' (by omega)
          · rw [upd_same, List.take_add_one, hx, List.map_append, List.map_append]
            rfl
        · rintro h ⟨e4, s4⟩
          rw [List.take_length] at e4
          refine ⟨L, ys.map wholeV, rfl, .of e4, ?_⟩
          have e : (ys.map wholeV).all id = okRow many (some ys) := by
            show _ = (decide (ys.length = many) && ys.all wholeV)
            rw [decide_eq_true hlen, Bool.true_and, List.all_map]
            rfl
          rw [e]
          exact q h s4
      · rw [decide_eq_false (show ¬ V.int (ys.length : Int) = V.int (many : Int) by intro z; injection z with z; omega)]
        have e : okRow many (some ys) = false := by
          show (decide (ys.length = many) && ys.all wholeV) = false
          rw [decide_eq_false hlen, Bool.false_and]
        have q' := q H same_rfl
        rw [e] at q'
        exact q'
    · exact q H same_rfl
theorem sc_are : FnScope ["thing", "name"] ["thing"] (defScope s_are) := ⟨rfl, rfl, rfl, by decide +kernel, rfl, by decide +kernel, by decide +kernel⟩
theorem ColsT.ty {K : PySem.W.Frag} {W : Addr} {H : Hp} {v : V} {b : Bool} (h : ColsT W H v b) : (∃ L xs, v = .ref L ∧ L ≠ W ∧ H L = some (.lst xs) ∧ (∀ x ∈ xs, Lf W H x) ∧ b = colsV xs) ∨ (b = false ∧ ∃ t, TyX K H v (.type t) ∧ kitB t "list" = some false) := by
  rcases h with h | ⟨rfl, rfl | ⟨a, xs, rfl, n, h1⟩ | h⟩
  · exact .inl h
  · exact .inr ⟨rfl, _, .base .non, (show kitB "NoneType" "list" = some false by decide +kernel)⟩
  · exact .inr ⟨rfl, _, .base (.tup h1), (show kitB "tuple" "list" = some false by decide +kernel)⟩
  · cases h with
    | int i => exact .inr ⟨rfl, _, .base (.int i), (show kitB "int" "list" = some false by decide +kernel)⟩
    | str x => exact .inr ⟨rfl, _, .base (.str x), (show kitB "str" "list" = some false by decide +kernel)⟩
    | dK n h => exact .inr ⟨rfl, _, .base (.dK h), (show kitB "dict" "list" = some false by decide +kernel)⟩
def sp_are : Sp := fun vs H Q _ => ∃ (W : Addr) (v : V) (b : Bool), vs = [v] ∧ ColsT W H v b ∧ ∀ H', Same H H' → Q (.bl b) H'
theorem ok_are (T : Kt K mg fW fN fA fR fK fS dW dN dA dR dK dS) : FnOk P w K mg base CX0 2 fA dA ["thing"] sp_are := by
  have B := T.B
  have GN : FnOk P w K mg base CX0 1 fN dN ["thing"] sp_is_name := ok_is_name T.isn B T.C
  refine T.are.F.ok sc_are (fun vs H Q E h => ?_) (fun cdv A outer s H vs Q E hr h => ?_)
  · obtain ⟨W, v, b, rfl, _⟩ := h
    rfl
  · obtain ⟨W, v, b, rfl, hv, q⟩ := h
    obtain ⟨tl, hmo⟩ := T.C.most
    refine ⟨_, pss_cons (ps_if (PW.pt (pw_or (pt_not (pt_val (pe_callB call_isi (by rfl) B.isi boot_isinstance (pa_cons (pv 0) (pa_cons (pe_bltn (v := .ty "list") (by rfl) B.list boot_list rfl) pa_nil)))))
        (pw_or1 (pt_cmpR op_gt (pe_callB call_len_seq (by rfl) B.len PySem.boot_len (pa_cons (pv 0) pa_nil)) (pe_glob (v := .int 8) (by rfl) hmo ⟨_, rfl⟩) (nomark _))))) (pss_one (ps_ret pe_bl)) pss_nil)
      (pss_one (ps_ret (pe_and (pe_callB (cr_all rfl) (by rfl) B.all boot_all (pa_cons (pe_lc (own := [("name", 1)]) (g := gName 1) (tt := tYes) (te := tCall sp_is_name [] E0 (tCons (tVar 1) tNil)) rfl sc_are.nd (pi_list (pv 0))
            (blkOk_by (N := ["thing", "name"]) (sc := defScope s_are) (by decide +kernel)) (fun _ _ _ _ _ => pg_name (i := 1) sc_are.nd rfl (Or.inl rfl)) (fun _ _ _ _ _ => pts_nil)
            (fun _ _ _ _ _ => pe_call GN hr rfl T.isn.g T.isn.F.kp T.isn.b .nil pass0 (pa_cons (pv 1) pa_nil))) pa_nil))
        (pe_one (pe_cmpR op_eq (pe_lenD rfl (by rfl) B.len (by rfl) T.set (pv 0)) (pe_callB call_len_seq (by rfl) B.len PySem.boot_len (pa_cons (pv 0) pa_nil)) (nomark _)))))), ?_⟩
    rcases hv.ty (K := K) with ⟨L, xs, rfl, n, hL, hxs, hb⟩ | ⟨rfl, t, h1, h2⟩
    · refine ⟨_, rfl, _, _, _, _, true, rfl, .ty _, .base (.lst hL), kit_ty (by decide +kernel), _, rfl, ?_⟩
      refine ⟨_, rfl, L, _, rfl, .inl (.of hL), _, _, rfl, rfl, _, rfl, ite2 (fun hf => ?_) (fun hf => ?_)⟩
      · have := of_decide_eq_true hf
        have hb' : b = false := by
          rw [hb]
          unfold colsV
          rw [decide_eq_false (by omega)]
          rfl
        exact hb' ▸ q H same_rfl
      have h8 : xs.length ≤ 8 := by
        have : ¬ (8 : Int) < (xs.length : Int) := fun z => hf (decide_eq_true z)
        omega
      dsimp only [tNext, tRet, tAndV, tCB, tCons, List.map]
      refine lc_all (K := K) (s := [some (.ref L), none]) (ti := tVar 0) (i := 1) (tt := tYes) (te := tCall sp_is_name [] E0 (tCons (tVar 1) tNil)) (l := L) (xs := xs) (g := fun v => V.bl (isNm v)) (p := fun _ => true) ⟨_, rfl, rfl, same_rfl⟩ mono_var (.of hL) (by omega) (fun v hv h5 s5 => et_yes) ?_ ?_
      · intro v hv _ h8 s8 h9 s9 Q6 q6
        exact ⟨_, rfl, W, v, rfl, (hxs v hv).kp (.of (s8.trans s9)), fun h10 s10 => q6 h10 s10⟩
      · intro La h8' s8 nLa eLa
        refine ⟨La, xs.map isNm, rfl, .of (by rw [eLa, filter_yes, List.map_map]; rfl), ?_⟩
        have eall : (xs.map isNm).all id = xs.all isNm := by rw [List.all_map]; rfl
        rw [eall]
        refine ⟨_, rfl, ?_⟩
        cases ha : xs.all isNm with
        | false =>
          have hb' : b = false := by
            rw [hb]
            unfold colsV
            rw [ha]
            simp
          rw [if_neg Bool.false_ne_true]
          exact hb' ▸ q h8' s8
        | true =>
          rw [if_pos rfl]
          obtain ⟨ns, rfl, ok⟩ := all_names ha
          rw [List.length_map] at h8
          refine ⟨_, rfl, L, ns, rfl, .of (s8 _ _ hL), by omega, _, rfl, L, _, rfl, .inl (.of (s8 _ _ hL)), rfl, ?_⟩
          have e : decide (V.int (unl ns : Int) = V.int ((ns.map V.str).length : Int)) = b := by
            rw [hb]
            unfold colsV
            rw [ha, List.length_map, decide_eq_true h8, Bool.true_and, Bool.true_and]
            refine decide_eq_decide.mpr ?_
            rw [nd_strs, ← unl_eq]
            constructor
            · intro z
              injection z with z
              omega
            · intro z
              rw [z]
          rw [e]
          exact q h8' s8
    · exact ⟨_, rfl, _, _, _, _, false, rfl, .ty _, h1, kit_ty h2, _, rfl, q H same_rfl⟩
theorem sc_cc : FnScope ["columns"] ["columns"] (defScope s_cc) := ⟨rfl, rfl, rfl, by decide +kernel, rfl, by decide +kernel, by decide +kernel⟩
end
end T89

set_option maxHeartbeats 2000000
namespace T89
open PySem L2 PyProof.Rows TX TY TW TD TB TG TUD TE TK
def rTu (K : PySem.W.Frag) : List V → Hp → VK → Prop := fun xs H Q => ∃ p ys, xs = [.ref p] ∧ ((SqL K H p ys ∧ ∀ l, H l = none → Q (.ref l) (upd H l (.tup ys))) ∨ (SqT K H p ys ∧ Q (.ref p) H))
theorem call_tu {X : Cx} : CallR X (.type "tuple") (rTu X.K) := call_tuple_of
section
variable {P : Program} {w : World} {K : PySem.W.Frag} {mg : Str → Option Value} {base : Heap}
variable {fW fN fA fR fK fS : Addr} {dW dN dA dR dK dS : FuncData}
/-- columns and rows that are right, as the general words see them -/
theorem cols_ok {ns : List Str} (h : Cs ns) : colsV (ns.map V.str) = true := by
  unfold colsV
  rw [decide_eq_true (show (ns.map V.str).length ≤ 8 by rw [List.length_map]; exact h.le), decide_eq_true (nd_strs.mpr h.nd)]
  have : (ns.map V.str).all isNm = true := by
    rw [List.all_eq_true]
    intro v hv
    obtain ⟨n, hn, rfl⟩ := List.mem_map.mp hv
    exact (nameB_iff n).mpr (h.ok n hn)
  rw [this]
  rfl
theorem colsT_ok {H : Hp} {L : Addr} {ns : List Str} (h : Cs ns) (e : H L = some (.lst (ns.map V.str))) : ColsT (L + 1) H (.ref L) true :=
  .inl ⟨L, _, rfl, Nat.ne_of_lt (Nat.lt_succ_self L), e, fun v hv => by obtain ⟨n, hn, rfl⟩ := List.mem_map.mp hv; exact .str n (by have := (h.ok n hn).2.1; omega), (cols_ok h).symm⟩
theorem rowT_int {H : Hp} {a : Addr} {r : List Int} (h : H a = some (.tup (r.map V.int))) (hl : r.length ≤ 20) : RowT (a + 1) H (.ref a) (some (r.map V.int)) :=
  .inl ⟨a, _, rfl, Nat.ne_of_lt (Nat.lt_succ_self a), h, by rw [List.length_map]; exact hl, fun y hy => by obtain ⟨n, hn, rfl⟩ := List.mem_map.mp hy; exact .int n, rfl⟩
theorem okRow_int {n : Nat} {r : List Int} (h : r.length = n) : okRow n (some (r.map V.int)) = true := by
  show (decide ((r.map V.int).length = n) && (r.map V.int).all wholeV) = true
  rw [List.length_map, decide_eq_true h, Bool.true_and]
  exact whole_ints r
theorem sc_cc' : FnScope ["columns"] ["columns"] (defScope s_cc) := sc_cc
def sp_ccV : Sp := fun vs H Q _ => ∃ (L : Addr) (cs : List Str), vs = [.ref L] ∧ H L = some (.lst (cs.map V.str)) ∧ Cs cs ∧ ∀ H', Same H H' → Q .non H'
theorem ok_ccV (T : Kt K mg fW fN fA fR fK fS dW dN dA dR dK dS) : FnOk P w K mg base CX0 3 fK dK ["columns"] sp_ccV := by
  have GA : FnOk P w K mg base CX0 2 fA dA ["thing"] sp_are := ok_are T
  refine T.chk.F.ok sc_cc (fun vs H Q E h => ?_) (fun cdv A outer s H vs Q E hr h => ?_)
  · obtain ⟨L, cs, rfl, _⟩ := h
    rfl
  · obtain ⟨L, cs, rfl, hL, hc, q⟩ := h
    refine ⟨_, pss_one (ps_if (pt_not (pt_val (pe_call GA hr rfl T.are.g T.are.F.kp T.are.b .nil pass0 (pa_cons (pv 0) pa_nil)))) (pss_one ps_never) pss_nil), ?_⟩
    exact ⟨_, rfl, L + 1, _, true, rfl, colsT_ok hc hL, fun H1 s1 => ⟨true, rfl, q H1 s1⟩⟩
/-- rows, or nothing -/
def RowsV (H : Hp) (v : V) (as : List Addr) (rs : List (List Int)) : Prop := (v = .non ∧ as = [] ∧ rs = []) ∨ ∃ L, v = .ref L ∧ H L = some (.lst (as.map V.ref)) ∧ RowsAt H as rs
/-- rows that may be handed in -/
structure Rs (n : Nat) (rs : List (List Int)) : Prop where
  len : ∀ r ∈ rs, r.length = n
  few : rs.length ≤ 60
theorem sc_sorted : FnScope ["rows", "many", "at", "row"] ["rows", "many"] (defScope s_sorted) := ⟨rfl, rfl, rfl, by decide +kernel, rfl, by decide +kernel, by decide +kernel⟩
def sp_sorted : Sp := fun vs H Q _ => ∃ (v : V) (as : List Addr) (rs : List (List Int)) (many : Nat), vs = [v, .int many] ∧ RowsV H v as rs ∧ (∀ r ∈ rs, r.length = many) ∧ many ≤ 20 ∧ rs.length ≤ 60 ∧
  ∀ H' p as', Same H H' → H p = none → H' p = some (.lst (as'.map V.ref)) → RowsAt H' as' (norm rs) → Q (.ref p) H'
theorem ok_sorted (T : Kt K mg fW fN fA fR fK fS dW dN dA dR dK dS) : FnOk P w K mg base CX0 3 fS dS ["rows", "many"] sp_sorted := by
  have B := T.B
  have GR : FnOk P w K mg base CX0 2 fR dR ["thing", "many"] sp_is_row := ok_is_row T
  refine T.srt.F.ok sc_sorted (fun vs H Q E h => ?_) (fun cdv A outer s H vs Q E hr h => ?_)
  · obtain ⟨v, as, rs, many, rfl, _⟩ := h
    rfl
  · obtain ⟨v, as, rs, many, rfl, hv, hm, hm8, h60, q⟩ := h
    have hu := hu_of hr
    have nd := sc_sorted.nd
    refine ⟨_, pss_cons (ps_if (pt_cmp (pc_isN (pv 0))) (pss_one (ps_ret (pe_lst pa_nil))) pss_nil)
      (pss_cons (ps_if (pt_not (pt_val (pe_callB call_isi (by rfl) B.isi boot_isinstance (pa_cons (pv 0) (pa_cons (pe_bltn (v := .ty "list") (by rfl) B.list boot_list rfl) pa_nil))))) (pss_one ps_never) pss_nil)
      (pss_cons (ps_for PassesOwn.never rfl (pi_enum rfl B.enum (pa_cons (pv 0) pa_nil)) (pg_tup rfl (pgs_cons (pg_name (i := 2) nd rfl (Or.inl rfl)) (pgs_cons (pg_name (i := 3) nd rfl (Or.inl rfl)) pgs_nil)))
        (pss_one (ps_if (pt_not (pt_val (pe_call GR hr rfl T.row.g T.row.F.kp T.row.b .nil pass0 (pa_cons (pv 3) (pa_cons (pv 1) pa_nil))))) (pss_one ps_never) pss_nil)))
      (pss_one (ps_ret (pe_callB (cr_sortedS rfl) (by rfl) B.sorted boot_sorted (pa_cons (pe_scT (own := [("row", 3)]) (g := gName 3) (tt := tYes) (te := tCB (rTu K) (tCons (tVar 3) tNil)) hu rfl nd (pi_list (pv 0)) (blkOk_by (N := ["rows", "many", "at", "row"]) (sc := defScope s_sorted) (by decide +kernel))
          (fun _ _ _ _ _ => pg_name (i := 3) nd rfl (Or.inl rfl)) (fun _ _ _ _ _ => pts_nil) (fun _ _ _ _ _ => pe_callTy call_tu (by rfl) B.tuple boot_tuple (pa_cons (pv 3) pa_nil))) pa_nil)))))), ?_⟩
    rcases hv with ⟨rfl, rfl, rfl⟩ | ⟨L, rfl, hL, hR⟩
    · refine ⟨_, rfl, _, rfl, by show 0 ≤ sizeLine; decide, fun p np => ?_⟩
      exact q _ p [] (Same.new np) np upd_same .nil
    have hal := hR.len
    refine ⟨_, rfl, _, rfl, ?_⟩
    refine ⟨_, rfl, _, _, _, _, true, rfl, .ty _, .base (.lst hL), kit_ty (by decide +kernel), _, rfl, ?_⟩
    refine ⟨_, rfl, L, _, rfl, .of hL, ?_⟩
    refine for_it (walk_enum (xs := as.map V.ref)) (fun i σ h => ∃ v2 v3 : Option V, σ = [some (.ref L), some (.int many), v2, v3] ∧ Same H h)
      ⟨none, none, rfl, same_rfl⟩ (fun i σ h _ ⟨_, _, _, s⟩ => .of (s _ _ hL)) ?_ ?_
    · rintro i x σ h h' hi ⟨v2, v3, rfl, s1⟩ ⟨T', x1, x2, rfl, nT, rfl, hx1, hx2⟩
      rw [List.length_map] at hi
      obtain rfl : V.int (i : Int) = x1 := Option.some.inj hx1
      obtain ⟨a, ha, rfl⟩ : ∃ a, as[i]? = some a ∧ x2 = V.ref a := by
        have h2 : (as.map V.ref)[i]? = some x2 := hx2
        rw [List.getElem?_map, List.getElem?_eq_getElem hi] at h2
        exact ⟨_, List.getElem?_eq_getElem hi, (Option.some.inj h2).symm⟩
      obtain ⟨r, hr', hta⟩ := pr_at hR ha
      have sT : Same H (upd h T' (.tup [.int (i : Int), .ref a])) := s1.trans (Same.new nT)
      refine ⟨T', _, rfl, .of upd_same, rfl, _, _, rfl, _, _, rfl, rfl, ?_⟩
      generalize upd h T' (.tup [.int (i : Int), .ref a]) = h2 at sT ⊢
      refine ⟨_, rfl, _, rfl, a + 1, .ref a, some (r.map V.int), many, rfl, rowT_int (sT _ _ hta) (by rw [hm r (List.mem_of_getElem? hr')]; exact hm8), fun h3 s3 => ⟨_, rfl, ?_⟩⟩
      rw [okRow_int (hm r (List.mem_of_getElem? hr'))]
      exact ⟨_, _, rfl, sT.trans s3⟩
    · rintro σ h0 ⟨v2, v3, rfl, s0⟩
      have hL0 := s0 _ _ hL
      have hR0 := hR.same s0
      refine ⟨_, rfl, L, rfl, ⟨_, .of hL0⟩, fun D nD => ?_⟩
      obtain ⟨zs, hzs⟩ : ∃ zs, zs = as.zip rs := ⟨_, rfl⟩
      have zl : zs.length = as.length := by rw [hzs, List.length_zip]; omega
      have z1 := (zip_fst hal).1
      have z2 := (zip_fst hal).2
      rw [← hzs] at z1 z2
      have zr : ∀ p ∈ zs, h0 p.1 = some (.tup (p.2.map V.int)) := by rw [hzs]; exact pr_zip hR0
      refine sc_walk (K := K) (P := P) (w := w) (walk_list (xs := as.map V.ref)) (fun i h => ∃ Ls : List (Addr × List Int), h D = some (SetTO P w D Ls) ∧ (∀ p ∈ Ls, p ∈ zs.take i) ∧ (∀ p ∈ zs.take i, p.2 ∈ Ls.map (·.2)) ∧ Ls.length ≤ i ∧ Same h0 h)
        ⟨[], upd_same, (fun _ h => nomatch h), (fun _ h => by simp at h), Nat.le_refl _, Same.new nD⟩ (fun i h _ ⟨_, _, _, _, _, s⟩ => .of (s _ _ hL0)) ?_ ?_
      · rintro i x h h' hi ⟨Ls, e1, i1, i2, i3, s1⟩ ⟨rfl, hx⟩
        rw [List.length_map] at hi
        have hz : i < zs.length := by omega
        obtain ⟨pr, hpr⟩ : ∃ pr, zs[i]? = some pr := ⟨_, List.getElem?_eq_getElem hz⟩
        have hmem : pr ∈ zs := List.mem_of_getElem? hpr
        have hxa : x = V.ref pr.1 := by
          have e2 : as[i]? = some pr.1 := by rw [← z1, List.getElem?_map, hpr]; rfl
          rw [List.getElem?_map, e2] at hx
          exact (Option.some.inj hx).symm
        subst hxa
        have htk : zs.take (i + 1) = zs.take i ++ [pr] := by rw [List.take_add_one, hpr]; rfl
        have ea := s1 _ _ (zr pr hmem)
        refine ⟨rfl, ?_⟩
        refine ⟨_, rfl, pr.1, _, rfl, .inr ⟨.of ea, pr.1, pr.2, Ls, rfl, .of ea, e1, fun p hp => .of (s1 _ _ (zr p (List.mem_of_mem_take (i1 p hp)))), by omega, fun L' h1 h2 => ?_⟩⟩
        refine ⟨L', upd_same, ?_⟩
        by_cases hin : pr.2 ∈ Ls.map (·.2)
        · rw [h1 hin]
          refine ⟨fun p hp => by rw [htk]; exact List.mem_append_left _ (i1 p hp), fun p hp => ?_, by omega, Same.mut s1 nD⟩
          rw [htk] at hp
          rcases List.mem_append.mp hp with hp | hp
          · exact i2 p hp
          · rw [List.mem_singleton.mp hp]
            exact hin
        · have pm := h2 hin
          refine ⟨fun p hp => ?_, fun p hp => ?_, by rw [pm.length_eq, List.length_cons]; omega, Same.mut s1 nD⟩
          · rw [htk]
            rcases List.mem_cons.mp (pm.mem_iff.mp hp) with e | hp
            · rw [e]
              exact List.mem_append_right _ (List.mem_singleton.mpr rfl)
            · exact List.mem_append_left _ (i1 p hp)
          · rw [htk] at hp
            refine (pm.map (·.2)).mem_iff.mpr ?_
            rw [List.map_cons]
            rcases List.mem_append.mp hp with hp | hp
            · exact List.mem_cons_of_mem _ (i2 p hp)
            · rw [List.mem_singleton.mp hp]
              exact List.mem_cons_self
      · rintro h ⟨Ls, e1, i1, i2, i3, s1⟩
        rw [List.length_map, ← zl, List.take_length] at i1 i2
        have lsr : ∀ p ∈ Ls, h p.1 = some (.tup (p.2.map V.int)) := fun p hp => s1 _ _ (zr p (i1 p hp))
        have inr : ∀ p ∈ zs, p.2 ∈ rs := fun p hp => z2 ▸ List.mem_map.mpr ⟨p, hp, rfl⟩
        refine ⟨D, Ls, many, rfl, e1, fun p hp => .of (lsr p hp), fun p hp => hm _ (inr p (i1 p hp)), fun L' p pm ndL few pw np => ?_⟩
        have sp : Same h (upd h p (.lst (L'.map fun q => V.ref q.1))) := Same.new np
        refine q _ p (L'.map (·.1)) ((s0.trans s1).trans sp) ((s0.trans s1).free np) ?_ ?_
        · rw [upd_same, List.map_map]
          rfl
        · have en : L'.map (·.2) = norm rs := by
            refine norm_of (rise_of ndL (List.pairwise_map.mpr pw)) fun x => ?_
            constructor
            · intro hx
              obtain ⟨pq, hp, rfl⟩ := List.mem_map.mp hx
              exact inr _ (i1 _ (pm.mem_iff.mp hp))
            · intro hx
              rw [← z2] at hx
              obtain ⟨pq, hp, rfl⟩ := List.mem_map.mp hx
              exact (pm.map (·.2)).mem_iff.mpr (i2 pq hp)
          rw [← en]
          exact of_zip fun pq hp => sp _ _ (lsr pq (pm.mem_iff.mp hp))
theorem sc_binit : FnScope ["self", "columns", "rows"] ["self", "columns", "rows"] (defScope s_binit) := ⟨rfl, rfl, rfl, by decide +kernel, rfl, by decide +kernel, by decide +kernel⟩
def sp_binit (C : Addr) : Sp := fun vs H Q _ => ∃ (p L dx : Addr) (v : V) (cs : List Str) (as : List Addr) (rs : List (List Int)), vs = [.ref p, .ref L, v] ∧ H p = some (.ins C dx []) ∧ H L = some (.lst (cs.map V.str)) ∧ Cs cs ∧ RowsV H v as rs ∧ Rs cs.length rs ∧
  ∀ H', TabAt C H' p cs (norm rs) → (∀ b o, b ≠ p → H b = some o → H' b = some o) → Q .non H'
theorem ok_binit {C fi : Addr} {di : FuncData} (F : FunD K "__init__" "Table.__init__" (defArgs s_binit) (defBody s_binit) (defScope s_binit) [.non] [] fi di) (T : Kt K mg fW fN fA fR fK fS dW dN dA dR dK dS) (c : Bc K mg C) :
    FnOk P w K mg base CX0 4 fi di ["self", "columns", "rows"] (sp_binit C) := by
  have B := T.B
  have GK : FnOk P w K mg base CX0 3 fK dK ["columns"] sp_ccV := ok_ccV T
  have GS : FnOk P w K mg base CX0 3 fS dS ["rows", "many"] sp_sorted := ok_sorted T
  refine F.ok sc_binit (fun vs H Q E h => ?_) (fun cdv A outer s H vs Q E hr h => ?_)
  · obtain ⟨p, L, dx, v, cs, as, rs, rfl, _⟩ := h
    rfl
  · obtain ⟨p, L, dx, v, cs, as, rs, rfl, hp, hL, hc, hv, rok, q⟩ := h
    refine ⟨_, pss_cons (ps_expr (pe_call GK hr rfl T.chk.g T.chk.F.kp T.chk.b .nil pass0 (pa_cons (pv 1) pa_nil)))
      (pss_cons (ps_fld (pv 0) (pe_callTy call_list_of (by rfl) B.list boot_list (pa_cons (pv 1) pa_nil)) rfl)
      (pss_one (ps_fld (pv 0) (pe_call GS hr rfl T.srt.g T.srt.F.kp T.srt.b .nil pass0 (pa_cons (pv 2) (pa_cons (pe_callB call_len_seq (by rfl) B.len PySem.boot_len (pa_cons (pv 1) pa_nil)) pa_nil))) rfl))), ?_⟩
    refine ⟨_, rfl, L, cs, rfl, hL, hc, fun H1 s1 => ?_⟩
    refine ⟨_, rfl, L, _, rfl, .inl (.of (s1 _ _ hL)), fun l nl => ?_⟩
    have hp1 := s1 _ _ hp
    have pl : p ≠ l := ne_of_none hp1 nl
    have hL1 := s1 _ _ hL
    have pL : L ≠ p := fun z => by rw [z, hp1] at hL1; cases hL1
    refine ⟨_, rfl, p, C, dx, [], rfl, by rw [upd_ne pl]; exact hp1, c.cl, c.nC, by show 0 < 1000; decide, ?_⟩
    have keep : ∀ b o, b ≠ p → H b = some o → upd (upd H1 l (.lst (cs.map V.str))) p (.ins C dx (putF "_columns" (.ref l) [])) b = some o := fun b o hb e => by
      have e1 := s1 _ _ e
      rw [upd_ne hb, upd_ne (ne_of_none e1 nl)]
      exact e1
    have ep : upd (upd H1 l (.lst (cs.map V.str))) p (.ins C dx (putF "_columns" (.ref l) [])) p = some (.ins C dx (putF "_columns" (.ref l) [])) := upd_same
    have el : upd (upd H1 l (.lst (cs.map V.str))) p (.ins C dx (putF "_columns" (.ref l) [])) l = some (.lst (cs.map V.str)) := by rw [upd_ne pl.symm, upd_same]
    generalize upd (upd H1 l (.lst (cs.map V.str))) p (.ins C dx (putF "_columns" (.ref l) [])) = H2 at keep ep el ⊢
    have hv2 : RowsV H2 v as rs := by
      rcases hv with h | ⟨R, e1, e2, e3⟩
      · exact .inl h
      · exact .inr ⟨R, e1, keep R _ (fun z => by rw [z, hp] at e2; cases e2) e2, Paired.mapP e3 fun a r e => keep a _ (fun z => by rw [z, hp] at e; cases e) e⟩
    refine ⟨_, rfl, _, rfl, L, _, rfl, .inl (.of (keep _ _ pL hL)), v, as, rs, cs.length, ?_, hv2, rok.len, by have := hc.le; omega, rok.few, fun H3 r as' s3 nr er hr' => ?_⟩
    · rw [List.length_map]
      rfl
    refine ⟨_, rfl, p, C, dx, _, rfl, s3 _ _ ep, c.cl, c.nR, by show 1 < 1000; decide, ?_⟩
    have el3 := s3 _ _ el
    have lp : l ≠ p := pl.symm
    have rp : r ≠ p := fun z => by rw [z, ep] at nr; cases nr
    refine q _ ⟨dx, l, r, as', upd_same, by rw [upd_ne lp]; exact el3, by rw [upd_ne rp]; exact er, ?_⟩ fun b o hb e => by rw [upd_ne hb]; exact s3 _ _ (keep b o hb e)
    exact Paired.mapP hr' fun a r' e => by rw [upd_ne (fun z => by rw [z, s3 _ _ ep] at e; cases e)]; exact e
theorem sc_bcolumns : FnScope ["self"] ["self"] (defScope s_bcolumns) := ⟨rfl, rfl, rfl, by decide +kernel, rfl, by decide +kernel, by decide +kernel⟩
def sp_bcolumns (C : Addr) : Sp := fun vs H Q _ => ∃ (p : Addr) (cs : List Str) (rs : List (List Int)), vs = [.ref p] ∧ TabAt C H p cs rs ∧ ∀ H' L, Same H H' → H L = none → H' L = some (.lst (cs.map V.str)) → Q (.ref L) H'
theorem ok_bcolumns {C f : Addr} {fd : FuncData} (F : Fun K "columns" "Table.columns" s_bcolumns f fd) (B : Bn mg) (c : Bc K mg C) : FnOk P w K mg base CX0 1 f fd ["self"] (sp_bcolumns C) := by
  refine F.ok sc_bcolumns (fun vs H Q E h => ?_) (fun cdv A outer s H vs Q E hr h => ?_)
  · obtain ⟨p, cs, rs, rfl, _⟩ := h
    rfl
  · obtain ⟨p, cs, rs, rfl, ⟨dx, l, r, as, h1, h2, h3, h4⟩, q⟩ := h
    refine ⟨_, pss_one (ps_ret (pe_callTy call_list_of (by rfl) B.list boot_list (pa_cons (pe_fld (pv 0) rfl) pa_nil))), ?_⟩
    exact ⟨_, rfl, p, C, dx, _, _, rfl, h1, c.cl, c.nC, bflds_col _ _, l, _, rfl, .inl (.of h2), fun L nL => q _ L (Same.new nL) nL upd_same⟩
theorem sc_brows : FnScope ["self"] ["self"] (defScope s_brows) := ⟨rfl, rfl, rfl, by decide +kernel, rfl, by decide +kernel, by decide +kernel⟩
def sp_brows (C : Addr) : Sp := fun vs H Q _ => ∃ (p : Addr) (cs : List Str) (rs : List (List Int)), vs = [.ref p] ∧ TabAt C H p cs rs ∧ ∀ H' L as, Same H H' → H L = none → H' L = some (.lst (as.map V.ref)) → RowsAt H' as rs → Q (.ref L) H'
theorem ok_brows {C f : Addr} {fd : FuncData} (F : Fun K "rows" "Table.rows" s_brows f fd) (B : Bn mg) (c : Bc K mg C) : FnOk P w K mg base CX0 1 f fd ["self"] (sp_brows C) := by
  refine F.ok sc_brows (fun vs H Q E h => ?_) (fun cdv A outer s H vs Q E hr h => ?_)
  · obtain ⟨p, cs, rs, rfl, _⟩ := h
    rfl
  · obtain ⟨p, cs, rs, rfl, ⟨dx, l, r, as, h1, h2, h3, h4⟩, q⟩ := h
    refine ⟨_, pss_one (ps_ret (pe_callTy call_list_of (by rfl) B.list boot_list (pa_cons (pe_fld (pv 0) rfl) pa_nil))), ?_⟩
    exact ⟨_, rfl, p, C, dx, _, _, rfl, h1, c.cl, c.nR, bflds_rows _ _, r, _, rfl, .inl (.of h3), fun L nL => q _ L as (Same.new nL) nL upd_same (h4.same (Same.new nL))⟩
theorem sc_blen : FnScope ["self"] ["self"] (defScope s_blen) := ⟨rfl, rfl, rfl, by decide +kernel, rfl, by decide +kernel, by decide +kernel⟩
def sp_blen (C : Addr) : Sp := fun vs H Q _ => ∃ (p : Addr) (cs : List Str) (rs : List (List Int)), vs = [.ref p] ∧ TabAt C H p cs rs ∧ Q (.int rs.length) H
theorem ok_blen {C f : Addr} {fd : FuncData} (F : Fun K "__len__" "Table.__len__" s_blen f fd) (B : Bn mg) (c : Bc K mg C) : FnOk P w K mg base CX0 1 f fd ["self"] (sp_blen C) := by
  refine F.ok sc_blen (fun vs H Q E h => ?_) (fun cdv A outer s H vs Q E hr h => ?_)
  · obtain ⟨p, cs, rs, rfl, _⟩ := h
    rfl
  · obtain ⟨p, cs, rs, rfl, ⟨dx, l, r, as, h1, h2, h3, h4⟩, q⟩ := h
    refine ⟨_, pss_one (ps_ret (pe_callB call_len_seq (by rfl) B.len PySem.boot_len (pa_cons (pe_fld (pv 0) rfl) pa_nil))), ?_⟩
    refine ⟨_, rfl, p, C, dx, _, _, rfl, h1, c.cl, c.nR, bflds_rows _ _, r, _, rfl, .inl (.of h3), ?_⟩
    rw [List.length_map, h4.len]
    exact q
theorem sc_beq : FnScope ["self", "other"] ["self", "other"] (defScope s_beq) := ⟨rfl, rfl, rfl, by decide +kernel, rfl, by decide +kernel, by decide +kernel⟩
def sp_beq (C : Addr) : Sp := fun vs H Q _ => ∃ (a b : Addr) (cs cs' : List Str) (rs rs' : List (List Int)), vs = [.ref a, .ref b] ∧ TabAt C H a cs rs ∧ TabAt C H b cs' rs' ∧ (∀ x ∈ cs, TM.NameOk x) ∧ (∀ x ∈ cs', TM.NameOk x) ∧ ∀ H', Same H H' → Q (.bl (decide (cs = cs') && decide (rs = rs'))) H'
theorem ok_beq {C f : Addr} {fd : FuncData} (F : Fun K "__eq__" "Table.__eq__" s_beq f fd) (B : Bn mg) (c : Bc K mg C) : FnOk P w K mg base CX0 1 f fd ["self", "other"] (sp_beq C) := by
  refine F.ok sc_beq (fun vs H Q E h => ?_) (fun cdv A outer s H vs Q E hr h => ?_)
  · obtain ⟨a, b, cs, cs', rs, rs', rfl, _⟩ := h
    rfl
  · obtain ⟨a, b, cs, cs', rs, rs', rfl, ⟨dx, l, r, as, h1, h2, h3, h4⟩, ⟨dx', l', r', as', h1', h2', h3', h4'⟩, ok, ok', q⟩ := h
    have hu64 := hr.units
    refine ⟨_, pss_one (ps_ret (pe_and (pe_callB call_isi (by rfl) B.isi boot_isinstance (pa_cons (pv 1) (pa_cons (pe_glob (v := .ref C) (by rfl) c.g rfl) pa_nil)))
      (pe_and (pe_cmpR (op_eqD hu64) (pe_fld (pv 0) rfl) (pe_fld (pv 1) rfl) (nomark _)) (pe_one (pe_cmpR (op_eqD hu64) (pe_fld (pv 0) rfl) (pe_fld (pv 1) rfl) (nomark _)))))), ?_⟩
    refine ⟨_, rfl, _, _, _, _, true, rfl, .own C, .base (.ins h1' c.cl c.ins.ha c.ins.hn c.ins.htk c.ins.hm), c.ins.me, true, rfl, ?_⟩
    refine ⟨_, rfl, a, C, dx, _, _, rfl, h1, c.cl, c.nC, bflds_col _ _, _, rfl, b, C, dx', _, _, rfl, h1', c.cl, c.nC, bflds_col _ _, _, _, DpS h2, DpS h2', shS ok, shS ok', _, rfl, ?_⟩
    rw [eqv_dS]
    by_cases hn : cs = cs'
    · rw [decide_eq_true hn]
      refine ⟨_, rfl, a, C, dx, _, _, rfl, h1, c.cl, c.nR, bflds_rows _ _, _, rfl, b, C, dx', _, _, rfl, h1', c.cl, c.nR, bflds_rows _ _, _, _, DpRows h3 h4, DpRows h3' h4', shRows rs, shRows rs', ?_⟩
      rw [eqv_dR]
      have := q H same_rfl
      rwa [decide_eq_true hn, Bool.true_and] at this
    · rw [decide_eq_false hn]
      have := q H same_rfl
      rwa [decide_eq_false hn, Bool.false_and] at this
end
end T89

set_option maxHeartbeats 1000000
/-! Rules of our own: <= of data that are alike; a text times a number. -/
namespace TLL
open PySem L2 PyProof.Rows TX TY TB TG TW TD
section
variable {X : Cx}
def rLeD (K : PySem.W.Frag) : R2 := fun x y H Q => ∃ d e, Dp K H x d ∧ Dp K H y e ∧ PySem.W.alike d e = true ∧ d ≠ .none ∧ PyData.depth d ≤ 64 ∧ Q (.bl (!PySem.W.dataLt e d)) H
theorem op_leD (hu : X.A.units + 64 < cLine) : OpR X (compareOp .LtE) (rLeD X.K) := by
  intro pins s σ H x y v u Q I rx ry h
  obtain ⟨d, e, hd, he, ha, hn, hp, q⟩ := h
  obtain ⟨as, r1⟩ := Dp.reads I d x v hd rx
  obtain ⟨bs, r2⟩ := Dp.reads I e y u he ry
  exact PySem.W.le_data r1 r2 ha hn (by omega) ⟨.bl _, H, I, rfl, q⟩
def rRepS : R2 := fun x y H Q => ∃ (a : Str) (k : Int), x = .str a ∧ y = .int k ∧ 2 ≤ k ∧ k ≤ 1000 ∧ 1 ≤ a.length ∧ a.length ≤ 1000 ∧ Q (.str ⟨(List.replicate k.toNat a.cps).foldl (· ++ ·) #[]⟩) H
theorem op_repS : OpR X (binaryOp .Mult) rRepS := by
  intro pins s σ H x y v u Q I rx ry h
  obtain ⟨a, k, rfl, rfl, h0, h1, h2, h3, q⟩ := h
  obtain ⟨t, rfl⟩ := rx
  obtain ⟨t2, rfl⟩ := ry
  have n1 : ¬ k < 1 := by omega
  have n2 : (k == 1 || a.length == 0) = false := by
    rw [Bool.or_eq_false_iff]
    refine ⟨beq_eq_false_iff_ne.mpr (by omega), beq_eq_false_iff_ne.mpr (by omega)⟩
  refine P.mul_str ?_ (fun _ _ z => ?_) (fun _ _ => ?_) ?_
  · rw [decide_eq_false (by omega), decide_eq_false (by omega)]
    rfl
  · have e : (1000 : Int) ≤ (2 ^ 63 - 1) / k := by
      rw [Int.le_ediv_iff_mul_le (by omega)]
      omega
    omega
  · have e : a.length * k.toNat ≤ 1000 * 1000 := Nat.mul_le_mul h3 (by omega)
    unfold Builtin.Str.tooLong
    exact decide_eq_false (Nat.not_lt.mpr (Nat.le_trans e (by decide)))
  · rw [if_neg n1, n2, if_neg Bool.false_ne_true]
    refine ⟨?_, .str _, H, I.tok _, ⟨_, rfl⟩, q⟩
    have e : ∀ (m : Nat) (z : Array Nat), (List.foldl (· ++ ·) z (List.replicate m a.cps)).size = z.size + m * a.cps.size := by
      intro m
      induction m with
      | zero => intro z; simp
      | succ m ih =>
        intro z
        rw [List.replicate_succ, List.foldl_cons, ih, Array.size_append, Nat.succ_mul]
        omega
    show (List.foldl (· ++ ·) #[] (List.replicate k.toNat a.cps)).size ≤ _
    rw [e]
    have e : k.toNat * a.length ≤ 1000 * 1000 := Nat.mul_le_mul (by omega) h3
    refine Nat.le_trans (show _ ≤ 1000 * 1000 from ?_) (by decide)
    have : a.cps.size = a.length := rfl
    rw [this]
    simpa using e
end
end TLL

set_option maxHeartbeats 1000000
/-! What a table's text is. -/
namespace T89
open PySem L2 PyProof.Rows TX TY TW TD TB TG TL
abbrev cps (x : Str) : List Nat := x.cps.toList
abbrev isD (c : Nat) : Bool := decide (48 ≤ c) && decide (c ≤ 57)
/-- a number's figures -/
def figs : List Nat → List Nat
  | 45 :: r => r
  | l => l
def okN (l : List Nat) : Bool := (decide (1 ≤ (figs l).length) && decide ((figs l).length ≤ 40)) && ((figs l).all isD && !((figs l).head? == some 48 && !decide (l = [48])))
def numT (x : Str) : Option Int := if okN (cps x) = true then intText? x else none
theorem isD_all {l : List Nat} (h : l.all isD = true) : NumText.AllDigits l := by
  intro c hc
  have := List.all_eq_true.mp h c hc
  rw [Bool.and_eq_true, decide_eq_true_iff, decide_eq_true_iff] at this
  exact this
theorem all_isD {l : List Nat} (h : NumText.AllDigits l) : l.all isD = true := List.all_eq_true.mpr fun c hc => by
  rw [Bool.and_eq_true, decide_eq_true_iff, decide_eq_true_iff]
  exact h c hc
theorem figs_cases (l : List Nat) : (∃ r, l = 45 :: r ∧ figs l = r) ∨ figs l = l ∧ ∀ r, l ≠ 45 :: r := by
  unfold figs
  split
  · exact .inl ⟨_, rfl, rfl⟩
  · rename_i h
    exact .inr ⟨rfl, fun r e => h r e⟩
theorem S_cps_eta (x : Str) : S (cps x) = x := (S_eta x).symm
theorem str_eq {x y : Str} (h : cps x = cps y) : x = y := by rw [← S_cps_eta x, ← S_cps_eta y, h]
theorem tl_neg {n : Nat} (h : 0 < n) : cps (Str.ofString (toString (-(n : Int)))) = 45 :: numL n := by
  have e : toString (-(n : Int)) = "-" ++ toString (n : Int) := by
    rw [toString_neg (show -(n : Int) < 0 by omega), show (0 : Int) - -(n : Int) = (n : Int) by omega]
  have t := tl_num n
  unfold tl at t
  rw [e]
  show (Str.ofString ("-" ++ toString (n : Int))).cps.toList = _
  rw [signs_ofString, String.toList_append, List.map_append, ← t, signs_ofString]
  rfl
/-- the figures of a number that has no needless nought -/
theorem back_fig {cs : List Nat} (hd : NumText.AllDigits cs) (hne : cs ≠ []) (h0 : cs.head? = some 48 → cs = [48]) : numL (NumText.digitsVal cs) = cs := by
  obtain ⟨c, r, rfl⟩ : ∃ c r, cs = c :: r := by
    cases cs with
    | nil => exact absurd rfl hne
    | cons c r => exact ⟨c, r, rfl⟩
  have hc := hd c List.mem_cons_self
  have e := NumText.toDigits_digitsVal r.length (c :: r) rfl hd (by
    by_cases e : c = 48
    · subst e
      have := h0 rfl
      injection this with _ e
      subst e
      exact .inl rfl
    · exact .inr ⟨c, r, rfl, by omega⟩)
  unfold numL
  rw [e, List.map_map]
  have : ∀ l : List Nat, NumText.AllDigits l → l.map (Char.toNat ∘ Char.ofNat) = l := by
    intro l
    induction l with
    | nil => intro _; rfl
    | cons d l ih =>
      intro h
      have hd := h d List.mem_cons_self
      rw [List.map_cons, ih fun x hx => h x (List.mem_cons_of_mem _ hx)]
      congr 1
      show (Char.ofNat d).toNat = d
      have hv : d.isValidChar := Or.inl (by omega)
      unfold Char.ofNat
      rw [dif_pos hv]
      rfl
  exact this _ hd
theorem okN_parts {l : List Nat} (h : okN l = true) : NumText.AllDigits (figs l) ∧ 1 ≤ (figs l).length ∧ (figs l).length ≤ 40 ∧ ((figs l).head? = some 48 → l = [48]) := by
  unfold okN at h
  rw [Bool.and_eq_true, Bool.and_eq_true, Bool.and_eq_true, decide_eq_true_iff, decide_eq_true_iff, Bool.not_eq_true', Bool.and_eq_false_iff] at h
  obtain ⟨⟨h1, h2⟩, h3, h4⟩ := h
  refine ⟨isD_all h3, h1, h2, fun e => ?_⟩
  rcases h4 with h4 | h4
  · rw [e] at h4
    exact absurd h4 (by decide)
  · simpa using h4
/-- what is read is a number, and it is written so -/
theorem numT_some {x : Str} (h : okN (cps x) = true) : ∃ n : Int, intText? x = some n ∧ Str.ofString (toString n) = x ∧ x.length ≤ 41 ∧ n.natAbs < 10 ^ 40 := by
  obtain ⟨hd, h1, h2, h0⟩ := okN_parts h
  have hlen : x.length = (cps x).length := by rw [Array.length_toList]; rfl
  have hne : figs (cps x) ≠ [] := fun e => by rw [e] at h1; simp at h1
  have small : ∀ {l : List Nat}, NumText.AllDigits l → l.length ≤ 40 → NumText.digitsVal l < 10 ^ 40 := by
    have key : ∀ (l : List Nat) (a : Nat), NumText.AllDigits l → l.foldl (fun acc c => acc * 10 + (c - 48)) a < (a + 1) * 10 ^ l.length := by
      intro l
      induction l with
      | nil => intro a _; simp
      | cons c l ih =>
        intro a hl
        have hc := hl c List.mem_cons_self
        have := ih (a * 10 + (c - 48)) fun x hx => hl x (List.mem_cons_of_mem _ hx)
        refine Nat.lt_of_lt_of_le (show List.foldl _ a (c :: l) < _ from this) ?_
        rw [List.length_cons, Nat.pow_succ, Nat.mul_comm (10 ^ l.length) 10, ← Nat.mul_assoc]
        exact Nat.mul_le_mul_right _ (by omega)
    intro l hl hle
    have := key l 0 hl
    rw [Nat.zero_add, Nat.one_mul] at this
    exact Nat.lt_of_lt_of_le this (Nat.pow_le_pow_right (by decide) hle)
  rcases figs_cases (cps x) with ⟨r, e, e2⟩ | ⟨e2, e⟩
  · rw [e2] at hd h1 h2 h0 hne
    have hx : x.length ≤ 41 := by rw [hlen, e, List.length_cons]; omega
    refine ⟨_, intText_neg e hd hne (by omega), ?_, hx, by rw [Int.natAbs_neg, Int.natAbs_natCast]; exact small hd h2⟩
    have h00 : r.head? = some 48 → r = [48] := fun z => by
      have := h0 z
      rw [e] at this
      cases this
    have bf := back_fig hd hne h00
    have pos : 0 < NumText.digitsVal r := by
      rcases Nat.eq_zero_or_pos (NumText.digitsVal r) with z | z
      · exfalso
        rw [z, numL_lt (by decide)] at bf
        have := h0 (by rw [← bf]; rfl)
        rw [e] at this
        cases this
      · exact z
    apply str_eq
    rw [tl_neg pos, bf, e]
  · rw [e2] at hd h1 h2 h0 hne
    have hx : x.length ≤ 41 := by rw [hlen]; omega
    refine ⟨_, intText_digits hd hne (by omega), ?_, hx, by rw [Int.natAbs_natCast]; exact small hd h2⟩
    apply str_eq
    have t := tl_num (NumText.digitsVal (cps x))
    unfold tl at t
    show (Str.ofString (toString ((NumText.digitsVal (cps x) : Nat) : Int))).cps.toList = _
    rw [t]
    exact back_fig hd hne h0
theorem numL_head {n : Nat} (h : (numL n).head? = some 48) : n = 0 := by
  have e := numL_val n
  have hd := numL_digits n
  induction n using Nat.strongRecOn with
  | _ n ih =>
    by_cases h9 : n < 10
    · rw [numL_lt h9] at h
      have := Option.some.inj h
      omega
    · rw [numL_step (by omega)] at h
      have h' : (numL (n / 10)).head? = some 48 := by
        cases e : numL (n / 10) with
        | nil => exact absurd e (numL_ne _)
        | cons c r =>
          rw [e] at h
          exact h
      have := ih (n / 10) (by omega) h' (numL_val _) (numL_digits _)
      omega
/-- a number as it is written is read back -/
theorem numT_back {i : Int} (h : i.natAbs < 10 ^ 40) : numT (Str.ofString (toString i)) = some i := by
  have okd : ∀ n : Nat, n < 10 ^ 40 → (decide (1 ≤ (numL n).length) && decide ((numL n).length ≤ 40)) = true := fun n hn => by
    rw [decide_eq_true (show 1 ≤ (numL n).length from List.length_pos_iff.mpr (numL_ne n)), decide_eq_true (numL_len (by decide) hn)]
    rfl
  have nofig : ∀ n : Nat, figs (numL n) = numL n := fun n => by
    rcases figs_cases (numL n) with ⟨r, e, _⟩ | ⟨e, _⟩
    · exact absurd (show 45 ∈ numL n by rw [e]; exact List.mem_cons_self) (numL_free (.inl (by decide)))
    · exact e
  unfold numT
  rcases Int.lt_or_le i 0 with hi | hi
  · obtain ⟨n, rfl, hp⟩ : ∃ n : Nat, i = -(n : Int) ∧ 0 < n := ⟨i.natAbs, by omega, by omega⟩
    have hn : n < 10 ^ 40 := by rwa [Int.natAbs_neg, Int.natAbs_natCast] at h
    have e := tl_neg hp
    have ok : okN (cps (Str.ofString (toString (-(n : Int))))) = true := by
      rw [e]
      unfold okN
      rw [show figs (45 :: numL n) = numL n from rfl, okd n hn, all_isD (numL_digits n), Bool.true_and, Bool.true_and, Bool.not_eq_true', Bool.and_eq_false_iff]
      left
      rw [beq_eq_false_iff_ne]
      intro z
      have := numL_head z
      omega
    rw [if_pos ok, intText_neg e (numL_digits n) (numL_ne n) ?_, numL_val]
    have hl : (Str.ofString (toString (-(n : Int)))).length = (cps (Str.ofString (toString (-(n : Int))))).length := by rw [Array.length_toList]; rfl
    rw [hl, e, List.length_cons]
    have := numL_len (n := n) (k := 40) (by decide) hn
    omega
  · obtain ⟨n, rfl⟩ := Int.eq_ofNat_of_zero_le hi
    have hn : n < 10 ^ 40 := by rwa [Int.natAbs_natCast] at h
    have e : cps (Str.ofString (toString (n : Int))) = numL n := tl_num n
    have ok : okN (cps (Str.ofString (toString (n : Int)))) = true := by
      rw [e]
      unfold okN
      rw [nofig, okd n hn, all_isD (numL_digits n), Bool.true_and, Bool.true_and, Bool.not_eq_true', Bool.and_eq_false_iff]
      by_cases z : (numL n).head? = some 48
      · right
        have := numL_head z
        subst this
        rw [numL_lt (by decide)]
        rfl
      · left
        rw [beq_eq_false_iff_ne]
        exact z
    rw [if_pos ok]
    exact int_num (Nat.le_trans (numL_len (k := 40) (by decide) hn) (by decide))
/-! ### lines, columns, rows -/
def NLs : Str := Str.ofString "\n"
def CMs : Str := Str.ofString ","
theorem NL_cps : cps NLs = [10] := by decide +kernel
theorem CM_cps : cps CMs = [44] := by decide +kernel
theorem NL_eq : NLs = ⟨#[10]⟩ := str_eq NL_cps
theorem CM_eq : CMs = ⟨#[44]⟩ := str_eq CM_cps
/-- the words of a line -/
def wordsT (l : Str) : List Str := if l.length = 0 then [] else Txt.split l CMs
def linesT (x : Str) : List Str := Txt.split x NLs
def rowOf (l : Str) (many : Nat) : Option (List Int) := if (wordsT l).length = many ∧ (wordsT l).all (fun w => (numT w).isSome) = true then some ((wordsT l).map fun w => (numT w).getD 0) else none
def wr (r : List Int) : Str := Txt.join CMs (r.map fun i => Str.ofString (toString i))
def shown (cs : List Str) (rs : List (List Int)) : Str := Txt.join NLs (Txt.join CMs cs :: rs.map wr)
theorem join_words (l : Str) : Txt.join CMs (wordsT l) = l := by
  unfold wordsT
  split
  · rename_i h
    apply str_eq
    have : (cps l).length = 0 := by rw [Array.length_toList]; exact h
    rw [List.length_eq_zero_iff.mp this]
    rfl
  · rw [join_eq]
    exact StrLaws.join_split l CMs
theorem join_lines (x : Str) : Txt.join NLs (linesT x) = x := by
  unfold linesT
  rw [join_eq]
  exact StrLaws.join_split x NLs
theorem words_len {l w : Str} (h : w ∈ wordsT l) : w.length ≤ l.length := by
  unfold wordsT at h
  split at h
  · cases h
  · exact part_short h
/-- a row that was read is written so -/
theorem wr_back {l : Str} {many : Nat} {r : List Int} (h : rowOf l many = some r) : wr r = l ∧ r.length = many ∧ ∀ i ∈ r, i.natAbs < 10 ^ 40 := by
  unfold rowOf at h
  split at h
  · rename_i hh
    obtain ⟨h1, h2⟩ := hh
    obtain rfl := Option.some.inj h
    have each : ∀ w ∈ wordsT l, Str.ofString (toString ((numT w).getD 0)) = w ∧ ((numT w).getD 0).natAbs < 10 ^ 40 := fun w hw => by
      have hs := List.all_eq_true.mp h2 w hw
      unfold numT at hs ⊢
      by_cases ok : okN (cps w) = true
      · obtain ⟨n, e1, e2, _, e4⟩ := numT_some ok
        rw [if_pos ok, e1]
        exact ⟨e2, e4⟩
      · rw [if_neg ok] at hs
        cases hs
    refine ⟨?_, by rw [List.length_map]; exact h1, fun i hi => ?_⟩
    · unfold wr
      rw [List.map_map]
      have : (wordsT l).map ((fun i : Int => Str.ofString (toString i)) ∘ fun w => (numT w).getD 0) = wordsT l := by
        conv => rhs; rw [← List.map_id (wordsT l)]
        exact List.map_congr_left fun w hw => (each w hw).1
      rw [this]
      exact join_words l
    · obtain ⟨w, hw, rfl⟩ := List.mem_map.mp hi
      exact (each w hw).2
  · cases h
/-- whether a row stands above the one ahead -/
def abv (p : Option (List Int)) (r : List Int) : Bool := match p with
  | none => true
  | some q => ltI q r
/-- rows from a line on: the first that is none, or not above the one ahead -/
def stopFrom (many : Nat) : Nat → Option (List Int) → List Str → Option Nat
  | _, _, [] => none
  | at', p, l :: ls => match rowOf l many with
    | none => some at'
    | some r => if abv p r = true then stopFrom many (at' + 1) (some r) ls else some at'
def stopX (x : Str) : Option Nat := if colsV ((wordsT ((linesT x).headD Str.empty)).map V.str) = true then stopFrom (wordsT ((linesT x).headD Str.empty)).length 1 none (linesT x).tail else some 0
theorem mem_joinL {c : Nat} {s : List Nat} : ∀ {ls : List (List Nat)}, c ∈ joinL s ls → c ∈ s ∨ ∃ l ∈ ls, c ∈ l
  | [], h => by cases h
  | [l], h => .inr ⟨l, List.mem_cons_self, h⟩
  | l :: m :: ls, h => by
    rcases List.mem_append.mp (show c ∈ l ++ (s ++ joinL s (m :: ls)) from h) with h | h
    · exact .inr ⟨l, List.mem_cons_self, h⟩
    · rcases List.mem_append.mp h with h | h
      · exact .inl h
      · rcases mem_joinL h with h | ⟨x, hx, hc⟩
        · exact .inl h
        · exact .inr ⟨x, List.mem_cons_of_mem _ hx, hc⟩
theorem mem_join {c : Nat} {y : Str} {ls : List Str} (h : c ∈ cps (Txt.join y ls)) : c ∈ cps y ∨ ∃ l ∈ ls, c ∈ cps l := by
  rw [join_eq] at h
  have e : cps (Str.join y ls) = joinL (tl y) (ls.map tl) := tl_join y ls
  rw [e] at h
  rcases mem_joinL h with h | ⟨x, hx, hc⟩
  · exact .inl h
  · obtain ⟨l, hl, rfl⟩ := List.mem_map.mp hx
    exact .inr ⟨l, hl, hc⟩
theorem num_signs {i : Int} {c : Nat} (h : c ∈ cps (Str.ofString (toString i))) : c = 45 ∨ (48 ≤ c ∧ c ≤ 57) := by
  rcases Int.lt_or_le i 0 with hi | hi
  · obtain ⟨n, rfl, hp⟩ : ∃ n : Nat, i = -(n : Int) ∧ 0 < n := ⟨i.natAbs, by omega, by omega⟩
    rw [tl_neg hp] at h
    rcases List.mem_cons.mp h with h | h
    · exact .inl h
    · exact .inr (numL_digits n c h)
  · obtain ⟨n, rfl⟩ := Int.eq_ofNat_of_zero_le hi
    have e : cps (Str.ofString (toString (n : Int))) = numL n := tl_num n
    rw [e] at h
    exact .inr (numL_digits n c h)
theorem num_ne (i : Int) : cps (Str.ofString (toString i)) ≠ [] := by
  rcases Int.lt_or_le i 0 with hi | hi
  · obtain ⟨n, rfl, hp⟩ : ∃ n : Nat, i = -(n : Int) ∧ 0 < n := ⟨i.natAbs, by omega, by omega⟩
    rw [tl_neg hp]
    exact List.cons_ne_nil _ _
  · obtain ⟨n, rfl⟩ := Int.eq_ofNat_of_zero_le hi
    have e : cps (Str.ofString (toString (n : Int))) = numL n := tl_num n
    rw [e]
    exact numL_ne n
theorem len_cps (x : Str) : x.length = (cps x).length := by rw [Array.length_toList]; rfl
theorem split_words {ws : List Str} (h : ∀ w ∈ ws, 44 ∉ cps w ∧ cps w ≠ []) : wordsT (Txt.join CMs ws) = ws := by
  unfold wordsT
  cases ws with
  | nil => exact if_pos rfl
  | cons w ws =>
    have ne : ¬ (Txt.join CMs (w :: ws)).length = 0 := by
      rw [len_cps]
      intro z
      have e : cps (Txt.join CMs (w :: ws)) = joinL (tl CMs) ((w :: ws).map tl) := by rw [join_eq]; exact tl_join _ _
      rw [e] at z
      have hw := (h w List.mem_cons_self).2
      cases ws with
      | nil => exact hw (List.length_eq_zero_iff.mp z)
      | cons v vs =>
        have z : (tl w ++ (tl CMs ++ joinL (tl CMs) ((v :: vs).map tl))).length = 0 := z
        rw [List.length_append] at z
        exact hw (List.length_eq_zero_iff.mp (show (tl w).length = 0 by omega))
    rw [if_neg ne]
    exact split_join (show tl CMs = 44 :: [] from CM_cps) (by decide +kernel) (List.cons_ne_nil _ _) fun w hw => (h w hw).1
theorem split_lines {ls : List Str} (hne : ls ≠ []) (h : ∀ l ∈ ls, 10 ∉ cps l) : linesT (Txt.join NLs ls) = ls :=
  split_join (show tl NLs = 10 :: [] from NL_cps) (by decide +kernel) hne h
theorem row_back {r : List Int} (h : ∀ i ∈ r, i.natAbs < 10 ^ 40) : rowOf (wr r) r.length = some r := by
  have e : wordsT (wr r) = r.map fun i => Str.ofString (toString i) := split_words fun w hw => by
    obtain ⟨i, _, rfl⟩ := List.mem_map.mp hw
    refine ⟨fun z => ?_, num_ne i⟩
    have := num_signs z
    omega
  unfold rowOf
  have ok : (r.map fun i => Str.ofString (toString i)).all (fun w => (numT w).isSome) = true := by
    rw [List.all_map, List.all_eq_true]
    intro i hi
    show (numT _).isSome = true
    rw [numT_back (h i hi)]
    rfl
  rw [e, if_pos ⟨by rw [List.length_map], ok⟩, List.map_map]
  congr 1
  conv => rhs; rw [← List.map_id r]
  exact List.map_congr_left fun i hi => by
    show (numT _).getD 0 = i
    rw [numT_back (h i hi)]
    rfl
theorem wr_signs {r : List Int} {c : Nat} (h : c ∈ cps (wr r)) : c ≠ 10 := by
  rcases mem_join h with h | ⟨l, hl, h⟩
  · rw [CM_cps] at h
    rw [List.mem_singleton.mp h]
    decide
  · obtain ⟨i, _, rfl⟩ := List.mem_map.mp hl
    have := num_signs h
    omega
theorem head_signs {cs : List Str} (h : ∀ x ∈ cs, TM.NameOk x) {c : Nat} (hc : c ∈ cps (Txt.join CMs cs)) : c ≠ 10 := by
  rcases mem_join hc with h1 | ⟨l, hl, h1⟩
  · rw [CM_cps] at h1
    rw [List.mem_singleton.mp h1]
    decide
  · have := (h l hl).2.2 c h1
    omega
theorem shown_lines {cs : List Str} {rs : List (List Int)} (h : ∀ x ∈ cs, TM.NameOk x) : linesT (shown cs rs) = Txt.join CMs cs :: rs.map wr :=
  split_lines (List.cons_ne_nil _ _) fun l hl hc => by
    rcases List.mem_cons.mp hl with e | hl
    · rw [e] at hc
      exact head_signs h hc rfl
    · obtain ⟨r, _, rfl⟩ := List.mem_map.mp hl
      exact wr_signs hc rfl
theorem shown_cols {cs : List Str} (h : ∀ x ∈ cs, TM.NameOk x) : wordsT (Txt.join CMs cs) = cs := split_words fun w hw => by
  obtain ⟨h1, h2, h3⟩ := h w hw
  refine ⟨fun z => ?_, fun z => ?_⟩
  · have := h3 _ z
    omega
  · rw [len_cps, z] at h1
    simp at h1
/-- the rows that were read -/
def rowsX (x : Str) : List (List Int) := (linesT x).tail.map fun l => (rowOf l (wordsT ((linesT x).headD Str.empty)).length).getD []
def colsX (x : Str) : List Str := wordsT ((linesT x).headD Str.empty)
theorem stop_next {many : Nat} {ls : List Str} {i : Nat} {l : Str} {p : Option (List Int)} (h : ls[i]? = some l) : stopFrom many (1 + i) p (ls.drop i) = (match rowOf l many with
    | none => some (1 + i)
    | some r => if abv p r = true then stopFrom many (1 + (i + 1)) (some r) (ls.drop (i + 1)) else some (1 + i)) := by
  obtain ⟨hi, e⟩ := List.getElem?_eq_some_iff.mp h
  rw [List.drop_eq_getElem_cons hi, e]
  rfl
theorem stop_none : ∀ {many : Nat} {ls : List Str} {a : Nat} {p : Option (List Int)}, stopFrom many a p ls = none → ∃ rs, ls.map (fun l => rowOf l many) = rs.map some ∧ Rise rs ∧ ∀ q r, p = some q → r ∈ rs → ltI q r = true := by
  intro many ls
  induction ls with
  | nil => intro a p _; exact ⟨[], rfl, .nil, fun _ _ _ h => nomatch h⟩
  | cons l ls ih =>
    intro a p h
    unfold stopFrom at h
    cases e : rowOf l many with
    | none => rw [e] at h; cases h
    | some r =>
      rw [e] at h
      have h : (if abv p r = true then stopFrom many (a + 1) (some r) ls else some a) = none := h
      by_cases c : abv p r = true
      · obtain ⟨rs, h1, h2, h3⟩ := ih (show stopFrom many (a + 1) (some r) ls = none by rw [if_pos c] at h; exact h)
        refine ⟨r :: rs, by rw [List.map_cons, List.map_cons, h1, e], List.pairwise_cons.mpr ⟨fun q hq => h3 r q rfl hq, h2⟩, fun q z ep hz => ?_⟩
        subst ep
        rcases List.mem_cons.mp hz with rfl | hz
        · exact c
        · exact ltI_trans c (h3 r z rfl hz)
      · rw [if_neg c] at h
        cases h
theorem stop_all {many : Nat} : ∀ {rs : List (List Int)} {ls : List Str} {a : Nat} {p : Option (List Int)}, ls.map (fun l => rowOf l many) = rs.map some → Rise rs → (∀ q r, p = some q → r ∈ rs → ltI q r = true) → stopFrom many a p ls = none := by
  intro rs
  induction rs with
  | nil =>
    intro ls a p h _ _
    cases ls with
    | nil => rfl
    | cons l ls => cases h
  | cons r rs ih =>
    intro ls a p h h2 h3
    cases ls with
    | nil => cases h
    | cons l ls =>
      injection h with h1 h
      unfold stopFrom
      have h1 : rowOf l many = some r := h1
      rw [h1]
      have c : abv p r = true := by
        cases p with
        | none => rfl
        | some q => exact h3 q r rfl List.mem_cons_self
      show (if _ then stopFrom many (a + 1) (some r) ls else some a) = none
      rw [if_pos c]
      obtain ⟨k1, k2⟩ := List.pairwise_cons.mp h2
      exact ih h k2 fun q z e hz => by cases e; exact k1 z hz
/-- what was read, where it stops nowhere -/
theorem read_all {x : Str} (h : stopX x = none) : Cs (colsX x) ∧ Rise (rowsX x) ∧ (∀ r ∈ rowsX x, r.length = (colsX x).length ∧ ∀ i ∈ r, i.natAbs < 10 ^ 40) ∧ shown (colsX x) (rowsX x) = x ∧ (linesT x).tail.map (fun l => rowOf l (colsX x).length) = (rowsX x).map some := by
  unfold stopX at h
  split at h
  · rename_i hc
    obtain ⟨rs, h1, h2, _⟩ := stop_none h
    have er : rowsX x = rs := by
      unfold rowsX
      have : (linesT x).tail.map (fun l => (rowOf l (wordsT ((linesT x).headD Str.empty)).length).getD []) = ((linesT x).tail.map fun l => rowOf l (wordsT ((linesT x).headD Str.empty)).length).map fun o => o.getD [] := by rw [List.map_map]; rfl
      rw [this, h1, List.map_map]
      exact List.map_id rs
    have all : ∀ r ∈ rs, ∃ l ∈ (linesT x).tail, rowOf l (colsX x).length = some r := fun r hr => by
      have : some r ∈ (linesT x).tail.map fun l => rowOf l (wordsT ((linesT x).headD Str.empty)).length := by rw [h1]; exact List.mem_map.mpr ⟨r, hr, rfl⟩
      obtain ⟨l, hl, e⟩ := List.mem_map.mp this
      exact ⟨l, hl, e⟩
    have ew : rs.map wr = (linesT x).tail := by
      have key : ∀ (ls : List Str) (rs : List (List Int)), ls.map (fun l => rowOf l (colsX x).length) = rs.map some → rs.map wr = ls := by
        intro ls
        induction ls with
        | nil => intro rs h; cases rs with | nil => rfl | cons r rs => cases h
        | cons l ls ih =>
          intro rs h
          cases rs with
          | nil => cases h
          | cons r rs =>
            injection h with a b
            rw [List.map_cons, ih rs b, (wr_back a).1]
      exact key _ _ h1
    obtain ⟨c1, c2⟩ := Bool.and_eq_true_iff.mp hc
    obtain ⟨c2, c3⟩ := Bool.and_eq_true_iff.mp c2
    have c1 := of_decide_eq_true c1
    have c3 := of_decide_eq_true c3
    rw [List.length_map] at c1
    refine ⟨⟨nd_strs.mp c3, c1, fun n hn => (nameB_iff n).mp (List.all_eq_true.mp c2 _ (List.mem_map.mpr ⟨n, hn, rfl⟩))⟩, er ▸ h2, fun r hr => ?_, ?_, ?_⟩
    · rw [er] at hr
      obtain ⟨l, _, e⟩ := all r hr
      exact (wr_back e).2
    · unfold shown
      rw [er, ew]
      have hl : linesT x = (linesT x).headD Str.empty :: (linesT x).tail := by
        cases e : linesT x with
        | nil =>
          exfalso
          have := split_pos x NLs
          have e : Txt.split x NLs = [] := e
          rw [e] at this
          simp at this
        | cons a b => rfl
      unfold colsX
      rw [join_words, ← hl, join_lines]
    · rw [er]
      exact h1
  · cases h
/-- a table's own text is read -/
theorem read_shown {cs : List Str} {rs : List (List Int)} (hc : Cs cs) (hr : Rise rs) (hl : ∀ r ∈ rs, r.length = cs.length ∧ ∀ i ∈ r, i.natAbs < 10 ^ 40) : stopX (shown cs rs) = none ∧ colsX (shown cs rs) = cs ∧ rowsX (shown cs rs) = rs := by
  have e := shown_lines (rs := rs) hc.ok
  have ec : colsX (shown cs rs) = cs := by
    unfold colsX
    rw [e]
    exact shown_cols hc.ok
  have er : (rs.map wr).map (fun l => rowOf l cs.length) = rs.map some := by
    rw [List.map_map]
    exact List.map_congr_left fun r h => by
      show rowOf (wr r) cs.length = some r
      rw [← (hl r h).1]
      exact row_back (hl r h).2
  refine ⟨?_, ec, ?_⟩
  · unfold stopX
    have ec' : wordsT ((linesT (shown cs rs)).headD Str.empty) = cs := ec
    rw [ec', if_pos (cols_ok hc), e]
    exact stop_all er hr fun _ _ z => nomatch z
  · unfold rowsX
    have ec' : wordsT ((linesT (shown cs rs)).headD Str.empty) = cs := ec
    rw [ec', e]
    show (rs.map wr).map (fun l => (rowOf l cs.length).getD []) = rs
    have : (rs.map wr).map (fun l => (rowOf l cs.length).getD []) = ((rs.map wr).map fun l => rowOf l cs.length).map fun o => o.getD [] := by simp only [List.map_map]; rfl
    rw [this, er, List.map_map]
    exact List.map_id rs
end T89

set_option maxHeartbeats 2000000
namespace T89
open PySem L2 PyProof.Rows TX TY TW TD TB TG TUD TE TK TL TLL
section
variable {P : Program} {w : World} {K : PySem.W.Frag} {mg : Str → Option Value} {base : Heap}
variable {fW fN fA fR fK fS : Addr} {dW dN dA dR dK dS : FuncData}
def optN : Option Int → V
  | none => .non
  | some i => .int i
theorem starts_one (x : Str) (c : Nat) : Txt.startswith x (S [c]) = ((cps x).head? == some c) := by
  have hy : tl (S [c]) ≠ [] := List.cons_ne_nil _ _
  have e := at_iff (x := x) hy 0
  have e1 : Txt.startswith x (S [c]) = true ↔ StrLaws.At x (S [c]) x.length 0 := by
    unfold Txt.startswith StrLaws.At
    rw [Bool.and_eq_true, decide_eq_true_iff]
  have e2 : pre (tl (S [c])) ((tl x).drop 0) = true ↔ ((cps x).head? == some c) = true := by
    rw [List.drop_zero]
    show ((cps x).take 1 == [c]) = true ↔ _
    cases cps x with
    | nil => exact ⟨(fun z => by cases z), (fun z => by cases z)⟩
    | cons d r =>
      show ([d] == [c]) = true ↔ (some d == some c) = true
      rw [beq_iff_eq, beq_iff_eq]
      exact ⟨(fun z => by injection z with z; rw [z]), (fun z => by injection z with z; rw [z])⟩
  rw [Bool.eq_iff_iff]
  exact e1.trans (e.trans e2)
def figS (x : Str) : Str := S (figs (cps x))
theorem str_mi : Str.ofString "-" = S [45] := by decide +kernel
theorem str_0 : Str.ofString "0" = S [48] := by decide +kernel
theorem str_9 : Str.ofString "9" = S [57] := by decide +kernel
theorem fig_if (x : Str) : (if ((cps x).head? == some 45) = true then cutS x (some 1) none else x) = figS x := by
  have e : x = S (cps x) := (S_cps_eta x).symm
  unfold figS
  rcases figs_cases (cps x) with ⟨r, e1, e2⟩ | ⟨e2, e1⟩
  · rw [e2, if_pos (by rw [e1]; rfl)]
    conv => lhs; rw [e, cutS_S, e1]
    rw [HT.sIx_none, show (some (1 : Int)) = some ((1 : Nat) : Int) from rfl, HT.sIx_nat, List.length_cons, Nat.min_eq_left (by omega)]
    show S (r.take _) = S r
    rw [List.take_of_length_le (by omega)]
  · rw [e2, if_neg, ← e]
    intro z
    cases h : cps x with
    | nil => rw [h] at z; cases z
    | cons d r =>
      rw [h] at z
      have : d = 45 := by simpa using z
      exact e1 r (by rw [h, this])
theorem sml2 {n : Nat} (h : n ≤ 1000000) : n + 2 ≤ sizeLine := Nat.le_trans (show n + 2 ≤ 1000002 by omega) (by decide)
theorem sq_asg {te : TE} {g : TG} {B : TS} {D : Ends} {s : L2.St} {H : Hp} (h : te s H fun x H1 => g x s H1 (B D)) : tSeq (tAsg te g) B D s H := h
abbrev rSw : V → List V → Hp → VK → Prop := fun x xs H Q => ∃ a b, x = V.str a ∧ xs = [V.str b] ∧ Q (V.bl (Txt.startswith a b)) H
theorem rd_fig {x : Str} {σ : L2.St} {H : Hp} {Q : VK} (h0 : σ[0]? = some (some (.str x))) (hx : x.length ≤ 1000000) (q : Q (.str (figS x)) H) : tIf (tB (tM1 rSw (tVar 0) (tC (.str "-")))) (tSl rSlS (tVar 0) (tPart (tC (.int 1))) tNoPart) (tVar 0) σ H Q := by
  refine ⟨_, h0, ⟨x, rfl⟩, x, _, rfl, rfl, _, rfl, ?_⟩
  rw [str_mi, starts_one]
  dsimp only
  have e := fig_if x
  by_cases c : ((cps x).head? == some 45) = true
  · rw [if_pos c] at e ⊢
    exact ⟨_, h0, _, rfl, x, rfl, sml hx, by rw [e]; exact q⟩
  · rw [if_neg c] at e ⊢
    exact ⟨_, h0, by rw [e]; exact q⟩
abbrev N_number : List Str := ["text", "figures", "sign"]
theorem sc_number : FnScope N_number ["text"] (defScope s_number) := ⟨rfl, rfl, rfl, by decide +kernel, rfl, by decide +kernel, by decide +kernel⟩
/-- the constant of the module -/
structure Cf (mg : Str → Option Value) : Prop where
  most : ∃ t, mg "MOST_FIGURES" = some (.int 40 t)
def sp_number : Sp := fun vs H Q _ => ∃ x : Str, vs = [.str x] ∧ x.length ≤ 1000000 ∧ ∀ H', Same H H' → Q (optN (numT x)) H'
theorem ok_number {f : Addr} {fd : FuncData} (F : Fn K mg "number_of" s_number ["text"] f fd) (B : Bn mg) (Cg : Cf mg) : FnOk P w K mg base CX0 1 f fd ["text"] sp_number := by
  refine F.F.ok sc_number (fun vs H Q E h => ?_) (fun cdv A outer s H vs Q E hr h => ?_)
  · obtain ⟨x, rfl, _⟩ := h
    rfl
  · obtain ⟨x, rfl, hx, q⟩ := h
    have nd := sc_number.nd
    obtain ⟨tf, hmf⟩ := Cg.most
    refine ⟨_, pss_cons (ps_set (i := 1) nd rfl (Or.inl rfl) (pe_ifExp (pt_val (pe_m1 PySem.F.slot_str_startswith PySem.F.type_str_startswith mt_startswith (pv 0) pe_str)) (pe_slice sl_str (pv 0) (po_some pe_int) po_none) (pv 0)))
      (pss_cons (ps_if (PW.pt (pw_or (pt_not (pt_chain op_le op_le pe_int (pe_callB call_len_str (by rfl) B.len PySem.boot_len (pa_cons (pv 1) pa_nil)) (pe_glob (v := .int 40) (by rfl) hmf ⟨_, rfl⟩)))
          (pw_or1 (pt_not (pt_val (pe_callB (cr_all rfl) (by rfl) B.all boot_all (pa_cons (pe_lc (own := [("sign", 2)]) (g := gName 2) (tt := tYes) rfl nd (pi_str (pv 1)) (blkOk_by (N := N_number) (sc := defScope s_number) (by decide +kernel))
            (fun _ _ _ _ _ => pg_name (i := 2) nd rfl (Or.inl rfl)) (fun _ _ _ _ _ => pts_nil) (fun _ _ _ _ _ => pe_chain op_le_str op_le_str pe_str (pv 2) pe_str)) pa_nil))))))) (pss_one (ps_ret pe_non)) pss_nil)
      (pss_cons (ps_if (PW.pt (pw_and (pt_val (pe_m1 PySem.F.slot_str_startswith PySem.F.type_str_startswith mt_startswith (pv 1) pe_str)) (pw_and1 (pt_cmpR op_ne (pv 0) pe_str (nomark _))))) (pss_one (ps_ret pe_non)) pss_nil)
      (pss_one (ps_ret (pe_callTy call_int_str (by rfl) B.int boot_int (pa_cons (pv 0) pa_nil)))))), ?_⟩
    have big : ∀ {n : Nat}, n ≤ 1000000 → n ≤ sizeLine := fun h => sml h
    have hlx := len_cps x
    have fl : (figS x).length = (figs (cps x)).length := S_len _
    have fle : (figs (cps x)).length ≤ 1000000 := by
      rcases figs_cases (cps x) with ⟨r, e1, e2⟩ | ⟨e2, _⟩
      · rw [e2]
        rw [e1, List.length_cons] at hlx
        omega
      · rw [e2]
        omega
    have no : okN (cps x) = false → Q .non H := fun z => by
      have := q H same_rfl
      unfold numT at this
      rw [if_neg (by rw [z]; exact Bool.false_ne_true)] at this
      exact this
    have no' : okN (cps x) = false → ∀ H', Same H H' → Q .non H' := fun z H' s => by
      have := q H' s
      unfold numT at this
      rw [if_neg (by rw [z]; exact Bool.false_ne_true)] at this
      exact this
    refine sq_asg (rd_fig rfl hx ?_)
    dsimp only [gName]
    have bigF : (figS x).length ≤ 1000000 := by omega
    by_cases h1 : 1 ≤ (figs (cps x)).length
    · by_cases h2 : (figs (cps x)).length ≤ 40
      · refine ⟨_, rfl, figS x, rfl, sml bigF, _, _, rfl, rfl, true, ?_, _, _, rfl, rfl, true, ?_, ?_⟩
        · exact congrArg V.bl (decide_eq_true (show (1 : Int) ≤ ((figS x).length : Int) by omega))
        · exact congrArg V.bl (decide_eq_true (show ((figS x).length : Int) ≤ 40 by omega))
        have lc : (figS x).cps.toList = figs (cps x) := S_cps _
        refine ⟨_, rfl, figS x, rfl, fun L nL => ?_⟩
        refine lc_it walk_str (fun i H' => H' L = some (.lst ((((figs (cps x)).take i).map isD).map V.bl)) ∧ Same H H') ⟨upd_same, Same.new nL⟩ (fun _ _ _ _ => trivial) ?_ ?_
        · rintro i v H1 H1' hi ⟨e1, s1⟩ ⟨rfl, c, hc, rfl⟩
          refine ⟨rfl, ?_⟩
          have hc' : (figs (cps x))[i]? = some c := by rw [← lc, Array.getElem?_toList]; exact hc
          have key : ∀ b : Bool, isD c = b → ∃ xs, H1' L = some (.lst xs) ∧ xs.length < sizeLine ∧ (upd H1' L (.lst (xs ++ [V.bl b])) L = some (.lst ((((figs (cps x)).take (i + 1)).map isD).map V.bl)) ∧ Same H (upd H1' L (.lst (xs ++ [V.bl b])))) := by
            intro b hb
            refine ⟨_, e1, ?_, ?_, Same.mut s1 nL⟩
            · rw [List.length_map, List.length_map, List.length_take]
              exact line100' (by omega)
            · rw [upd_same, List.take_add_one, hc', List.map_append, List.map_append, ← hb]
              rfl
          have l1 : (!decide ([c] < (Str.ofString "0").cps.toList)) = decide (48 ≤ c) := by
            rw [str_0, S_cps]
            have := lt_sign c 48
            by_cases z : c < 48
            · rw [decide_eq_true (this.mpr z), decide_eq_false (by omega)]
              rfl
            · rw [decide_eq_false (fun y => z (this.mp y)), decide_eq_true (by omega)]
              rfl
          have l2 : (!decide ((Str.ofString "9").cps.toList < [c])) = decide (c ≤ 57) := by
            rw [str_9, S_cps]
            have := lt_sign 57 c
            by_cases z : 57 < c
            · rw [decide_eq_true (this.mpr z), decide_eq_false (by omega)]
              rfl
            · rw [decide_eq_false (fun y => z (this.mp y)), decide_eq_true (by omega)]
              rfl
          refine ⟨_, rfl, _, _, rfl, rfl, decide (48 ≤ c), ?_, ?_⟩
          · exact congrArg V.bl l1
          cases ha : decide (48 ≤ c) with
          | true =>
            refine ⟨_, _, rfl, rfl, ?_⟩
            have := key (!decide ((Str.ofString "9").cps.toList < [c])) (by unfold isD; rw [ha, Bool.true_and, l2])
            exact this
          | false => exact key false (by unfold isD; rw [ha, Bool.false_and])
        · rintro H1 ⟨e1, s1⟩
          rw [show (figS x).cps.size = (figs (cps x)).length by rw [← lc, Array.length_toList], List.take_length] at e1
          refine ⟨L, (figs (cps x)).map isD, rfl, .of e1, ?_⟩
          have e2 : ((figs (cps x)).map isD).all id = (figs (cps x)).all isD := by rw [List.all_map]; rfl
          rw [e2]
          refine ⟨_, rfl, ?_⟩
          cases h3 : (figs (cps x)).all isD with
          | false => exact no' (by unfold okN; rw [h3, Bool.false_and, Bool.and_false]) H1 s1
          | true =>
            refine ⟨_, rfl, ⟨_, rfl⟩, figS x, _, rfl, rfl, _, rfl, ?_⟩
            rw [str_0, starts_one]
            have hh : (cps (figS x)).head? = (figs (cps x)).head? := by rw [show cps (figS x) = figs (cps x) from lc]
            rw [hh]
            have okc : okN (cps x) = !((figs (cps x)).head? == some 48 && !decide (cps x = [48])) := by
              unfold okN
              rw [decide_eq_true h1, decide_eq_true h2, h3, Bool.true_and, Bool.true_and, Bool.true_and]
            have fin : okN (cps x) = true → ∃ n, intText? x = some n ∧ x.length ≤ 640 ∧ Q (.int n) H1 := fun z => by
              obtain ⟨n, e1, _, e3, _⟩ := numT_some z
              have := q H1 s1
              unfold numT at this
              rw [if_pos z, e1] at this
              exact ⟨n, e1, by omega, this⟩
            by_cases c48 : ((figs (cps x)).head? == some 48) = true
            · rw [c48]
              dsimp only
              rw [if_pos rfl]
              refine ⟨_, rfl, rfl, _, rfl, ?_⟩
              by_cases c0 : cps x = [48]
              · have e0 : x = S [48] := by rw [← S_cps_eta x, c0]
                rw [decide_eq_true (show V.str x = V.str (S [48]) by rw [e0]), Bool.not_true]
                dsimp only
                rw [if_neg Bool.false_ne_true]
                obtain ⟨n, k1, k2, k3⟩ := fin (by rw [okc, c48, decide_eq_true c0]; rfl)
                exact ⟨_, rfl, x, n, rfl, k1, k2, k3⟩
              · rw [decide_eq_false (show ¬ V.str x = V.str (S [48]) from fun z => c0 (by injection z with z; rw [z]; rfl)), Bool.not_false]
                dsimp only
                rw [if_pos rfl]
                exact no' (by rw [okc, c48, decide_eq_false c0]; rfl) H1 s1
            · have c48' : ((figs (cps x)).head? == some 48) = false := by simpa using c48
              rw [c48']
              dsimp only
              rw [if_neg Bool.false_ne_true, if_neg Bool.false_ne_true]
              obtain ⟨n, k1, k2, k3⟩ := fin (by rw [okc, c48']; rfl)
              exact ⟨_, rfl, x, n, rfl, k1, k2, k3⟩
      · refine ⟨_, rfl, figS x, rfl, sml bigF, _, _, rfl, rfl, true, ?_, _, _, rfl, rfl, false, ?_, ?_⟩
        · exact congrArg V.bl (decide_eq_true (show (1 : Int) ≤ ((figS x).length : Int) by omega))
        · exact congrArg V.bl (decide_eq_false (show ¬ ((figS x).length : Int) ≤ 40 by omega))
        exact no (by unfold okN; rw [decide_eq_false h2, Bool.and_false, Bool.false_and])
    · refine ⟨_, rfl, figS x, rfl, sml bigF, _, _, rfl, rfl, false, ?_, false, rfl, ?_⟩
      · exact congrArg V.bl (decide_eq_false (show ¬ (1 : Int) ≤ ((figS x).length : Int) by omega))
      exact no (by unfold okN; rw [decide_eq_false h1, Bool.false_and, Bool.false_and])
/-- the words of a line -/
abbrev rSp : V → List V → Hp → VK → Prop := fun x xs H Q => ∃ a b, x = V.str a ∧ xs = [V.str b] ∧ (b.length == 0) = false ∧ a.length + 2 ≤ sizeLine ∧ rNewStrs (Txt.split a b) H Q
theorem empty_iff (x : Str) : V.str x = V.str (Str.ofString "") ↔ x.length = 0 := by
  constructor
  · intro z
    injection z with z
    rw [z]
    decide +kernel
  · intro z
    have : x = Str.ofString "" := by
      apply str_eq
      have e : (cps x).length = 0 := by rw [← len_cps]; exact z
      rw [List.length_eq_zero_iff.mp e]
      decide +kernel
    rw [this]
theorem rd_words {x : Str} {te : TE} {σ : L2.St} {H : Hp} {Q : VK} (h0 : ∀ Q' : VK, Q' (.str x) H → te σ H Q') (hx : x.length ≤ 1000000) (q : ∀ H' L, Same H H' → H L = none → H' L = some (.lst ((wordsT x).map V.str)) → Q (.ref L) H') :
    tIf (tTest (tOp rNe te (tC (.str "")))) (tM1 rSp te (tC (.str ","))) (tLst tNil) σ H Q := by
  refine h0 _ ⟨rfl, _, rfl, ?_⟩
  by_cases e : x.length = 0
  · rw [decide_eq_true ((empty_iff x).mpr e), Bool.not_true]
    dsimp only
    rw [if_neg Bool.false_ne_true]
    refine ⟨by decide, fun L nL => q _ L (Same.new nL) nL ?_⟩
    rw [upd_same]
    unfold wordsT
    rw [if_pos e]
    rfl
  · rw [decide_eq_false (fun z => e ((empty_iff x).mp z)), Bool.not_false]
    dsimp only
    rw [if_pos rfl]
    refine h0 _ ⟨⟨x, rfl⟩, x, _, rfl, rfl, by decide +kernel, sml2 hx, fun L nL => q _ L (Same.new nL) nL ?_⟩
    rw [upd_same]
    unfold wordsT
    rw [if_neg e]
    rfl
/-- the numbers of a line -/
abbrev N_numbers : List Str := ["text", "many", "words", "numbers", "word"]
theorem sc_numbers : FnScope N_numbers ["text", "many"] (defScope s_numbers) := ⟨rfl, rfl, rfl, by decide +kernel, rfl, by decide +kernel, by decide +kernel⟩
def sp_numbers : Sp := fun vs H Q _ => ∃ (x : Str) (many : Nat), vs = [.str x, .int many] ∧ x.length ≤ 1000000 ∧ (rowOf x many = none → ∀ H', Same H H' → Q .non H') ∧ (∀ r, rowOf x many = some r → ∀ H' p, Same H H' → H' p = some (.tup (r.map V.int)) → Q (.ref p) H')
theorem words_few {x : Str} (h : x.length ≤ 1000000) : (wordsT x).length ≤ 1000002 := by
  unfold wordsT
  split
  · exact Nat.zero_le _
  · have := split_le x CMs
    omega
theorem inV_opt : ∀ (os : List (Option Int)), inV .non (os.map optN) = !os.all Option.isSome := by
  intro os
  induction os with
  | nil => rfl
  | cons o os ih =>
    show (eqV (optN o) .non || inV .non (os.map optN)) = _
    rw [ih, List.all_cons]
    cases o <;> rfl
theorem ok_numbers {f fN : Addr} {fd dN : FuncData} (F : Fn K mg "numbers_of" s_numbers ["text", "many"] f fd) (FN : Fn K mg "number_of" s_number ["text"] fN dN) (B : Bn mg) (Cg : Cf mg) : FnOk P w K mg base CX0 2 f fd ["text", "many"] sp_numbers := by
  have GN : FnOk P w K mg base CX0 1 fN dN ["text"] sp_number := ok_number FN B Cg
  refine F.F.ok sc_numbers (fun vs H Q E h => ?_) (fun cdv A outer s H vs Q E hr h => ?_)
  · obtain ⟨x, many, rfl, _⟩ := h
    rfl
  · obtain ⟨x, many, rfl, hx, q0, q1⟩ := h
    have nd := sc_numbers.nd
    refine ⟨_, pss_cons (ps_set (i := 2) nd rfl (Or.inl rfl) (pe_ifExp (pt_cmpR op_ne (pv 0) pe_str (nomark _)) (pe_split (pv 0) pe_str) (pe_lst pa_nil)))
      (pss_cons (ps_set (i := 3) nd rfl (Or.inl rfl) (pe_callTy call_tu (by rfl) B.tuple boot_tuple (pa_cons (pe_lc (own := [("word", 4)]) (g := gName 4) (tt := tYes) (te := tCall sp_number [] E0 (tCons (tVar 4) tNil)) rfl nd (pi_list (pv 2)) (blkOk_by (N := N_numbers) (sc := defScope s_numbers) (by decide +kernel))
          (fun _ _ _ _ _ => pg_name (i := 4) nd rfl (Or.inl rfl)) (fun _ _ _ _ _ => pts_nil) (fun _ _ _ _ _ => pe_call GN hr rfl FN.g FN.F.kp FN.b .nil pass0 (pa_cons (pv 4) pa_nil))) pa_nil)))
      (pss_cons (ps_if (PW.pt (pw_or (pt_cmpR op_ne (pe_callB call_len_seq (by rfl) B.len PySem.boot_len (pa_cons (pv 3) pa_nil)) (pv 1) (nomark _)) (pw_or1 (pt_cmpR op_in_seq pe_non (pv 3) rfl)))) (pss_one (ps_ret pe_non)) pss_nil)
      (pss_one (ps_ret (pv 3))))), ?_⟩
    refine sq_asg (rd_words (fun Q' h => ⟨_, rfl, h⟩) hx fun H1 L s1 nL eL => ?_)
    dsimp only [gName]
    have few := words_few hx
    refine sq_asg ?_
    dsimp only [tCB, tCons, tNil, List.map]
    have wl : ∀ w ∈ wordsT x, w.length ≤ 1000000 := fun w hw => Nat.le_trans (words_len hw) hx
    generalize hW : wordsT x = ws at eL few wl
    refine ⟨_, rfl, L, rfl, ⟨_, .of eL⟩, fun D nD => ?_⟩
    refine lc_it (walk_list (xs := ws.map V.str)) (fun i h => h D = some (.lst (((ws.take i).map numT).map optN)) ∧ Same H1 h) ⟨upd_same, Same.new nD⟩ (fun i h _ ⟨_, s⟩ => .of (s _ _ eL)) ?_ ?_
    · rintro i v h h' hi ⟨e4, s4⟩ ⟨rfl, hv⟩
      rw [List.length_map] at hi
      obtain ⟨wd, hwd, rfl⟩ : ∃ m, ws[i]? = some m ∧ v = V.str m := by
        rw [List.getElem?_map, List.getElem?_eq_getElem hi] at hv
        exact ⟨_, List.getElem?_eq_getElem hi, (Option.some.inj hv).symm⟩
      refine ⟨rfl, ?_⟩
      refine ⟨_, rfl, wd, rfl, wl wd (List.mem_of_getElem? hwd), fun h5 s5 => ?_⟩
      refine ⟨_, s5 _ _ e4, ?_, ?_, Same.mut (s4.trans s5) nD⟩
      · rw [List.length_map, List.length_map, List.length_take]
        exact Nat.lt_of_le_of_lt (show _ ≤ 1000002 by omega) (by decide)
      · rw [upd_same, List.take_add_one, hwd, List.map_append, List.map_append]
        rfl
    · rintro h ⟨e4, s4⟩
      rw [List.length_map, List.take_length] at e4
      refine ⟨D, _, rfl, .inl ⟨.of e4, fun Tt nT => ?_⟩⟩
      have s5 : Same h (upd h Tt (.tup ((ws.map numT).map optN))) := Same.new nT
      have eT : upd h Tt (.tup ((ws.map numT).map optN)) Tt = some (.tup ((ws.map numT).map optN)) := upd_same
      have t5 := (s1.trans s4).trans s5
      generalize upd h Tt (.tup ((ws.map numT).map optN)) = h5 at s5 eT t5 ⊢
      dsimp only [gName]
      refine ⟨_, rfl, Tt, _, rfl, .inr (.of eT), _, rfl, rfl, _, rfl, ?_⟩
      have rowE : rowOf x many = if ws.length = many ∧ ws.all (fun w => (numT w).isSome) = true then some (ws.map fun w => (numT w).getD 0) else none := by
        unfold rowOf
        rw [hW]
      by_cases hl : ws.length = many
      · rw [decide_eq_true (show V.int (((ws.map numT).map optN).length : Int) = V.int (many : Int) by rw [List.length_map, List.length_map, hl]), Bool.not_true]
        dsimp only
        rw [if_neg Bool.false_ne_true]
        have fl : ((ws.map numT).map optN).all flatV = true := by
          rw [List.all_eq_true]
          intro v hv
          obtain ⟨o, _, rfl⟩ := List.mem_map.mp hv
          cases o <;> rfl
        refine ⟨_, rfl, Tt, _, rfl, .inr (.of eT), rfl, fl, _, rfl, ?_⟩
        have ea : (ws.map numT).all Option.isSome = ws.all fun w => (numT w).isSome := by rw [List.all_map]; rfl
        rw [if_neg Bool.false_ne_true, inV_opt, ea]
        cases ha : ws.all fun w => (numT w).isSome with
        | false =>
          rw [Bool.not_false]
          dsimp only
          rw [if_pos rfl]
          refine q0 ?_ h5 t5
          rw [rowE, if_neg]
          rintro ⟨_, z⟩
          rw [ha] at z
          cases z
        | true =>
          rw [Bool.not_true]
          dsimp only
          rw [if_neg Bool.false_ne_true]
          refine ⟨_, rfl, q1 (ws.map fun w => (numT w).getD 0) (by rw [rowE, if_pos ⟨hl, ha⟩]) h5 Tt t5 ?_⟩
          rw [eT, List.map_map, List.map_map]
          congr 2
          refine List.map_congr_left fun w hw => ?_
          have hs := List.all_eq_true.mp ha w hw
          show optN (numT w) = V.int ((numT w).getD 0)
          cases hn : numT w with
          | none => rw [hn] at hs; cases hs
          | some n => rfl
      · rw [decide_eq_false (show ¬ V.int (((ws.map numT).map optN).length : Int) = V.int (many : Int) by rw [List.length_map, List.length_map]; intro z; injection z with z; omega), Bool.not_false]
        dsimp only
        rw [if_pos rfl]
        refine q0 ?_ h5 t5
        rw [rowE, if_neg]
        rintro ⟨z, _⟩
        exact hl z
end
end T89

set_option maxHeartbeats 2000000
namespace T89
open PySem L2 PyProof.Rows TX TY TW TD TB TG TUD TE TK TL TLL
theorem join_len (y : Str) (hy : y.length = 1) : ∀ ls : List Str, (Txt.join y ls).length ≤ (ls.map fun l => l.length).sum + ls.length := by
  intro ls
  have e : (Txt.join y ls).length = (joinL (tl y) (ls.map tl)).length := by rw [join_eq, len_tl, tl_join]
  rw [e]
  have hy' : (tl y).length = 1 := by rw [← len_tl]; exact hy
  clear e
  induction ls with
  | nil => exact Nat.zero_le _
  | cons l ls ih =>
    cases ls with
    | nil =>
      show (tl l).length ≤ _
      rw [← len_tl, List.map_cons, List.sum_cons]
      omega
    | cons m ls =>
      show (tl l ++ (tl y ++ joinL (tl y) ((m :: ls).map tl))).length ≤ _
      have e1 : ((l :: m :: ls).map fun l => l.length).sum = l.length + ((m :: ls).map fun l => l.length).sum := rfl
      have e2 : (l :: m :: ls).length = (m :: ls).length + 1 := rfl
      rw [List.length_append, List.length_append, hy', ← len_tl, e1, e2]
      omega
theorem num_len {i : Int} (h : i.natAbs < 10 ^ 40) : (Str.ofString (toString i)).length ≤ 41 := by
  rcases Int.lt_or_le i 0 with hi | hi
  · obtain ⟨n, rfl, hp⟩ : ∃ n : Nat, i = -(n : Int) ∧ 0 < n := ⟨i.natAbs, by omega, by omega⟩
    rw [Int.natAbs_neg, Int.natAbs_natCast] at h
    have := numL_len (n := n) (k := 40) (by decide) h
    rw [len_cps, tl_neg hp, List.length_cons]
    omega
  · obtain ⟨n, rfl⟩ := Int.eq_ofNat_of_zero_le hi
    rw [Int.natAbs_natCast] at h
    have e : cps (Str.ofString (toString (n : Int))) = numL n := tl_num n
    have := numL_len (n := n) (k := 40) (by decide) h
    rw [len_cps, e]
    omega
theorem sum_le {f : Str → Nat} {b : Nat} : ∀ {ls : List Str}, (∀ l ∈ ls, f l ≤ b) → (ls.map f).sum ≤ b * ls.length
  | [], _ => Nat.zero_le _
  | l :: ls, h => by
    rw [List.map_cons, List.sum_cons, List.length_cons, Nat.mul_succ]
    have := sum_le (f := f) (b := b) (ls := ls) fun x hx => h x (List.mem_cons_of_mem _ hx)
    have := h l List.mem_cons_self
    omega
theorem wr_len {r : List Int} (hl : r.length ≤ 8) (h : ∀ i ∈ r, i.natAbs < 10 ^ 40) : (wr r).length ≤ 340 := by
  have := join_len CMs (by decide +kernel) (r.map fun i => Str.ofString (toString i))
  have s : ((r.map fun i => Str.ofString (toString i)).map fun l => l.length).sum ≤ 41 * (r.map fun i => Str.ofString (toString i)).length := sum_le fun l hl => by
    obtain ⟨i, hi, rfl⟩ := List.mem_map.mp hl
    exact num_len (h i hi)
  rw [List.length_map] at this s
  unfold wr
  omega
section
variable {P : Program} {w : World} {K : PySem.W.Frag} {mg : Str → Option Value} {base : Heap}
variable {fW fN fA fR fK fS : Addr} {dW dN dA dR dK dS : FuncData}
theorem sc_written : FnScope ["numbers", "number"] ["numbers"] (defScope s_written) := ⟨rfl, rfl, rfl, by decide +kernel, rfl, by decide +kernel, by decide +kernel⟩
def sp_written : Sp := fun vs H Q _ => ∃ (a : Addr) (r : List Int), vs = [.ref a] ∧ H a = some (.tup (r.map V.int)) ∧ r.length ≤ 8 ∧ (∀ i ∈ r, i.natAbs < 10 ^ 40) ∧ ∀ H', Same H H' → Q (.str (wr r)) H'
theorem ok_written {f : Addr} {fd : FuncData} (F : Fn K mg "written" s_written ["numbers"] f fd) (B : Bn mg) : FnOk P w K mg base CX0 1 f fd ["numbers"] sp_written := by
  refine F.F.ok sc_written (fun vs H Q E h => ?_) (fun cdv A outer s H vs Q E hr h => ?_)
  · obtain ⟨a, r, rfl, _⟩ := h
    rfl
  · obtain ⟨a, r, rfl, ha, hl, hb, q⟩ := h
    have nd := sc_written.nd
    refine ⟨_, pss_one (ps_ret (pe_join pe_str (pe_lc (own := [("number", 1)]) (g := gName 1) (tt := tYes) rfl nd (pi_tup (pv 0)) (blkOk_by (N := ["numbers", "number"]) (sc := defScope s_written) (by decide +kernel))
          (fun _ _ _ _ _ => pg_name (i := 1) nd rfl (Or.inl rfl)) (fun _ _ _ _ _ => pts_nil) (fun _ _ _ _ _ => pe_callTy call_str_int (by rfl) B.str boot_str (pa_cons (pv 1) pa_nil))))), ?_⟩
    refine ⟨⟨_, rfl⟩, _, rfl, a, rfl, ⟨_, .of ha⟩, fun D nD => ?_⟩
    refine lc_it (walk_tup (xs := r.map V.int)) (fun i h => h D = some (.lst (((r.take i).map fun i => Str.ofString (toString i)).map V.str)) ∧ Same H h) ⟨upd_same, Same.new nD⟩ (fun i h _ ⟨_, s⟩ => .of (s _ _ ha)) ?_ ?_
    · rintro i v h h' hi ⟨e4, s4⟩ ⟨rfl, hv⟩
      rw [List.length_map] at hi
      obtain ⟨n, hn, rfl⟩ : ∃ m, r[i]? = some m ∧ v = V.int m := by
        rw [List.getElem?_map, List.getElem?_eq_getElem hi] at hv
        exact ⟨_, List.getElem?_eq_getElem hi, (Option.some.inj hv).symm⟩
      refine ⟨rfl, ?_⟩
      have nb := hb n (List.mem_of_getElem? hn)
      refine ⟨_, rfl, n, rfl, Nat.lt_of_lt_of_le (PySem.Flt.log2_lt_of (k := 140) (by decide) (Nat.lt_trans nb (by decide +kernel))) (by decide), ?_⟩
      refine ⟨_, e4, ?_, ?_, Same.mut s4 nD⟩
      · rw [List.length_map, List.length_map, List.length_take]
        exact line100' (by omega)
      · rw [upd_same, List.take_add_one, hn, List.map_append, List.map_append]
        rfl
    · rintro h ⟨e4, s4⟩
      rw [List.length_map, List.take_length] at e4
      refine ⟨_, D, _, rfl, rfl, .inl (.of e4), ?_, q h s4⟩
      have s1 := sum_le (f := fun l => l.length) (b := 41) (ls := r.map fun i => Str.ofString (toString i)) fun l hl => by
        obtain ⟨i, hi, rfl⟩ := List.mem_map.mp hl
        exact num_len (hb i hi)
      rw [List.length_map] at s1 ⊢
      have : (Str.ofString ",").length = 1 := by decide +kernel
      rw [this]
      omega
/-- the class of tables with what is called of it -/
structure Bd (K : PySem.W.Frag) (mg : Str → Option Value) (C fI hc hr he : Addr) (dI gc gr ge : FuncData) : Prop where
  c : Bc K mg C
  iF : FunD K "__init__" "Table.__init__" (defArgs s_binit) (defBody s_binit) (defScope s_binit) [.non] [] fI dI
  iM : Mk K C fI
  iB : Binds K dI ["self", "columns", "rows"] []
  cols : Mt K C "columns" "Table.columns" s_bcolumns ["self"] hc gc
  rows : Mt K C "rows" "Table.rows" s_brows ["self"] hr gr
  eq : Mt K C "__eq__" "Table.__eq__" s_beq ["self", "other"] he ge
  ne : PySem.W.findIn K (.ref C) "__ne__" = some (some (.builtin "object.__ne__"))
  ns : PySem.W.notFirst K C (.ref C) = true
variable {C fI hc hr he : Addr} {dI gc gr ge : FuncData}
theorem nocols (l r : Addr) : (bflds l r).lookup ("columns" : Str) = none := bflds_no l r (by decide +kernel) (by decide +kernel)
theorem norows (l r : Addr) : (bflds l r).lookup ("rows" : Str) = none := bflds_no l r (by decide +kernel) (by decide +kernel)
/-- a table, with what is known of it -/
structure Tb (C : Addr) (H : Hp) (t : Addr) (cs : List Str) (rs : List (List Int)) : Prop where
  at_ : TabAt C H t cs rs
  cok : Cs cs
  len : ∀ r ∈ rs, r.length = cs.length ∧ ∀ i ∈ r, i.natAbs < 10 ^ 40
  few : rs.length ≤ 60
  rise : Rise rs
theorem Tb.same {H H' : Hp} {t : Addr} {cs : List Str} {rs : List (List Int)} (h : Tb C H t cs rs) (s : Same H H') : Tb C H' t cs rs := ⟨h.at_.same s, h.cok, h.len, h.few, h.rise⟩
theorem cols_len {cs : List Str} (h : Cs cs) : (Txt.join CMs cs).length ≤ 72 := by
  have := join_len CMs (by decide +kernel) cs
  have s := sum_le (f := fun l => l.length) (b := 8) (ls := cs) fun l hl => (h.ok l hl).2.1
  have := h.le
  omega
theorem shown_len {cs : List Str} {rs : List (List Int)} (hc : Cs cs) (h : ∀ r ∈ rs, r.length = cs.length ∧ ∀ i ∈ r, i.natAbs < 10 ^ 40) (few : rs.length ≤ 60) : (shown cs rs).length ≤ 30000 := by
  have a := join_len NLs (by decide +kernel) (Txt.join CMs cs :: rs.map wr)
  have b := sum_le (f := fun l => l.length) (b := 340) (ls := rs.map wr) fun l hl => by
    obtain ⟨r, hr, rfl⟩ := List.mem_map.mp hl
    exact wr_len (by rw [(h r hr).1]; exact hc.le) (h r hr).2
  have c := cols_len hc
  have e1 : ((Txt.join CMs cs :: rs.map wr).map fun l => l.length).sum = (Txt.join CMs cs).length + ((rs.map wr).map fun l => l.length).sum := rfl
  have e2 : (Txt.join CMs cs :: rs.map wr).length = (rs.map wr).length + 1 := rfl
  rw [List.length_map] at b
  rw [e1, e2, List.length_map] at a
  unfold shown
  omega
theorem sc_show : FnScope ["table", "row"] ["table"] (defScope s_show) := ⟨rfl, rfl, rfl, by decide +kernel, rfl, by decide +kernel, by decide +kernel⟩
def sp_show (C : Addr) : Sp := fun vs H Q _ => ∃ (t : Addr) (cs : List Str) (rs : List (List Int)), vs = [.ref t] ∧ Tb C H t cs rs ∧ ∀ H', Same H H' → Q (.str (shown cs rs)) H'
theorem ok_show {f fN : Addr} {fd dN : FuncData} (F : Fn K mg "show_table" s_show ["table"] f fd) (FN : Fn K mg "written" s_written ["numbers"] fN dN) (B : Bn mg) (D : Bd K mg C fI hc hr he dI gc gr ge) : FnOk P w K mg base CX0 2 f fd ["table"] (sp_show C) := by
  have GN : FnOk P w K mg base CX0 1 fN dN ["numbers"] sp_written := ok_written FN B
  have c := D.c
  have GC : FnOk P w K mg base CX0 1 hc gc ["self"] (sp_bcolumns C) := ok_bcolumns D.cols.F B c
  have GR : FnOk P w K mg base CX0 1 hr gr ["self"] (sp_brows C) := ok_brows D.rows.F B c
  refine F.F.ok sc_show (fun vs H Q E h => ?_) (fun cdv A outer s H vs Q E hr h => ?_)
  · obtain ⟨t, cs, rs, rfl, _⟩ := h
    rfl
  · obtain ⟨t, cs, rs, rfl, tb, q⟩ := h
    have nd := sc_show.nd
    refine ⟨_, pss_one (ps_ret (pe_join pe_str (pe_op op_cat (pe_lst (pa_cons (pe_join pe_str (pe_meth0 (pv 0) c.cl D.cols.me GC hr D.cols.b .nil pass0)) pa_nil))
        (pe_lc (own := [("row", 1)]) (g := gName 1) (tt := tYes) (te := tCall sp_written [] E0 (tCons (tVar 1) tNil)) rfl nd (pi_list (pe_meth0 (pv 0) c.cl D.rows.me GR hr D.rows.b .nil pass0)) (blkOk_by (N := ["table", "row"]) (sc := defScope s_show) (by decide +kernel))
          (fun _ _ _ _ _ => pg_name (i := 1) nd rfl (Or.inl rfl)) (fun _ _ _ _ _ => pts_nil) (fun _ _ _ _ _ => pe_call GN hr rfl FN.g FN.F.kp FN.b .nil pass0 (pa_cons (pv 1) pa_nil)))))), ?_⟩
    obtain ⟨dx, l, r, as, h1, h2, h3, h4⟩ := id tb.at_
    have lc := cols_len tb.cok
    refine ⟨⟨_, rfl⟩, ⟨_, rfl⟩, _, rfl, t, dx, _, rfl, h1, nocols _ _, t, cs, rs, rfl, tb.at_, fun H1 L1 s1 n1 e1 => ?_⟩
    refine ⟨_, L1, cs, rfl, rfl, .inl (.of e1), ?_, ?_⟩
    · have s := sum_le (f := fun l => l.length) (b := 8) (ls := cs) fun l hl => (tb.cok.ok l hl).2.1
      have := tb.cok.le
      rw [show (Str.ofString ",").length = 1 by decide +kernel]
      omega
    refine ⟨by show 1 ≤ sizeLine; decide, fun La n2 => ?_⟩
    have e2 : upd H1 La (.lst [.str (Txt.join (Str.ofString ",") cs)]) La = some (.lst [.str (Txt.join CMs cs)]) := upd_same
    have s2 : Same H (upd H1 La (.lst [.str (Txt.join (Str.ofString ",") cs)])) := s1.trans (Same.new n2)
    generalize upd H1 La (.lst [.str (Txt.join (Str.ofString ",") cs)]) = H2 at e2 s2 ⊢
    refine ⟨_, rfl, t, dx, _, rfl, s2 _ _ h1, norows _ _, t, cs, rs, rfl, tb.at_.same s2, fun H3 L3 as3 s3 n3 e3 r3 => ?_⟩
    refine ⟨L3, rfl, ⟨_, .of e3⟩, fun D nD => ?_⟩
    have hal := r3.len
    have few := tb.few
    refine lc_it (walk_list (xs := as3.map V.ref)) (fun i h => h D = some (.lst (((rs.take i).map wr).map V.str)) ∧ Same H3 h) ⟨upd_same, Same.new nD⟩ (fun i h _ ⟨_, s⟩ => .of (s _ _ e3)) ?_ ?_
    · rintro i v h h' hi ⟨e4, s4⟩ ⟨rfl, hv⟩
      rw [List.length_map] at hi
      obtain ⟨a, ha, rfl⟩ : ∃ a, as3[i]? = some a ∧ v = V.ref a := by
        rw [List.getElem?_map, List.getElem?_eq_getElem hi] at hv
        exact ⟨_, List.getElem?_eq_getElem hi, (Option.some.inj hv).symm⟩
      obtain ⟨row, hrow, hta⟩ := pr_at r3 ha
      obtain ⟨b1, b2⟩ := tb.len row (List.mem_of_getElem? hrow)
      have b3 := tb.cok.le
      refine ⟨rfl, ?_⟩
      refine ⟨_, rfl, a, row, rfl, s4 _ _ hta, by omega, b2, fun h5 s5 => ?_⟩
      refine ⟨_, s5 _ _ e4, ?_, ?_, Same.mut (s4.trans s5) nD⟩
      · rw [List.length_map, List.length_map, List.length_take]
        exact line100' (by omega)
      · rw [upd_same, List.take_add_one, hrow, List.map_append, List.map_append]
        rfl
    · rintro h ⟨e4, s4⟩
      rw [List.length_map, hal, List.take_length] at e4
      refine ⟨La, D, _, _, rfl, rfl, (s3.trans s4) _ _ e2, e4, ?_, fun Lc nLc => ?_⟩
      · rw [List.length_map, List.length_map]
        show 1 + _ ≤ sizeLine
        exact line100 (by omega)
      have sl := shown_len tb.cok tb.len tb.few
      refine ⟨_, Lc, Txt.join CMs cs :: rs.map wr, rfl, rfl, .inl (.of upd_same), ?_, q _ ((s2.trans s3).trans (s4.trans (Same.new nLc)))⟩
      have b := sum_le (f := fun l => l.length) (b := 340) (ls := rs.map wr) fun l hl => by
        obtain ⟨r, hr, rfl⟩ := List.mem_map.mp hl
        exact wr_len (by rw [(tb.len r hr).1]; exact tb.cok.le) (tb.len r hr).2
      have e1 : ((Txt.join CMs cs :: rs.map wr).map fun l => l.length).sum = (Txt.join CMs cs).length + ((rs.map wr).map fun l => l.length).sum := rfl
      have e2 : (Txt.join CMs cs :: rs.map wr).length = (rs.map wr).length + 1 := rfl
      rw [e1, e2, show (Str.ofString "\n").length = 1 by decide +kernel]
      rw [List.length_map] at b ⊢
      omega
abbrev NtX (K : PySem.W.Frag) (mg : Str → Option Value) (C fi : Addr) (di : FuncData) := Nt K mg "NoText" "at" "NoText.__init__" s_notext C fi di
theorem sc_notext : FnScope ["self", "at"] ["self", "at"] (defScope s_notext) := ⟨rfl, rfl, rfl, by decide +kernel, rfl, by decide +kernel, by decide +kernel⟩
theorem ok_notext {Cx fi : Addr} {di : FuncData} (N : NtX K mg Cx fi di) : FnOk P w K mg base CX0 1 fi di ["self", "at"] (sp_efld Cx "at") := by
  refine N.F.ok sc_notext (fun vs H Q E h => ?_) (fun cdv A outer s H vs Q E hr h => ?_)
  · obtain ⟨a, v, rfl, _⟩ := h
    rfl
  · obtain ⟨a, v, rfl, ha, q⟩ := h
    refine ⟨_, pss_one (ps_ost (pv 0) (pv 1)), ?_⟩
    refine ⟨_, rfl, _, rfl, a, Cx, rfl, N.T, N.no, .inl ⟨ha, fun dx h1 h2 => q dx h1 h2⟩⟩
/-- refused -/
def Bar (Cx : Addr) (H : Hp) (i : Int) (E : XK) : Prop := ∀ H' d, Same H H' → H' d = some (.xd [("at", .int i)]) → E (.ref Cx) (some d) H'
theorem Bar.same {Cx : Addr} {H H' : Hp} {i : Int} {E : XK} (h : Bar Cx H i E) (s : Same H H') : Bar Cx H' i E := fun H2 d s2 e => h H2 d (s.trans s2) e
theorem sc_checkt : FnScope ["text"] ["text"] (defScope s_checkt) := ⟨rfl, rfl, rfl, by decide +kernel, rfl, by decide +kernel, by decide +kernel⟩
def sp_checkt (K : PySem.W.Frag) (Cx : Addr) : Sp := fun vs H Q E => ∃ (v : V) (t : String) (b : Bool), vs = [v] ∧ TyOf K H v (.type t) ∧ kitB t "str" = some b ∧ (b = true → Q .non H) ∧ (b = false → Bar Cx H (-1) E)
theorem ok_checkt {f Cx fx : Addr} {fd dx : FuncData} (F : Fn K mg "_check_text" s_checkt ["text"] f fd) (B : Bn mg) (Nx : NtX K mg Cx fx dx) : FnOk P w K mg base (L2.CX P w) 3 f fd ["text"] (sp_checkt K Cx) := by
  have Gx : FnOk P w K mg base CX0 1 fx dx ["self", "at"] (sp_efld Cx "at") := ok_notext Nx
  refine F.F.okX sc_checkt (fun vs H Q E h => ?_) (fun cdv A outer s H vs Q E hr h => ?_)
  · obtain ⟨v, t, b, rfl, _⟩ := h
    rfl
  · obtain ⟨v, t, b, rfl, ht, hb, q1, q0⟩ := h
    refine ⟨_, pss_one (ps_if (pt_not (pt_val (pe_callB call_isi (by rfl) B.isi boot_isinstance (pa_cons (pv 0) (pa_cons (pe_bltn (v := .ty "str") (by rfl) B.str boot_str rfl) pa_nil)))))
      (pss_one (ps_raise rfl (takes_of rfl rfl rfl rfl) (pmk_oex Nx.T Nx.i Nx.t Gx hr Nx.b .nil pass0 rfl Nx.g (pa_cons (pe_un un_neg pe_int) pa_nil)))) pss_nil), ?_⟩
    refine ⟨_, rfl, _, _, _, _, b, rfl, .ty _, .base ht, kit_ty hb, _, rfl, ?_⟩
    cases b with
    | true => exact q1 rfl
    | false =>
      refine ⟨_, rfl, by show 1 ≤ 1000; decide, ?_⟩
      exact rd_efld fun H' d s' e => q0 rfl H' d s' e
end
end T89

set_option maxHeartbeats 1000000
/-! A rule of our own: for i, x in enumerate(xs, start=n). -/
namespace TES
open PySem L2 PyProof.Rows
section
variable {M : Model} {A : Around} {E : Value → Shared → Prop} {s : Shared} {env : Env}
/-- a built-in class called with keywords -/
theorem with_tyKw {pos : Pos} {T : String} {ts : List (Bool × Sem Value)} {kws : List (Option Str × Sem Value)} {Q : Value → Shared → Prop} (n1 : ts.any (·.1) = false) (n2 : kws.any (·.1.isNone) = false)
    (h : wpAny M A (evalArgs (.type T) true ts kws) (fun a s1 => wpAny M A (call (.type T) a.pos a.kw) Q E s1) E s) : wpAny M A (callWith pos (.type T) [] ts kws) Q E s := by
  unfold callWith
  refine wpAny_bind (wpAny_holding (wpAny_mono h (fun a s1 h1 => wpAny_bind (wpAny_standAt ?_)) fun _ _ z => z))
  simp only [n1, n2, Bool.or_false]
  exact wpAny_bind (wpAny_pure (wpAny_bind (wpAny_mono h1 (fun r s2 hr => wpAny_bind (wpAny_holding (wpAny_point (wpAny_pure hr)))) fun _ _ z => z)))
end
theorem two_sz : (2 : Nat) ≤ sizeLine := by decide
/-- the list xs at a, its items in new pairs, counted from n -/
def Itf (K : PySem.W.Frag) (a : Addr) (xs : List V) (n : Nat) : It where
  go i H := SqL K H a xs ∧ i < xs.length
  yld i H v H' := ∃ T x, v = .ref T ∧ H T = none ∧ H' = upd H T (.tup [.int ((n + i : Nat) : Int), x]) ∧ xs[i]? = some x
  stop i H := SqL K H a xs ∧ xs.length ≤ i
theorem turn_f {P : Program} {w : World} {K : PySem.W.Frag} {elts : List Expr} {kk : Nat} {tpos : Pos} (a e it : Addr) (xs : List V) (n : Nat) :
    Turn P w K (.Tuple elts kk tpos) (Itf K a xs n) [e, it] e (fun i h => (∃ old, IsEnum h e it ((n + i : Nat) : Int) old) ∧ h.IsListIter it a i ∧ e ≠ it ∧ i ≤ xs.length) where
  mem := List.mem_cons_self
  obj := fun i h st b hb => by
    obtain ⟨⟨old, h1⟩, ⟨o, h2, _, hd⟩, _⟩ := st
    simp only [List.mem_cons, List.not_mem_nil, or_false] at hb
    rcases hb with rfl | rfl
    · exact ⟨_, h1, fun v q => by cases q⟩
    · exact ⟨o, h2, fun v q => by rw [hd] at q; cases q⟩
  keep := fun i h h' st k => by
    obtain ⟨⟨old, h1⟩, h2, h3⟩ := st
    exact ⟨⟨old, k e List.mem_cons_self _ h1⟩, h2.at fun o q => k it (List.mem_cons_of_mem _ List.mem_cons_self) o q, h3⟩
  item := by
    intro X hP hw hK hc i pins s σ H E I hf st hg
    subst hP hw hK
    obtain ⟨⟨old, h1⟩, h2, hne, _⟩ := st
    obtain ⟨hq, hlt⟩ := hg
    obtain ⟨its, rv, p, _⟩ := I.list hq
    have el : e < s.heap.objs.size := Heap.lt_size h1
    have il : it < s.heap.objs.size := by obtain ⟨_, q, _⟩ := h2; exact Heap.lt_size q
    have ai : a ≠ it := by
      rintro rfl
      obtain ⟨o, q, c, _⟩ := h2
      obtain ⟨o2, q2, c2, _⟩ := p.isList
      rw [q] at q2
      cases q2
      rw [c] at c2
      injection c2 with c2
      exact absurd c2 (by decide)
    have sz : its.toArray.size = xs.length := by rw [List.size_toArray, rv.length]
    refine wpAny_pyNext_enum_itemC (Draws.list (A := X.A.in1) (I.ok.hd hc) it a ai its.toArray) h1 ⟨h2, p.isList⟩ (by rw [sz]; exact hlt) hne ?_ fun u h' tk hu ho st' hT hsz hk => ?_
    · simp only [List.mem_cons, List.not_mem_nil, or_false, not_or]
      refine ⟨hne, ?_⟩
      rintro rfl
      obtain ⟨o2, q2, c2, _⟩ := p.isList
      rw [h1] at q2
      cases q2
      injection c2 with c2
      exact absurd c2 (by decide)
    obtain ⟨x, hx, ru⟩ : ∃ x, xs[i]? = some x ∧ RelV x u := by
      obtain ⟨u', e1, k1⟩ := rv.get (List.getElem?_eq_getElem hlt)
      refine ⟨_, List.getElem?_eq_getElem hlt, ?_⟩
      have e2 : its[i]? = some u := by simpa using hu
      rw [e1] at e2
      cases e2
      exact k1
    refine ⟨_, rfl, wpAny_letOwnedTupleGo_enum (s := { s with heap := h', toks := tk + 1 }) ho fun h2' he2 sb => ?_⟩
    have hT2 : h2'.get? s.heap.objs.size = some { cls := .type "tuple", data := .seq #[.int ((n + i : Nat) : Int) tk, u] } := (sb.2 _ (Nat.ne_of_gt el)).trans hT
    have new : ObjOk X.prog X.w (upd H s.heap.objs.size (.tup [.int ((n + i : Nat) : Int), x])) h2' s.heap.objs.size (.tup [.int ((n + i : Nat) : Int), x]) :=
      ⟨two_sz, [.int ((n + i : Nat) : Int) tk, u], .cons ⟨_, rfl⟩ (.cons ru .nil), ⟨_, hT2, rfl, _, rfl⟩⟩
    refine ⟨.ref s.heap.objs.size, _, I.turnedNew (ch := [e, it]) (t' := tk + 1) (fun b ob hb q => ?_) hf (Nat.le_refl _) new, rfl, ⟨_, x, rfl, I.hok.fresh (Nat.le_refl _), rfl, hx⟩, ⟨⟨u, ?_⟩, st'.1.at fun o q => (sb.2 it (Ne.symm hne)).trans q, hne, hlt⟩, fun b hb => ?_⟩
    · have n1 : b ≠ e := fun z => hb (z ▸ List.mem_cons_self)
      have n2 : b ≠ it := fun z => hb (z ▸ List.mem_cons_of_mem _ List.mem_cons_self)
      exact (sb.2 b n1).trans (hk b ob n1 n2 q)
    · rw [show ((n + (i + 1) : Nat) : Int) = ((n + i : Nat) : Int) + 1 by omega]
      exact he2
    · have lt : b < s.heap.objs.size := by
        simp only [List.mem_cons, List.not_mem_nil, or_false] at hb
        rcases hb with rfl | rfl
        · exact el
        · exact il
      rw [upd_ne (Nat.ne_of_lt lt)]
      exact (hf b hb).1
  done := by
    intro X hP hw hK hc i pins s σ H E I hf st hg
    subst hP hw hK
    obtain ⟨⟨old, h1⟩, h2, hne, hle⟩ := st
    obtain ⟨hq, hge⟩ := hg
    obtain ⟨its, rv, p, _⟩ := I.list hq
    obtain rfl : i = xs.length := Nat.le_antisymm hle hge
    have ai : a ≠ it := by
      rintro rfl
      obtain ⟨o, q, c, _⟩ := h2
      obtain ⟨o2, q2, c2, _⟩ := p.isList
      rw [q] at q2
      cases q2
      rw [c] at c2
      injection c2 with c2
      exact absurd c2 (by decide)
    have sz : its.toArray.size = xs.length := by rw [List.size_toArray, rv.length]
    obtain ⟨f0, f1, f2, f3, f4, f5⟩ := hf it (List.mem_cons_of_mem _ List.mem_cons_self)
    exact wpAny_pyNext_enum_endD (Draws.list (A := X.A.in1) (I.ok.hd hc) it a ai its.toArray) h1 ⟨by rw [sz]; exact h2, p.isList⟩ fun h' eb => ⟨rfl, I.turned (t' := s.toks) (fun b o hb q => eb b o hb q) f0 f1 f3 f4 f5⟩
  self := fun A i s Q E st h => by
    obtain ⟨⟨old, h1⟩, _⟩ := st
    exact wpAny_pyIter_enum h1 h
/-- enumerate(xs, start=n) -/
def iEnumF (K : PySem.W.Frag) (ta tk : TA) : TI := fun σ H R => ta σ H fun vs H1 => tk σ H1 fun zs H2 => ∃ a xs, ∃ n : Nat, vs = [.ref a] ∧ zs = [.int n] ∧ n < 1000 ∧ SqL K H2 a xs ∧ R (Itf K a xs n) H2
theorem pi_enumF {X : Cx} {e : Expr} {kws : List Keyword} {ta tk : TA} {p pos tpos : Pos} {elts : List Expr} {kk : Nat} (hg : Gl X "enumerate") (hm : X.mg "enumerate" = none) (ha : PA X [e] ta) (hk : PK X kws tk)
    (he : backTo pos (starEach [e] X.env) = [(false, eval e X.env)] := by rfl)
    (hall : (backToKw pos (keywordEach kws X.env)).all (·.1.isSome) = true := by rfl) (hnone : (backToKw pos (keywordEach kws X.env)).any (·.1.isNone) = false := by rfl) (hks : (backToKw pos (keywordEach kws X.env)).filterMap (·.1) = [Str.ofString "start"] := by rfl) :
    PI X (.Tuple elts kk tpos) (.Call (.Name "enumerate" p) [e] kws pos) (iEnumF X.K ta tk) := by
  refine ⟨fun pins s σ H R I h => ?_⟩
  refine wpAny_Call_Name_kw (ld_blt I hg hm boot_enumerate (with_tyKw ?_ hnone ?_))
  · rw [he]
    rfl
  rw [he]
  refine PyProof.Rows.evalArgs_kwB hall ?_
  rw [← he]
  refine thn (ha.run pos pins s σ H _ I h) fun us s1 ⟨vs, H1, I1, r1, q1⟩ => thn (hk.run pos pins s1 σ H1 _ I1 q1) fun ws s2 ⟨zs, H2, I2, r2, q2⟩ => ?_
  rw [hks]
  obtain ⟨a, xs, n, rfl, rfl, hn, hq, q⟩ := q2
  cases r1 with
  | cons r rr =>
    cases rr
    cases r
    cases r2 with
    | cons r rr =>
      cases rr
      obtain ⟨t, rfl⟩ := r
      obtain ⟨its, rv, p', hz⟩ := I2.list hq
      refine enum_begins_start (begins_list a its.toArray) p'.isList (by omega) (by omega) fun h' e1 e2 hsz hkp => wpAny_pyIter_enum e1 ?_
      have I3 : Inv X pins σ H2 { s2 with heap := h' } := I2.kept (t' := s2.toks) hkp
      refine ⟨s2.heap.objs.size + 1, [s2.heap.objs.size + 1, s2.heap.objs.size], _, _, H2, rfl, I3, turn_f a (s2.heap.objs.size + 1) s2.heap.objs.size xs n, ⟨⟨.none, e1⟩, ⟨_, e2, rfl, rfl⟩, Nat.succ_ne_self _, Nat.zero_le _⟩, fun b hb => ?_, q⟩
      have hle : s2.heap.objs.size ≤ b := by
        simp only [List.mem_cons, List.not_mem_nil, or_false] at hb
        rcases hb with rfl | rfl
        · exact Nat.le_succ _
        · exact Nat.le_refl _
      exact I2.fpOk hle (I2.hok.fresh hle)
theorem walk_enumF {K : PySem.W.Frag} {a : Addr} {xs : List V} {n : Nat} : Walk (Itf K a xs n) xs.length (fun H => SqL K H a xs) (YPair (fun i => some (.int ((n + i : Nat) : Int))) (fun i => xs[i]?)) := by
  refine ⟨fun i _ hi q => ⟨q, hi⟩, fun _ q => ⟨q, Nat.le_refl _⟩, fun i H v H' _ q y => ?_⟩
  obtain ⟨T, x, h1, h2, h3, h4⟩ := y
  exact ⟨T, _, x, h1, h2, h3, rfl, h4⟩
end TES

set_option maxHeartbeats 2000000
namespace T89
open PySem L2 PyProof.Rows TX TY TW TD TB TG TUD TE TK TL TLL TES
abbrev dI (r : List Int) : List PyData := (r.map V.int).map dV
theorem alike_ints : ∀ a b : List Int, PySem.W.alikeAll (dI a) (dI b) = true := by
  intro a
  induction a with
  | nil => intro b; cases b <;> rfl
  | cons x a ih =>
    intro b
    cases b with
    | nil => rfl
    | cons y b =>
      show (PySem.W.alike (.int x) (.int y) && PySem.W.alikeAll (dI a) (dI b)) = true
      rw [ih]
      rfl
theorem lex_ints : ∀ a b : List Int, lexLt itemOrd (PySem.W.keyToksAll (dI a)) (PySem.W.keyToksAll (dI b)) = ltI a b := by
  intro a
  induction a with
  | nil =>
    intro b
    cases b with
    | nil => decide +kernel
    | cons y b =>
      rw [show PySem.W.keyToksAll (dI ([] : List Int)) = [Sum.inl 0] by unfold dI; simp only [List.map_nil, PySem.W.keyToksAll], show dI (y :: b) = PyData.int y :: dI b from rfl, PySem.W.toks_all_cons]
      exact lex_diff (by decide)
  | cons x a ih =>
    intro b
    cases b with
    | nil =>
      rw [show PySem.W.keyToksAll (dI ([] : List Int)) = [Sum.inl 0] by unfold dI; simp only [List.map_nil, PySem.W.keyToksAll], show dI (x :: a) = PyData.int x :: dI a from rfl, PySem.W.toks_all_cons]
      exact lex_diff (by decide)
    | cons y b =>
      rw [show dI (x :: a) = PyData.int x :: dI a from rfl, show dI (y :: b) = PyData.int y :: dI b from rfl]
      have e0 : PyData.eqv (.int x) (.int y) = decide (x = y) := by
        unfold PyData.eqv
        by_cases h : x = y
        · rw [decide_eq_true h]
          exact beq_iff_eq.mpr h
        · rw [decide_eq_false h]
          exact beq_eq_false_iff_ne.mpr h
      unfold ltI
      by_cases e : x = y
      · rw [PySem.W.dataLt_all_yes rfl (by rw [e0, decide_eq_true e]), ih, if_pos e]
      · rw [PySem.W.dataLt_all_no rfl (by rw [e0, decide_eq_false e]), if_neg e]
        exact PySem.W.dataLt_int x y
theorem lt_tups (a b : List Int) : PySem.W.dataLt (.tuple (dI a)) (.tuple (dI b)) = ltI a b := by rw [PySem.W.dataLt_tuple, lex_ints]
theorem lt_lists (a b : List Int) : PySem.W.dataLt (.list (dI a)) (.list (dI b)) = ltI a b := by rw [PySem.W.dataLt_list, lex_ints]
section
variable {P : Program} {w : World} {K : PySem.W.Frag} {mg : Str → Option Value} {base : Heap}
variable {fW fN fA fR fK fS : Addr} {dW dN dA dR dK dS : FuncData}
variable {C fI hc hr he : Addr} {dI' gc gr ge : FuncData}
abbrev N_read : List Str := ["text", "lines", "columns", "rows", "at", "line", "row"]
theorem sc_read : FnScope N_read ["text"] (defScope s_read) := ⟨rfl, rfl, rfl, by decide +kernel, rfl, by decide +kernel, by decide +kernel⟩
def sp_read (K : PySem.W.Frag) (C Cx : Addr) : Sp := fun vs H Q E => ∃ (v : V) (t : String) (b : Bool), vs = [v] ∧ TyOf K H v (.type t) ∧ kitB t "str" = some b ∧ (b = false → Bar Cx H (-1) E) ∧
  (b = true → ∃ x : Str, v = .str x ∧ x.length ≤ 900000 ∧ (linesT x).length ≤ 60 ∧ (stopX x = none → ∀ H' p, Same H H' → Tb C H' p (colsX x) (rowsX x) → Q (.ref p) H') ∧ (∀ i : Nat, stopX x = some i → Bar Cx H i E))
theorem ok_read {f fL gN Cx fx : Addr} {fd dL eN dx : FuncData} (F : Fn K mg "read_table" s_read ["text"] f fd) (FL : Fn K mg "_check_text" s_checkt ["text"] fL dL) (FN : Fn K mg "numbers_of" s_numbers ["text", "many"] gN eN) {gn : Addr} {en : FuncData} (Fn1 : Fn K mg "number_of" s_number ["text"] gn en) (Cg : Cf mg)
    (T : Kt K mg fW fN fA fR fK fS dW dN dA dR dK dS) (D : Bd K mg C fI hc hr he dI' gc gr ge) (Nx : NtX K mg Cx fx dx) : FnOk P w K mg base (L2.CX P w) 6 f fd ["text"] (sp_read K C Cx) := by
  have B := T.B
  have c := D.c
  have GL : FnOk P w K mg base (L2.CX P w) 3 fL dL ["text"] (sp_checkt K Cx) := ok_checkt FL B Nx
  have Gx : FnOk P w K mg base CX0 1 fx dx ["self", "at"] (sp_efld Cx "at") := ok_notext Nx
  have GN : FnOk P w K mg base CX0 2 gN eN ["text", "many"] sp_numbers := ok_numbers FN Fn1 B Cg
  have GA : FnOk P w K mg base CX0 2 fA dA ["thing"] sp_are := ok_are T
  have GI : FnOk P w K mg base CX0 4 fI dI' ["self", "columns", "rows"] (sp_binit C) := ok_binit D.iF T c
  refine F.F.okX sc_read (fun vs H Q E h => ?_) (fun cdv A outer s H vs Q E hr h => ?_)
  · obtain ⟨v, t, b, rfl, _⟩ := h
    rfl
  · obtain ⟨v, t, b, rfl, ht, hb, q0, q1⟩ := h
    have r1 : Room 1 _ := hr.mono (by decide)
    have r2 : Room 2 _ := hr.mono (by decide)
    have r3 : Room 3 _ := hr.mono (by decide)
    have hu64 := hr.units
    have nd := sc_read.nd
    refine ⟨_, pss_cons (ps_expr (pe_callS GL r3 rfl FL.g FL.F.kp FL.b (fun σ => passAt (takes_of rfl rfl rfl rfl) σ) (pa_cons (pv 0) pa_nil)))
      (pss_cons (ps_set (i := 1) nd rfl (Or.inl rfl) (pe_split (pv 0) pe_str))
      (pss_cons (ps_set (i := 2) nd rfl (Or.inl rfl) (pe_ifExp (pt_cmpR op_ne (pe_ix ix_list (pv 1) pe_int (fun _ _ => rfl)) pe_str (nomark _)) (pe_split (pe_ix ix_list (pv 1) pe_int (fun _ _ => rfl)) pe_str) (pe_lst pa_nil)))
      (pss_cons (ps_if (pt_not (pt_val (pe_call GA r2 rfl T.are.g T.are.F.kp T.are.b .nil pass0 (pa_cons (pv 2) pa_nil)))) (pss_one (ps_raise rfl (takes_of rfl rfl rfl rfl) (pmk_oex Nx.T Nx.i Nx.t Gx r2 Nx.b .nil pass0 rfl Nx.g (pa_cons pe_int pa_nil)))) pss_nil)
      (pss_cons (ps_set (i := 3) nd rfl (Or.inl rfl) (pe_lst pa_nil))
      (pss_cons (ps_for (passes_of rfl) rfl (pi_enumF rfl B.enum (pa_cons (pe_slice sl_list (pv 1) (po_some pe_int) po_none) pa_nil) (pk_cons pe_int pk_nil)) (pg_tup rfl (pgs_cons (pg_name (i := 4) nd rfl (Or.inl rfl)) (pgs_cons (pg_name (i := 5) nd rfl (Or.inl rfl)) pgs_nil)))
        (pss_cons (ps_set (i := 6) nd rfl (Or.inl rfl) (pe_call GN r2 rfl FN.g FN.F.kp FN.b .nil pass0 (pa_cons (pv 5) (pa_cons (pe_callB call_len_seq (by rfl) B.len PySem.boot_len (pa_cons (pv 2) pa_nil)) pa_nil))))
        (pss_cons (ps_if (PW.pt (pw_or (pt_cmp (pc_isN (pv 6))) (pw_or1 (PW.pt (pw_and (pt_cmpR op_gt (pe_callB call_len_seq (by rfl) B.len PySem.boot_len (pa_cons (pv 3) pa_nil)) pe_int (nomark _)) (pw_and1 (pt_cmpR (op_leD hu64) (pv 6) (pe_ix ix_list (pv 3) (pe_un un_neg pe_int) (fun _ _ => rfl)) (nomark _))))))))
          (pss_one (ps_raise rfl (takes_of rfl rfl rfl rfl) (pmk_oex Nx.T Nx.i Nx.t Gx r2 Nx.b .nil pass0 rfl Nx.g (pa_cons (pv 4) pa_nil)))) pss_nil)
        (pss_one (ps_expr (pe_bm PySem.F.plainAttrs_list PySem.F.slot_list_append PySem.F.type_list_append mt_append (pv 3) (pa_cons (pv 6) pa_nil)))))))
      (pss_one (ps_ret (pe_make D.iM GI hr rfl c.g D.iB .nil pass0 (pa_cons (pv 2) (pa_cons (pv 3) pa_nil)))))))))), ?_⟩
    refine ⟨_, rfl, v, t, b, rfl, ht, hb, fun e => ?_, fun e => ?_⟩
    · subst e
      obtain ⟨x, rfl, hx, hll, qn, qs⟩ := q1 rfl
      have hls : ∃ hd tl', linesT x = hd :: tl' := by
        cases e : linesT x with
        | nil =>
          exfalso
          have := split_pos x NLs
          have e : Txt.split x NLs = [] := e
          rw [e] at this
          simp at this
        | cons a b => exact ⟨a, b, rfl⟩
      obtain ⟨hd, ls, els⟩ := hls
      have ehd : (linesT x).headD Str.empty = hd := by rw [els]; rfl
      have etl : (linesT x).tail = ls := by rw [els]; rfl
      have lens : ∀ l ∈ linesT x, l.length ≤ 900000 := fun l hl => Nat.le_trans (part_short hl) hx
      have hdl : hd.length ≤ 1000000 := Nat.le_trans (lens hd (by rw [els]; exact List.mem_cons_self)) (by decide)
      have lsl : ∀ l ∈ ls, l.length ≤ 1000000 := fun l hl => Nat.le_trans (lens l (by rw [els]; exact List.mem_cons_of_mem _ hl)) (by decide)
      have few : ls.length ≤ 59 := by rw [els, List.length_cons] at hll; omega
      have es : stopX x = if colsV ((wordsT hd).map V.str) = true then stopFrom (wordsT hd).length 1 none ls else some 0 := by unfold stopX; rw [ehd, etl]
      refine ⟨_, rfl, ⟨x, rfl⟩, x, _, rfl, rfl, by decide +kernel, sml2 (by omega), fun L nL => ?_⟩
      have e1 : upd H L (.lst ((Txt.split x (Str.ofString "\n")).map V.str)) L = some (.lst ((hd :: ls).map V.str)) := by rw [upd_same, ← els]; rfl
      have s1 : Same H (upd H L (.lst ((Txt.split x (Str.ofString "\n")).map V.str))) := Same.new nL
      generalize upd H L (.lst ((Txt.split x (Str.ofString "\n")).map V.str)) = H1 at e1 s1 ⊢
      dsimp only [gName]
      refine sq_asg (rd_words (x := hd) (fun Q' h => ⟨_, rfl, L, _, 0, .str hd, rfl, rfl, .of e1, (show atI ((hd :: ls).map V.str) ((0 : Nat) : Int) = some (V.str hd) from atI_nat rfl), h⟩) hdl fun H2 Lc s2 nLc eLc => ?_)
      dsimp only [gName]
      have t2 := s1.trans s2
      -- whether it is columns
      refine ⟨_, rfl, Lc + 1, _, colsV ((wordsT hd).map V.str), rfl, .inl ⟨Lc, _, rfl, Nat.ne_of_lt (Nat.lt_succ_self Lc), eLc, fun y hy => ?_, rfl⟩, fun H3 s3 => ⟨_, rfl, ?_⟩⟩
      · obtain ⟨n, hn, rfl⟩ := List.mem_map.mp hy
        exact .str n (Nat.le_trans (words_len hn) hdl)
      have t3 := t2.trans s3
      cases hcv : colsV ((wordsT hd).map V.str) with
      | false =>
        refine ⟨by show 1 ≤ 1000; decide, ?_⟩
        exact rd_efld fun H' d s' e => qs 0 (by rw [es, if_neg (by rw [hcv]; exact Bool.false_ne_true)]) H' d (t3.trans s') e
      | true =>
        rw [if_pos hcv] at es
        refine ⟨by decide, fun Lr nLr => ?_⟩
        have e4 : upd H3 Lr (.lst []) Lr = some (.lst ([] : List V)) := upd_same
        have s4 : Same H3 (upd H3 Lr (.lst [])) := Same.new nLr
        have nLrH : H Lr = none := t3.free nLr
        generalize upd H3 Lr (.lst []) = H4 at e4 s4 ⊢
        have t4 := t3.trans s4
        have eLc4 := (s3.trans s4) _ _ eLc
        refine ⟨_, rfl, _, rfl, L, _, rfl, (.of ((s2.trans (s3.trans s4)) _ _ e1)), fun Ls nLs => ?_⟩
        have eLs : upd H4 Ls (.lst (cutV ((hd :: ls).map V.str) (some 1) none)) Ls = some (.lst (ls.map V.str)) := by
          rw [upd_same, show (some (1 : Int)) = some ((1 : Nat) : Int) from rfl, cut_drop]
          rfl
        have s5 : Same H4 (upd H4 Ls (.lst (cutV ((hd :: ls).map V.str) (some 1) none))) := Same.new nLs
        generalize upd H4 Ls (.lst (cutV ((hd :: ls).map V.str) (some 1) none)) = H5 at eLs s5 ⊢
        have t5 := t4.trans s5
        have eLc5 := s5 _ _ eLc4
        refine ⟨Ls, ls.map V.str, 1, rfl, rfl, by decide, .of eLs, ?_⟩
        have LsLr : Ls ≠ Lr := fun z => by rw [z, e4] at nLs; cases nLs
        have LcLr : Lc ≠ Lr := fun z => by rw [z] at eLc; rw [s3 _ _ eLc] at nLr; cases nLr
        refine for_it (walk_enumF (xs := ls.map V.str) (n := 1)) (fun i σ h => ∃ (as : List Addr) (rs : List (List Int)) (v4 v5 v6 : Option V), σ = [some (.str x), some (.ref L), some (.ref Lc), some (.ref Lr), v4, v5, v6] ∧ h Lr = some (.lst (as.map V.ref)) ∧ RowsAt h as rs ∧
            (ls.take i).map (fun l => rowOf l (wordsT hd).length) = rs.map some ∧ Rise rs ∧ stopFrom (wordsT hd).length 1 none ls = stopFrom (wordsT hd).length (1 + i) rs.getLast? (ls.drop i) ∧ Same H h ∧ h Ls = some (.lst (ls.map V.str)) ∧ h Lc = some (.lst ((wordsT hd).map V.str)))
          ⟨[], [], none, none, none, rfl, s5 _ _ e4, .nil, rfl, .nil, rfl, t5, eLs, eLc5⟩ (fun i σ h _ ⟨_, _, _, _, _, _, _, _, _, _, _, _, e, _⟩ => .of e) ?_ ?_
        · rintro i v σ h h' hi ⟨as, rs, v4, v5, v6, rfl, eLr, hR, hmap, hri, hst, sh, eLsh, eLch⟩ ⟨T', x1, x2, rfl, nT, rfl, hx1, hx2⟩
          rw [List.length_map] at hi
          obtain rfl : V.int ((1 + i : Nat) : Int) = x1 := Option.some.inj hx1
          obtain ⟨l, hl, rfl⟩ : ∃ l, ls[i]? = some l ∧ x2 = V.str l := by
            have h2 : (ls.map V.str)[i]? = some x2 := hx2
            rw [List.getElem?_map, List.getElem?_eq_getElem hi] at h2
            exact ⟨_, List.getElem?_eq_getElem hi, (Option.some.inj h2).symm⟩
          have sT : Same h (upd h T' (.tup [.int ((1 + i : Nat) : Int), .str l])) := Same.new nT
          refine ⟨T', _, rfl, .of upd_same, rfl, _, _, rfl, _, _, rfl, rfl, ?_⟩
          generalize upd h T' (.tup [.int ((1 + i : Nat) : Int), .str l]) = h2 at sT ⊢
          have nx := stop_next (many := (wordsT hd).length) (p := rs.getLast?) hl
          have shT := sh.trans sT
          refine ⟨_, rfl, _, rfl, Lc, _, rfl, .inl (.of (sT _ _ eLch)), l, (wordsT hd).length, (by rw [List.length_map]; rfl), lsl l (List.mem_of_getElem? hl), fun hn h3 s3' => ?_, fun r hr' h3 p s3' ep => ?_⟩
          · refine ⟨_, rfl, _, rfl, ?_⟩
            refine ⟨_, rfl, by show 1 ≤ 1000; decide, ?_⟩
            rw [hn] at nx
            exact rd_efld fun H' d s' e => qs (1 + i) (by rw [es, hst, nx]) H' d ((shT.trans s3').trans s') e
          · rw [hr'] at nx
            have eLr3 := (sT.trans s3') _ _ eLr
            have hR3 := hR.same (sT.trans s3')
            have rl : rs.length ≤ 60 := by
              have := congrArg List.length hmap
              rw [List.length_map, List.length_map, List.length_take] at this
              omega
            have al := hR.len
            -- what follows where it is above
            have go : abv rs.getLast? r = true → ∃ xs, h3 Lr = some (.lst xs) ∧ xs.length < sizeLine ∧ ∃ (as' : List Addr) (rs' : List (List Int)), upd h3 Lr (.lst (xs ++ [V.ref p])) Lr = some (.lst (as'.map V.ref)) ∧ RowsAt (upd h3 Lr (.lst (xs ++ [V.ref p]))) as' rs' ∧
                (ls.take (i + 1)).map (fun l => rowOf l (wordsT hd).length) = rs'.map some ∧ Rise rs' ∧ stopFrom (wordsT hd).length 1 none ls = stopFrom (wordsT hd).length (1 + (i + 1)) rs'.getLast? (ls.drop (i + 1)) ∧ Same H (upd h3 Lr (.lst (xs ++ [V.ref p]))) ∧ upd h3 Lr (.lst (xs ++ [V.ref p])) Ls = some (.lst (ls.map V.str)) ∧ upd h3 Lr (.lst (xs ++ [V.ref p])) Lc = some (.lst ((wordsT hd).map V.str)) := by
              intro ha
              refine ⟨_, eLr3, by rw [List.length_map]; exact line100' (by omega), as ++ [p], rs ++ [r], by rw [upd_same, List.map_append]; rfl, RowsAt.put (pr_snoc hR3 ep) eLr3, ?_, ?_, ?_, Same.mut (shT.trans s3') nLrH, ?_, ?_⟩
              · rw [List.take_add_one, hl, List.map_append, List.map_append, hmap]
                show _ ++ [rowOf l _] = _
                rw [hr']
                rfl
              · refine List.pairwise_append.mpr ⟨hri, List.pairwise_singleton _ _, fun a ha' b hb' => ?_⟩
                rw [List.mem_singleton.mp hb']
                rcases List.eq_nil_or_concat rs with e | ⟨rs0, q, e⟩
                · rw [e] at ha'; cases ha'
                · subst e
                  rw [List.concat_eq_append] at ha' ha hri
                  rw [List.getLast?_append] at ha
                  have hq : ltI q r = true := ha
                  rcases List.mem_append.mp ha' with z | z
                  · exact ltI_trans ((List.pairwise_append.mp hri).2.2 a z q (List.mem_singleton.mpr rfl)) hq
                  · rw [List.mem_singleton.mp z]
                    exact hq
              · rw [hst, nx]
                show (if abv rs.getLast? r = true then _ else _) = _
                rw [if_pos ha, List.getLast?_append]
                rfl
              · rw [upd_ne LsLr]
                exact (sT.trans s3') _ _ eLsh
              · rw [upd_ne LcLr]
                exact (sT.trans s3') _ _ eLch
            refine ⟨_, rfl, _, rfl, ?_⟩
            dsimp only
            rw [if_neg (by simp)]
            refine ⟨_, rfl, Lr, _, rfl, .inl (.of eLr3), _, _, rfl, rfl, _, rfl, ?_⟩
            rcases List.eq_nil_or_concat rs with e | ⟨rs0, q, e⟩
            · subst e
              have e0 : as = [] := List.length_eq_zero_iff.mp al
              subst e0
              rw [decide_eq_false (show ¬ (0 : Int) < ((([] : List Addr).map V.ref).length : Int) by decide)]
              dsimp only
              rw [if_neg Bool.false_ne_true]
              obtain ⟨xs, g1, g2, as', rs', g3⟩ := go rfl
              rw [if_neg Bool.false_ne_true]
              refine ⟨_, rfl, .inl ⟨rfl, _, .inl (.inl eLr3)⟩, _, rfl, Lr, _, _, rfl, rfl, g1, g2, ?_⟩
              exact ⟨as', rs', _, _, _, rfl, g3⟩
            · subst e
              rw [List.concat_eq_append] at *
              obtain ⟨as0, a, rfl⟩ : ∃ as0 a, as = as0 ++ [a] := by
                rcases List.eq_nil_or_concat as with e | ⟨as0, a, e⟩
                · rw [e, List.length_append] at al
                  simp at al
                · exact ⟨as0, a, by rw [e, List.concat_eq_append]⟩
              have ha : h3 a = some (.tup (q.map V.int)) := by
                obtain ⟨b, h1, h2⟩ := pr_by hR3 (i := rs0.length) (b := q) (by rw [List.getElem?_append_right (Nat.le_refl _), Nat.sub_self]; rfl)
                have l0 : as0.length = rs0.length := by
                  rw [List.length_append, List.length_append] at al
                  simpa using al
                rw [← l0, List.getElem?_append_right (Nat.le_refl _), Nat.sub_self] at h1
                cases h1
                exact h2
              rw [decide_eq_true (show (0 : Int) < (((as0 ++ [a]).map V.ref).length : Int) by rw [List.length_map, List.length_append]; show (0 : Int) < ((as0.length + 1 : Nat) : Int); omega)]
              dsimp only
              rw [if_pos rfl]
              have gl : (rs0 ++ [q]).getLast? = some q := by rw [List.getLast?_append]; rfl
              refine ⟨_, rfl, _, rfl, 1, rfl, Lr, _, -1, .ref a, rfl, rfl, .of eLr3, by rw [List.map_append]; exact atI_last _ _, ?_⟩
              refine ⟨_, _, DpRow ep, DpRow ha, by unfold PySem.W.alike; exact alike_ints _ _, (fun z => by cases z), by rw [dep_tup]; decide, _, rfl, ?_⟩
              rw [lt_tups]
              cases hq : ltI q r with
              | true =>
                rw [Bool.not_true]
                rw [if_neg Bool.false_ne_true]
                obtain ⟨xs, g1, g2, as', rs', g3⟩ := go (by rw [gl]; exact hq)
                refine ⟨_, rfl, .inl ⟨rfl, _, .inl (.inl eLr3)⟩, _, rfl, Lr, _, _, rfl, rfl, g1, g2, ?_⟩
                exact ⟨as', rs', _, _, _, rfl, g3⟩
              | false =>
                rw [Bool.not_false]
                rw [if_pos rfl]
                refine ⟨_, rfl, by show 1 ≤ 1000; decide, ?_⟩
                have nx' : stopFrom (wordsT hd).length (1 + i) (rs0 ++ [q]).getLast? (ls.drop i) = some (1 + i) := by
                  rw [nx]
                  show (if abv (rs0 ++ [q]).getLast? r = true then _ else _) = _
                  rw [gl, if_neg (show ¬ abv (some q) r = true by show ¬ ltI q r = true; rw [hq]; exact Bool.false_ne_true)]
                exact rd_efld fun H' d s' e => qs (1 + i) (by rw [es, hst, nx']) H' d ((shT.trans s3').trans s') e
        · rintro σ h ⟨as, rs, v4, v5, v6, rfl, eLr, hR, hmap, hri, hst, sh, eLsh, eLch⟩
          rw [List.length_map, List.take_length] at hmap
          rw [List.length_map, List.drop_length] at hst
          have e0 : stopX x = none := by rw [es, hst]; rfl
          obtain ⟨ra1, ra2, ra3, ra4, ra5⟩ := read_all e0
          have ec : colsX x = wordsT hd := by unfold colsX; rw [ehd]
          have er : rowsX x = rs := by
            have h1 : ls.map (fun l => rowOf l (wordsT hd).length) = (rowsX x).map some := by rw [← ec, ← etl]; exact ra5
            rw [hmap] at h1
            exact ((List.map_inj_right (fun a b z => Option.some.inj z)).mp h1).symm
          rw [er] at ra2 ra3
          rw [ec] at ra1 ra3
          have rl : rs.length ≤ 60 := by
            have := congrArg List.length hmap
            rw [List.length_map, List.length_map] at this
            omega
          refine ⟨_, rfl, _, rfl, fun p dp np ndp hne => ?_⟩
          have sp : Same h (upd (upd h dp (.own p)) p (.ins C dp [])) := fun b o e => by rw [upd_ne (ne_of_none e np), upd_ne (ne_of_none e ndp)]; exact e
          refine ⟨p, Lc, dp, .ref Lr, wordsT hd, as, rs, rfl, upd_same, sp _ _ eLch, ra1, .inr ⟨Lr, rfl, sp _ _ eLr, hR.same sp⟩, ⟨fun r hr => (ra3 r hr).1, rl⟩, fun H' tb' keep => ⟨rfl, ?_⟩⟩
          rw [norm_idem ra2] at tb'
          refine qn e0 H' p (fun b o e => keep b o (ne_of_none (sh _ _ e) np) ((sh.trans sp) _ _ e)) ?_
          rw [ec, er]
          exact ⟨tb', ra1, ra3, rl, ra2⟩
    · subst e
      exact q0 rfl
end
end T89

set_option maxHeartbeats 2000000
namespace TNN
open PySem L2 PyProof.Rows TX TY
section
variable {X : Cx}
/-- a list != [] -/
def rNeNil (K : PySem.W.Frag) : R2 := fun x y H Q => ∃ a b xs, x = .ref a ∧ y = .ref b ∧ SqL K H a xs ∧ SqL K H b [] ∧ Q (.bl (!xs.isEmpty)) H
theorem op_neNil (hu : X.A.units < cLine) : OpR X (compareOp .NotEq) (rNeNil X.K) := by
  intro pins s σ H x y v u Q I rx ry h
  obtain ⟨a, b, xs, rfl, rfl, ha, hb, q⟩ := h
  cases rx
  cases ry
  obtain ⟨its, r, hl, _⟩ := I.list ha
  obtain ⟨its2, r2, hl2, _⟩ := I.list hb
  have h2 : its2 = [] := by
    cases r2
    rfl
  subst h2
  cases xs with
  | nil =>
    cases r
    have z := SeqAt.RcNeAt.lists (e := fun _ => true) hl.isList hl2.isList rfl hu (fun j h1 h2 => absurd h1 (by simp))
    exact z X.prog X.w X.xe _ ⟨.bl false, H, I, rfl, q⟩
  | cons z zs =>
    have hsz : (its.toArray.size != ([] : List Value).toArray.size) = true := by
      have : its.length = (z :: zs).length := r.length.symm
      simp [this]
    have z := SeqAt.RcNeAt.lists_lengths hl.isList hl2.isList hsz hu
    exact z X.prog X.w X.xe _ ⟨.bl true, H, I, rfl, q⟩
end
end TNN

set_option maxHeartbeats 2000000
namespace T89
open PySem L2 PyProof.Rows TX TY TW TD TB TG TUD TE TK TL TLL TES TNN
section
variable {P : Program} {w : World} {K : PySem.W.Frag} {mg : Str → Option Value} {base : Heap}
variable {fW fN fA fR fK fS : Addr} {dW dN dA dR dK dS : FuncData}
def digs : Str := Str.ofString "0123456789"
theorem digs_eq : digs = S [48, 49, 50, 51, 52, 53, 54, 55, 56, 57] := by decide +kernel
theorem digs_mem (c : Nat) : decide (c ∈ digs.cps.toList) = isD c := by
  rw [Bool.eq_iff_iff, decide_eq_true_iff, digs_eq, S_cps, Bool.and_eq_true, decide_eq_true_iff, decide_eq_true_iff]
  simp only [List.mem_cons, List.not_mem_nil, or_false]
  omega
theorem abc_mem (c : Nat) : decide (c ∈ abc.cps.toList) = okc c := by
  rw [Bool.eq_iff_iff, decide_eq_true_iff, okc_iff, abc_eq, S_cps]
  simp only [List.mem_cons, List.not_mem_nil, or_false]
  omega
theorem cut_one (x : Str) : decide (V.str (cutS x none (some 1)) = V.str (S [45])) = ((cps x).head? == some 45) := by
  have e : cutS x none (some 1) = S ((cps x).take 1) := by
    conv => lhs; rw [← S_cps_eta x, cutS_S]
    rw [HT.sIx_none, show (some (1 : Int)) = some ((1 : Nat) : Int) from rfl, HT.sIx_nat, List.drop_zero, Nat.sub_zero]
    congr 1
    cases cps x with
    | nil => rfl
    | cons c r => rw [List.length_cons, Nat.min_eq_left (by omega)]
  rw [e, Bool.eq_iff_iff, decide_eq_true_iff, beq_iff_eq]
  constructor
  · intro h
    injection h with h
    have := S_inj h
    cases hc : cps x with
    | nil => rw [hc] at this; cases this
    | cons c r =>
      rw [hc] at this
      injection this with this
      rw [this]
      rfl
  · intro h
    cases hc : cps x with
    | nil => rw [hc] at h; cases h
    | cons c r =>
      rw [hc] at h
      have : c = 45 := Option.some.inj h
      rw [this]
      rfl
abbrev N_lnumber : List Str := ["_law_word", "_law_figures", "_law_sign"]
theorem sc_lnumber : FnScope N_lnumber ["_law_word"] (defScope s_lnumber) := ⟨rfl, rfl, rfl, by decide +kernel, rfl, by decide +kernel, by decide +kernel⟩
theorem ok_lnumber {f : Addr} {fd : FuncData} (F : Fn K mg "_law_number" s_lnumber ["_law_word"] f fd) (B : Bn mg) : FnOk P w K mg base CX0 1 f fd ["_law_word"] sp_number := by
  refine F.F.ok sc_lnumber (fun vs H Q E h => ?_) (fun cdv A outer s H vs Q E hr h => ?_)
  · obtain ⟨x, rfl, _⟩ := h
    rfl
  · obtain ⟨x, rfl, hx, q⟩ := h
    have nd := sc_lnumber.nd
    have hu1 := hr.units0
    refine ⟨_, pss_cons (ps_set (i := 1) nd rfl (Or.inl rfl) (pv 0))
      (C8.pss_cut (ps_if (pt_cmpR op_eq (pe_slice sl_str (pv 0) po_none (po_some pe_int)) pe_str (nomark _)) (pss_one (ps_set (i := 1) nd rfl (Or.inl rfl) (pe_slice sl_str (pv 0) (po_some pe_int) po_none))) pss_nil)
      (pss_cons (ps_if (PW.pt (pw_or (pt_not (pt_chain op_lt op_lt pe_int (pe_callB call_len_str (by rfl) B.len PySem.boot_len (pa_cons (pv 1) pa_nil)) pe_int))
          (pw_or1 (pt_cmpR (op_neNil hu1) (pe_lc (own := [("_law_sign", 2)]) (g := gName 2) (tt := tTest (tOp (fun x y H Q => ∃ i j, x = .str i ∧ y = .str j ∧ Q (.bl (!(!(Builtin.Str.occurrences j i 0 j.length 1).isEmpty))) H) (tVar 2) (tC (.str "0123456789")))) (te := tVar 2) rfl nd (pi_str (pv 1)) (blkOk_by (N := N_lnumber) (sc := defScope s_lnumber) (by decide +kernel))
            (fun _ _ _ _ _ => pg_name (i := 2) nd rfl (Or.inl rfl)) (fun _ _ _ _ _ => pts_one (pt_cmpR op_notin_str (pv 2) pe_str rfl)) (fun _ _ _ _ _ => pv 2)) (pe_lst pa_nil) (nomark _))))) (pss_one (ps_ret pe_non)) pss_nil)
      (pss_cons (ps_if (PW.pt (pw_and (pt_cmpR op_eq (pe_ix ix_str (pv 1) pe_int (fun _ _ => rfl)) pe_str (nomark _)) (pw_and1 (pt_cmpR op_ne (pv 0) pe_str (nomark _))))) (pss_one (ps_ret pe_non)) pss_nil)
      (pss_one (ps_ret (pe_callTy call_int_str (by rfl) B.int boot_int (pa_cons (pv 0) pa_nil))))))), ?_⟩
    have hlx := len_cps x
    have fl : (figS x).length = (figs (cps x)).length := S_len _
    have fle : (figs (cps x)).length ≤ 1000000 := by
      rcases figs_cases (cps x) with ⟨r, e1, e2⟩ | ⟨e2, _⟩
      · rw [e2]
        rw [e1, List.length_cons] at hlx
        omega
      · rw [e2]
        omega
    have bigF : (figS x).length ≤ 1000000 := by omega
    have no : okN (cps x) = false → ∀ H', Same H H' → Q .non H' := fun z H' s => by
      have := q H' s
      unfold numT at this
      rw [if_neg (by rw [z]; exact Bool.false_ne_true)] at this
      exact this
    refine ⟨_, rfl, fun σ h => σ = [some (.str x), some (.str (figS x)), none] ∧ h = H, ?_, ?_⟩
    · refine ⟨_, rfl, _, rfl, x, rfl, sml hx, rfl, _, rfl, ?_⟩
      rw [str_mi, cut_one]
      have e := fig_if x
      dsimp only
      by_cases c : ((cps x).head? == some 45) = true
      · rw [if_pos c] at e ⊢
        refine ⟨_, rfl, _, rfl, x, rfl, sml hx, ?_, rfl⟩
        show [some (V.str x), some (V.str (cutS x (some 1) none)), none] = _
        rw [e]
      · rw [if_neg c] at e ⊢
        refine ⟨?_, rfl⟩
        show [some (V.str x), some (V.str x), none] = _
        rw [← e]
    rintro σ h ⟨rfl, rfl⟩
    have lc : (figS x).cps.toList = figs (cps x) := S_cps _
    by_cases h1 : 1 ≤ (figs (cps x)).length
    · by_cases h2 : (figs (cps x)).length ≤ 40
      · refine ⟨_, rfl, figS x, rfl, sml bigF, _, _, rfl, rfl, true, ?_, _, _, rfl, rfl, true, ?_, ?_⟩
        · exact congrArg V.bl (decide_eq_true (show (0 : Int) < ((figS x).length : Int) by omega))
        · exact congrArg V.bl (decide_eq_true (show ((figS x).length : Int) < 41 by omega))
        refine ⟨_, rfl, figS x, rfl, fun L nL => ?_⟩
        refine lc_it walk_str (fun i H' => H' L = some (.lst ((((figs (cps x)).take i).filter fun c => !isD c).map fun c => V.str ⟨#[c]⟩)) ∧ Same h H') ⟨upd_same, Same.new nL⟩ (fun _ _ _ _ => trivial) ?_ ?_
        · rintro i v H1 H1' hi ⟨e1, s1⟩ ⟨rfl, c, hc, rfl⟩
          refine ⟨rfl, ?_⟩
          have hc' : (figs (cps x))[i]? = some c := by rw [← lc, Array.getElem?_toList]; exact hc
          refine ⟨_, rfl, _, _, rfl, rfl, _, rfl, ?_⟩
          have ef : (!(!(Builtin.Str.occurrences digs ⟨#[c]⟩ 0 digs.length 1).isEmpty)) = !isD c := by rw [found_sign, digs_mem]
          show (if (!(!(Builtin.Str.occurrences digs ⟨#[c]⟩ 0 digs.length 1).isEmpty)) = true then _ else _)
          rw [ef]
          cases hoc : isD c with
          | true =>
            refine ⟨?_, s1⟩
            rw [List.take_add_one, hc', List.filter_append]
            show H1' L = some (.lst ((((figs (cps x)).take i).filter _ ++ [c].filter _).map _))
            rw [List.filter_cons_of_neg (by rw [hoc]; decide), List.filter_nil, List.append_nil]
            exact e1
          | false =>
            refine ⟨_, rfl, _, e1, ?_, ?_, Same.mut s1 nL⟩
            · rw [List.length_map]
              have := List.length_filter_le (fun c => !isD c) ((figs (cps x)).take i)
              rw [List.length_take] at this
              exact line100' (by omega)
            · rw [upd_same, List.take_add_one, hc', List.filter_append]
              show _ = some (HO.lst ((((figs (cps x)).take i).filter _ ++ [c].filter _).map _))
              rw [List.filter_cons_of_pos (by rw [hoc]; rfl), List.filter_nil, List.map_append]
              rfl
        · rintro H1 ⟨e1, s1⟩
          rw [show (figS x).cps.size = (figs (cps x)).length by rw [← lc, Array.length_toList], List.take_length] at e1
          refine ⟨by decide, fun M nM => ?_⟩
          have s2 := s1.trans (Same.new (o := .lst []) nM)
          refine ⟨L, M, _, rfl, rfl, .of (by rw [upd_ne (ne_of_none e1 nM)]; exact e1), .of upd_same, _, rfl, ?_⟩
          have e2 : (!(((figs (cps x)).filter fun c => !isD c).map fun c => V.str ⟨#[c]⟩).isEmpty) = !(figs (cps x)).all isD := by
            congr 1
            rw [List.isEmpty_map, Bool.eq_iff_iff, List.isEmpty_iff, List.filter_eq_nil_iff, List.all_eq_true]
            constructor
            · intro h c hc
              simpa using h c hc
            · intro h c hc
              simpa using h c hc
          rw [e2]
          generalize upd H1 M (.lst []) = H2 at s2 ⊢
          cases h3 : (figs (cps x)).all isD with
          | false => exact no (by unfold okN; rw [h3, Bool.false_and, Bool.and_false]) H2 s2
          | true =>
            obtain ⟨c0, r0, ec⟩ : ∃ c r, figs (cps x) = c :: r := by
              cases e : figs (cps x) with
              | nil => rw [e] at h1; simp at h1
              | cons c r => exact ⟨c, r, rfl⟩
            refine ⟨_, rfl, figS x, 0, c0, rfl, rfl, sml bigF, (show atI (figS x).cps.toList ((0 : Nat) : Int) = some c0 from atI_nat (by rw [lc, ec]; rfl)), rfl, _, rfl, ?_⟩
            have okc : okN (cps x) = !((figs (cps x)).head? == some 48 && !decide (cps x = [48])) := by
              unfold okN
              rw [decide_eq_true h1, decide_eq_true h2, h3, Bool.true_and, Bool.true_and, Bool.true_and]
            rw [ec] at okc
            have fin : okN (cps x) = true → ∃ n, intText? x = some n ∧ x.length ≤ 640 ∧ Q (.int n) H2 := fun z => by
              obtain ⟨n, e1, _, e3, _⟩ := numT_some z
              have := q H2 s2
              unfold numT at this
              rw [if_pos z, e1] at this
              exact ⟨n, e1, by omega, this⟩
            have e48 : decide (V.str ⟨#[c0]⟩ = V.str (Str.ofString "0")) = decide (c0 = 48) := by
              refine decide_eq_decide.mpr ⟨fun z => ?_, fun z => by rw [z, str_0]; rfl⟩
              injection z with z
              rw [str_0] at z
              have : S [c0] = S [48] := z
              injection S_inj this
            rw [e48]
            have okc2 : okN (cps x) = !(decide (c0 = 48) && !decide (cps x = [48])) := by
              rw [okc]
              congr 2
            by_cases c48 : c0 = 48
            · rw [decide_eq_true c48]
              dsimp only
              rw [if_pos rfl]
              refine ⟨_, rfl, rfl, _, rfl, ?_⟩
              rw [str_0]
              by_cases cz : cps x = [48]
              · have e0 : x = S [48] := by rw [← S_cps_eta x, cz]
                rw [decide_eq_true (show V.str x = V.str (S [48]) by rw [e0]), Bool.not_true]
                dsimp only
                rw [if_neg Bool.false_ne_true]
                obtain ⟨n, k1, k2, k3⟩ := fin (by rw [okc2, decide_eq_true cz]; simp)
                exact ⟨_, rfl, x, n, rfl, k1, k2, k3⟩
              · rw [decide_eq_false (show ¬ V.str x = V.str (S [48]) from fun z => cz (by injection z with z; rw [z]; rfl)), Bool.not_false]
                dsimp only
                rw [if_pos rfl]
                exact no (by rw [okc2, decide_eq_true c48, decide_eq_false cz]; rfl) H2 s2
            · rw [decide_eq_false c48]
              dsimp only
              rw [if_neg Bool.false_ne_true, if_neg Bool.false_ne_true]
              obtain ⟨n, k1, k2, k3⟩ := fin (by rw [okc2, decide_eq_false c48]; rfl)
              exact ⟨_, rfl, x, n, rfl, k1, k2, k3⟩
      · refine ⟨_, rfl, figS x, rfl, sml bigF, _, _, rfl, rfl, true, ?_, _, _, rfl, rfl, false, ?_, ?_⟩
        · exact congrArg V.bl (decide_eq_true (show (0 : Int) < ((figS x).length : Int) by omega))
        · exact congrArg V.bl (decide_eq_false (show ¬ ((figS x).length : Int) < 41 by omega))
        exact no (by unfold okN; rw [decide_eq_false h2, Bool.and_false, Bool.false_and]) h same_rfl
    · refine ⟨_, rfl, figS x, rfl, sml bigF, _, _, rfl, rfl, false, ?_, false, rfl, ?_⟩
      · exact congrArg V.bl (decide_eq_false (show ¬ (0 : Int) < ((figS x).length : Int) by omega))
      exact no (by unfold okN; rw [decide_eq_false h1, Bool.false_and, Bool.false_and]) h same_rfl
end
end T89

set_option maxHeartbeats 2000000
namespace T89
open PySem L2 PyProof.Rows TX TY TW TD TB TG TUD TE TK TL TLL TES TNN
section
variable {P : Program} {w : World} {K : PySem.W.Frag} {mg : Str → Option Value} {base : Heap}
variable {fW fN fA fR fK fS : Addr} {dW dN dA dR dK dS : FuncData}
theorem DpIntsL {H : Hp} {a : Addr} {r : List Int} (h : H a = some (.lst (r.map V.int))) : Dp K H (.ref a) (.list (dI r)) := .lst (.of h) (DpAll_plain (whole_plain (whole_ints r)))
abbrev rI1' : List V → Hp → VK → Prop := fun xs H Q => (∃ i, xs = [V.int i] ∧ Q (V.int i) H) ∨ ∃ k, xs = [V.bl k] ∧ Q (V.int (if k = true then 1 else 0)) H
theorem rd_wordsM {x : Str} {te : TE} {σ : L2.St} {H : Hp} {Q : VK} (h0 : ∀ H', Same H H' → ∀ Q' : VK, Q' (.str x) H' → te σ H' Q') (hx : x.length ≤ 1000000) (q : ∀ H' L, Same H H' → H L = none → H' L = some (.lst ((wordsT x).map V.str)) → Q (.ref L) H') :
    tOp rRep (tM1 rSp te (tC (.str ","))) (tCB rI1' (tCons (tOp rNe te (tC (.str ""))) tNil)) σ H Q := by
  refine h0 H same_rfl _ ⟨⟨x, rfl⟩, x, _, rfl, rfl, by decide +kernel, sml2 hx, fun L nL => ?_⟩
  have s1 : Same H (upd H L (.lst ((Txt.split x (Str.ofString ",")).map V.str))) := Same.new nL
  have eL : upd H L (.lst ((Txt.split x (Str.ofString ",")).map V.str)) L = some (.lst ((Txt.split x CMs).map V.str)) := upd_same
  generalize upd H L (.lst ((Txt.split x (Str.ofString ",")).map V.str)) = H1 at s1 eL ⊢
  refine h0 H1 s1 _ ⟨rfl, .inr ⟨_, rfl, ?_⟩⟩
  have fin : ∀ b : Bool, (b = decide (x.length = 0)) → rRep (.ref L) (V.int (if (!b) = true then 1 else 0)) H1 Q := by
    intro b hb
    refine ⟨L, _, _, rfl, rfl, eL, ?_, ?_, ?_, fun p np => ?_⟩
    · cases b <;> decide
    · cases b <;> decide
    · have := split_le x CMs
      cases b with
      | true => exact Nat.le_trans (Nat.le_of_eq (Nat.mul_zero _)) (Nat.zero_le _)
      | false =>
        rw [List.length_map]
        refine Nat.le_trans (Nat.le_of_eq (Nat.mul_one _)) ?_
        exact Nat.le_trans this (sml2 hx)
    · refine q _ p (s1.trans (Same.new np)) (s1.free np) ?_
      rw [upd_same]
      unfold wordsT
      cases b with
      | true =>
        rw [if_pos (of_decide_eq_true hb.symm)]
        rfl
      | false =>
        rw [if_neg (of_decide_eq_false hb.symm)]
        show some (HO.lst (List.replicate 1 _).flatten) = _
        rw [List.replicate_one, List.flatten_singleton]
  by_cases e : x.length = 0
  · rw [decide_eq_true ((empty_iff x).mpr e)]
    exact fin true (decide_eq_true e).symm
  · rw [decide_eq_false (fun z => e ((empty_iff x).mp z))]
    exact fin false (decide_eq_false e).symm
abbrev N_stop : List Str := ["_law_text_here", "_law_lines", "_law_names_here", "_law_name", "_law_sign", "_law_ahead", "_law_at", "_law_line", "_law_word", "_law_row"]
theorem sc_stop : FnScope N_stop ["_law_text_here"] (defScope s_stop) := ⟨rfl, rfl, rfl, by decide +kernel, rfl, by decide +kernel, by decide +kernel⟩
def optS : Option Nat → V
  | none => .non
  | some i => .int i
def sp_stop : Sp := fun vs H Q _ => ∃ x : Str, vs = [.str x] ∧ x.length ≤ 900000 ∧ (linesT x).length ≤ 60 ∧ ∀ H', Same H H' → Q (optS (stopX x)) H'
theorem ok_stop {f gN : Addr} {fd eN : FuncData} (F : Fn K mg "_law_stop" s_stop ["_law_text_here"] f fd) (FN : Fn K mg "_law_number" s_lnumber ["_law_word"] gN eN) (B : Bn mg) (Bs : mg "set" = none) : FnOk P w K mg base CX0 2 f fd ["_law_text_here"] sp_stop := by
  have GN : FnOk P w K mg base CX0 1 gN eN ["_law_word"] sp_number := ok_lnumber FN B
  refine F.F.ok sc_stop (fun vs H Q E h => ?_) (fun cdv A outer s H vs Q E hr h => ?_)
  · obtain ⟨x, rfl, _⟩ := h
    rfl
  · obtain ⟨x, rfl, hx, hll, q⟩ := h
    have nd := sc_stop.nd
    have hu1 := hr.units0
    have hu64 := hr.units
    refine ⟨_, pss_cons (ps_set (i := 1) nd rfl (Or.inl rfl) (pe_split (pv 0) pe_str))
      (pss_cons (ps_set (i := 2) nd rfl (Or.inl rfl) (pe_op op_rep (pe_split (pe_ix ix_list (pv 1) pe_int (fun _ _ => rfl)) pe_str) (pe_callTy call_int1 (by rfl) B.int boot_int (pa_cons (pe_cmpR op_ne (pe_ix ix_list (pv 1) pe_int (fun _ _ => rfl)) pe_str (nomark _)) pa_nil))))
      (pss_cons (ps_if (PW.pt (pw_or (pt_cmpR op_gt (pe_callB call_len_seq (by rfl) B.len PySem.boot_len (pa_cons (pv 2) pa_nil)) pe_int (nomark _)) (pw_or1 (pt_cmpR op_lt (pe_lenD rfl (by rfl) B.len (by rfl) Bs (pv 2)) (pe_callB call_len_seq (by rfl) B.len PySem.boot_len (pa_cons (pv 2) pa_nil)) (nomark _))))) (pss_one (ps_ret pe_int)) pss_nil)
      (pss_cons (ps_for PassesOwn.never rfl (pi_list (pv 2)) (pg_name (i := 3) nd rfl (Or.inl rfl))
        (pss_one (ps_if (PW.pt (pw_or (pt_not (pt_chain op_lt op_lt pe_int (pe_callB call_len_str (by rfl) B.len PySem.boot_len (pa_cons (pv 3) pa_nil)) pe_int))
          (pw_or1 (pt_cmpR (op_neNil hu1) (pe_lc (own := [("_law_sign", 4)]) (g := gName 4) (tt := tTest (tOp (fun x y H Q => ∃ i j, x = .str i ∧ y = .str j ∧ Q (.bl (!(!(Builtin.Str.occurrences j i 0 j.length 1).isEmpty))) H) (tVar 4) (tC (.str "abcdefghijklmnopqrstuvwxyz")))) (te := tVar 4) rfl nd (pi_str (pv 3)) (blkOk_by (N := N_stop) (sc := defScope s_stop) (by decide +kernel))
            (fun _ _ _ _ _ => pg_name (i := 4) nd rfl (Or.inl rfl)) (fun _ _ _ _ _ => pts_one (pt_cmpR op_notin_str (pv 4) pe_str rfl)) (fun _ _ _ _ _ => pv 4)) (pe_lst pa_nil) (nomark _))))) (pss_one (ps_ret pe_int)) pss_nil)))
      (pss_cons (ps_set (i := 5) nd rfl (Or.inl rfl) pe_non)
      (pss_cons (ps_for PassesOwn.never rfl (pi_enumF rfl B.enum (pa_cons (pe_slice sl_list (pv 1) (po_some pe_int) po_none) pa_nil) (pk_cons pe_int pk_nil)) (pg_tup rfl (pgs_cons (pg_name (i := 6) nd rfl (Or.inl rfl)) (pgs_cons (pg_name (i := 7) nd rfl (Or.inl rfl)) pgs_nil)))
        (pss_cons (ps_setLc (i := 9) (own := [("_law_word", 8)]) (g := gName 8) (tt := tYes) (te := tCall sp_number [] E0 (tCons (tVar 8) tNil)) (by rfl) nd rfl rfl (sw_true rfl rfl rfl (by decide +kernel)) (pi_list (pe_op op_rep (pe_split (pv 7) pe_str) (pe_callTy call_int1 (by rfl) B.int boot_int (pa_cons (pe_cmpR op_ne (pv 7) pe_str (nomark _)) pa_nil)))) (blkOk_by (N := N_stop) (sc := defScope s_stop) (by decide +kernel))
            (fun _ _ _ _ _ => pg_name (i := 8) nd rfl (Or.inl rfl)) (fun _ _ _ _ _ => pts_nil) (fun _ _ _ _ _ => pe_call GN hr rfl FN.g FN.F.kp FN.b .nil pass0 (pa_cons (pv 8) pa_nil)))
        (pss_cons (ps_if (PW.pt (pw_or (pt_cmpR op_in_seq pe_non (pv 9) rfl) (pw_or (pt_cmpR op_ne (pe_callB call_len_seq (by rfl) B.len PySem.boot_len (pa_cons (pv 9) pa_nil)) (pe_callB call_len_seq (by rfl) B.len PySem.boot_len (pa_cons (pv 2) pa_nil)) (nomark _))
          (pw_or1 (PW.pt (pw_and (pt_cmp (pc_notN (pv 5))) (pw_and1 (pt_cmpR (op_leD hu64) (pv 9) (pv 5) (nomark _))))))))) (pss_one (ps_ret (pv 6))) pss_nil)
        (pss_one (ps_set (i := 5) nd rfl (Or.inl rfl) (pv 9))))))
      (pss_one (ps_ret pe_non))))))), ?_⟩
    have hls : ∃ hd tl', linesT x = hd :: tl' := by
      cases e : linesT x with
      | nil =>
        exfalso
        have := split_pos x NLs
        have e : Txt.split x NLs = [] := e
        rw [e] at this
        simp at this
      | cons a b => exact ⟨a, b, rfl⟩
    obtain ⟨hd, ls, els⟩ := hls
    have ehd : (linesT x).headD Str.empty = hd := by rw [els]; rfl
    have etl : (linesT x).tail = ls := by rw [els]; rfl
    have lens : ∀ l ∈ linesT x, l.length ≤ 900000 := fun l hl => Nat.le_trans (part_short hl) hx
    have hdl : hd.length ≤ 1000000 := Nat.le_trans (lens hd (by rw [els]; exact List.mem_cons_self)) (by decide)
    have lsl : ∀ l ∈ ls, l.length ≤ 1000000 := fun l hl => Nat.le_trans (lens l (by rw [els]; exact List.mem_cons_of_mem _ hl)) (by decide)
    have few : ls.length ≤ 59 := by rw [els, List.length_cons] at hll; omega
    have es : stopX x = if colsV ((wordsT hd).map V.str) = true then stopFrom (wordsT hd).length 1 none ls else some 0 := by unfold stopX; rw [ehd, etl]
    refine ⟨_, rfl, ⟨x, rfl⟩, x, _, rfl, rfl, by decide +kernel, sml2 (by omega), fun L nL => ?_⟩
    have e1 : upd H L (.lst ((Txt.split x (Str.ofString "\n")).map V.str)) L = some (.lst ((hd :: ls).map V.str)) := by rw [upd_same, ← els]; rfl
    have s1 : Same H (upd H L (.lst ((Txt.split x (Str.ofString "\n")).map V.str))) := Same.new nL
    generalize upd H L (.lst ((Txt.split x (Str.ofString "\n")).map V.str)) = H1 at e1 s1 ⊢
    dsimp only [gName]
    refine sq_asg (rd_wordsM (x := hd) (fun H' s' Q' h => ⟨_, rfl, L, _, 0, .str hd, rfl, rfl, .of (s' _ _ e1), (show atI ((hd :: ls).map V.str) ((0 : Nat) : Int) = some (V.str hd) from atI_nat rfl), h⟩) hdl fun H2 Lc s2 nLc eLc => ?_)
    dsimp only [gName]
    have t2 := s1.trans s2
    have bad : colsV ((wordsT hd).map V.str) = false → ∀ H', Same H H' → Q (.int 0) H' := fun z H' s => by
      have := q H' s
      rw [es, if_neg (by rw [z]; exact Bool.false_ne_true)] at this
      exact this
    have cV : colsV ((wordsT hd).map V.str) = (decide ((wordsT hd).length ≤ 8) && (((wordsT hd).map V.str).all isNm && decide (wordsT hd).Nodup)) := by
      unfold colsV
      rw [List.length_map]
      congr 2
      exact decide_eq_decide.mpr nd_strs
    generalize hW : wordsT hd = ws at *
    refine ⟨_, rfl, Lc, _, rfl, .inl (.of eLc), _, _, rfl, rfl, _, rfl, ?_⟩
    by_cases h8 : ws.length ≤ 8
    · rw [decide_eq_false (show ¬ (8 : Int) < ((ws.map V.str).length : Int) by rw [List.length_map]; omega)]
      dsimp only
      rw [if_neg Bool.false_ne_true]
      refine ⟨_, rfl, Lc, ws, rfl, .of eLc, by omega, _, rfl, Lc, _, rfl, .inl (.of eLc), _, _, rfl, rfl, _, rfl, ?_⟩
      by_cases hnd : ws.Nodup
      · have un : unl ws = ws.length := unl_eq.mpr hnd
        rw [un, decide_eq_false (show ¬ ((ws.length : Nat) : Int) < ((ws.map V.str).length : Int) by rw [List.length_map]; omega)]
        dsimp only
        rw [if_neg Bool.false_ne_true]
        rw [decide_eq_true h8, decide_eq_true hnd, Bool.true_and, Bool.and_true] at cV
        refine ⟨_, rfl, Lc, rfl, ⟨_, .of eLc⟩, ?_⟩
        refine for_it (walk_list (xs := ws.map V.str)) (fun i σ h => ∃ (v3 v4 : Option V), σ = [some (.str x), some (.ref L), some (.ref Lc), v3, v4, none, none, none, none, none] ∧ Same H2 h ∧ ((ws.take i).map V.str).all isNm = true)
          ⟨none, none, rfl, same_rfl, by rw [List.take_zero]; rfl⟩ (fun i σ h _ ⟨_, _, _, s, _⟩ => .of (s _ _ eLc)) ?_ ?_
        · rintro i v σ h h' hi ⟨v3, v4, rfl, sh, hok⟩ ⟨rfl, hv⟩
          rw [List.length_map] at hi
          obtain ⟨wd, hwd, rfl⟩ : ∃ m, ws[i]? = some m ∧ v = V.str m := by
            rw [List.getElem?_map, List.getElem?_eq_getElem hi] at hv
            exact ⟨_, List.getElem?_eq_getElem hi, (Option.some.inj hv).symm⟩
          have wm := List.mem_of_getElem? hwd
          have no : nameB wd = false → ∀ H', Same H2 H' → Q (.int 0) H' := fun z H' s => bad (by
            rw [cV]
            refine Bool.eq_false_iff.mpr fun y => ?_
            have : isNm (.str wd) = true := List.all_eq_true.mp y _ (List.mem_map.mpr ⟨wd, wm, rfl⟩)
            have e : isNm (.str wd) = nameB wd := rfl
            rw [e, z] at this
            cases this) H' (t2.trans s)
          have wl : wd.length ≤ 1000000 := by
            rw [← hW] at wm
            exact Nat.le_trans (words_len wm) hdl
          have lw : wd.length = (cps wd).length := len_cps wd
          by_cases h1 : 1 ≤ wd.length
          · by_cases h2 : wd.length ≤ 8
            · refine ⟨_, rfl, wd, rfl, sml wl, _, _, rfl, rfl, true, ?_, _, _, rfl, rfl, true, ?_, ?_⟩
              · exact congrArg V.bl (decide_eq_true (show (0 : Int) < (wd.length : Int) by omega))
              · exact congrArg V.bl (decide_eq_true (show (wd.length : Int) < 9 by omega))
              refine ⟨_, rfl, wd, rfl, fun D nD => ?_⟩
              refine lc_it walk_str (fun i H' => H' D = some (.lst ((((cps wd).take i).filter fun c => !okc c).map fun c => V.str ⟨#[c]⟩)) ∧ Same h' H') ⟨upd_same, Same.new nD⟩ (fun _ _ _ _ => trivial) ?_ ?_
              · rintro i v H3 H3' hi' ⟨e4, s4⟩ ⟨rfl, c, hc, rfl⟩
                refine ⟨rfl, ?_⟩
                have hc' : (cps wd)[i]? = some c := by rw [Array.getElem?_toList]; exact hc
                refine ⟨_, rfl, _, _, rfl, rfl, _, rfl, ?_⟩
                have ef : (!(!(Builtin.Str.occurrences abc ⟨#[c]⟩ 0 abc.length 1).isEmpty)) = !okc c := by rw [found_sign, abc_mem]
                show (if (!(!(Builtin.Str.occurrences abc ⟨#[c]⟩ 0 abc.length 1).isEmpty)) = true then _ else _)
                rw [ef]
                cases hoc : okc c with
                | true =>
                  refine ⟨?_, s4⟩
                  rw [List.take_add_one, hc', List.filter_append]
                  show H3' D = some (.lst ((((cps wd).take i).filter _ ++ [c].filter _).map _))
                  rw [List.filter_cons_of_neg (by rw [hoc]; decide), List.filter_nil, List.append_nil]
                  exact e4
                | false =>
                  refine ⟨_, rfl, _, e4, ?_, ?_, Same.mut s4 nD⟩
                  · rw [List.length_map]
                    have := List.length_filter_le (fun c => !okc c) ((cps wd).take i)
                    rw [List.length_take] at this
                    exact line100' (by omega)
                  · rw [upd_same, List.take_add_one, hc', List.filter_append]
                    show _ = some (HO.lst ((((cps wd).take i).filter _ ++ [c].filter _).map _))
                    rw [List.filter_cons_of_pos (by rw [hoc]; rfl), List.filter_nil, List.map_append]
                    rfl
              · rintro H3 ⟨e4, s4⟩
                rw [show wd.cps.size = (cps wd).length by rw [← Array.length_toList], List.take_length] at e4
                refine ⟨by decide, fun M nM => ?_⟩
                have s5 := s4.trans (Same.new (o := .lst []) nM)
                refine ⟨D, M, _, rfl, rfl, .of (by rw [upd_ne (ne_of_none e4 nM)]; exact e4), .of upd_same, _, rfl, ?_⟩
                have e5 : (!(((cps wd).filter fun c => !okc c).map fun c => V.str ⟨#[c]⟩).isEmpty) = !(cps wd).all okc := by
                  congr 1
                  rw [List.isEmpty_map, Bool.eq_iff_iff, List.isEmpty_iff, List.filter_eq_nil_iff, List.all_eq_true]
                  constructor
                  · intro h c hc
                    simpa using h c hc
                  · intro h c hc
                    simpa using h c hc
                rw [e5]
                generalize upd H3 M (.lst []) = H4 at s5 ⊢
                cases h3 : (cps wd).all okc with
                | false => exact no (by unfold nameB; rw [h3, Bool.and_false, Bool.and_false]) H4 (sh.trans s5)
                | true =>
                  refine ⟨_, _, rfl, sh.trans s5, ?_⟩
                  rw [List.take_add_one, hwd, List.map_append, List.all_append, hok]
                  show (true && (nameB wd && true)) = true
                  unfold nameB
                  rw [h3, decide_eq_true h1, decide_eq_true h2]
                  rfl
            · refine ⟨_, rfl, wd, rfl, sml wl, _, _, rfl, rfl, true, ?_, _, _, rfl, rfl, false, ?_, ?_⟩
              · exact congrArg V.bl (decide_eq_true (show (0 : Int) < (wd.length : Int) by omega))
              · exact congrArg V.bl (decide_eq_false (show ¬ (wd.length : Int) < 9 by omega))
              exact no (by unfold nameB; rw [decide_eq_false h2, Bool.false_and, Bool.and_false]) h' sh
          · refine ⟨_, rfl, wd, rfl, sml wl, _, _, rfl, rfl, false, ?_, false, rfl, ?_⟩
            · exact congrArg V.bl (decide_eq_false (show ¬ (0 : Int) < (wd.length : Int) by omega))
            exact no (by unfold nameB; rw [decide_eq_false h1, Bool.false_and]) h' sh
        · rintro σ h ⟨v3, v4, rfl, sh, hok⟩
          rw [List.length_map, List.take_length] at hok
          rw [cV, hok] at es
          rw [if_pos rfl] at es
          have eLh : h L = some (.lst ((hd :: ls).map V.str)) := sh _ _ (s2 _ _ e1)
          have eLch : h Lc = some (.lst (ws.map V.str)) := sh _ _ eLc
          have t3 := t2.trans sh
          refine ⟨_, rfl, _, rfl, L, _, rfl, .of eLh, fun Ls nLs => ?_⟩
          have eLs : upd h Ls (.lst (cutV ((hd :: ls).map V.str) (some 1) none)) Ls = some (.lst (ls.map V.str)) := by
            rw [upd_same, show (some (1 : Int)) = some ((1 : Nat) : Int) from rfl, cut_drop]
            rfl
          have s5 : Same h (upd h Ls (.lst (cutV ((hd :: ls).map V.str) (some 1) none))) := Same.new nLs
          generalize upd h Ls (.lst (cutV ((hd :: ls).map V.str) (some 1) none)) = H5 at eLs s5 ⊢
          have t5 := t3.trans s5
          have eLc5 := s5 _ _ eLch
          clear eLh eLch nLs
          refine ⟨Ls, ls.map V.str, 1, rfl, rfl, by decide, .of eLs, ?_⟩
          refine for_it (walk_enumF (xs := ls.map V.str) (n := 1)) (fun i σ h => ∃ (p : Option (List Int)) (v5 : V) (v4 v6 v7 v8 v9 : Option V), σ = [some (.str x), some (.ref L), some (.ref Lc), v3, v4, some v5, v6, v7, v8, v9] ∧ ((p = none ∧ v5 = .non) ∨ ∃ (r : List Int) (A : Addr), p = some r ∧ v5 = .ref A ∧ h A = some (.lst (r.map V.int))) ∧
              stopFrom ws.length 1 none ls = stopFrom ws.length (1 + i) p (ls.drop i) ∧ Same H h ∧ h Ls = some (.lst (ls.map V.str)) ∧ h Lc = some (.lst (ws.map V.str)))
            ⟨none, .non, _, _, _, _, _, rfl, .inl ⟨rfl, rfl⟩, by rw [List.drop_zero], t5, eLs, eLc5⟩ (fun i σ h _ ⟨_, _, _, _, _, _, _, _, _, _, _, e, _⟩ => .of e) ?_ ?_
          · rintro i v σ h h' hi ⟨p, v5, v4', v6, v7, v8, v9, rfl, hp, hst, sh, eLsh, eLch⟩ ⟨T', x1, x2, rfl, nT, rfl, hx1, hx2⟩
            rw [List.length_map] at hi
            obtain rfl : V.int ((1 + i : Nat) : Int) = x1 := Option.some.inj hx1
            obtain ⟨l, hl, rfl⟩ : ∃ l, ls[i]? = some l ∧ x2 = V.str l := by
              have h2 : (ls.map V.str)[i]? = some x2 := hx2
              rw [List.getElem?_map, List.getElem?_eq_getElem hi] at h2
              exact ⟨_, List.getElem?_eq_getElem hi, (Option.some.inj h2).symm⟩
            have sT : Same h (upd h T' (.tup [.int ((1 + i : Nat) : Int), .str l])) := Same.new nT
            refine ⟨T', _, rfl, .of upd_same, rfl, _, _, rfl, _, _, rfl, rfl, ?_⟩
            generalize upd h T' (.tup [.int ((1 + i : Nat) : Int), .str l]) = h2 at sT ⊢
            have nx := stop_next (many := ws.length) (p := p) hl
            have shT := sh.trans sT
            have lm := lsl l (List.mem_of_getElem? hl)
            refine sq_asg (rd_wordsM (x := l) (fun H' s' Q' h => ⟨_, rfl, h⟩) lm fun H6 Lw s6 nLw eLw => ⟨Lw, rfl, ⟨_, .of eLw⟩, fun D nD => ?_⟩)
            have rowE : rowOf l ws.length = if (wordsT l).length = ws.length ∧ (wordsT l).all (fun w => (numT w).isSome) = true then some ((wordsT l).map fun w => (numT w).getD 0) else none := rfl
            have few' := words_few lm
            have wl' : ∀ w ∈ wordsT l, w.length ≤ 1000000 := fun w hw => Nat.le_trans (words_len hw) lm
            generalize wordsT l = us at eLw few' wl' rowE
            refine lc_it (walk_list (xs := us.map V.str)) (fun j h => h D = some (.lst (((us.take j).map numT).map optN)) ∧ Same H6 h) ⟨upd_same, Same.new nD⟩ (fun j h _ ⟨_, s⟩ => .of (s _ _ eLw)) ?_ ?_
            · rintro j v h3 h4 hj ⟨e4, s4⟩ ⟨rfl, hv⟩
              rw [List.length_map] at hj
              obtain ⟨wd, hwd, rfl⟩ : ∃ m, us[j]? = some m ∧ v = V.str m := by
                rw [List.getElem?_map, List.getElem?_eq_getElem hj] at hv
                exact ⟨_, List.getElem?_eq_getElem hj, (Option.some.inj hv).symm⟩
              refine ⟨rfl, ?_⟩
              refine ⟨_, rfl, wd, rfl, wl' wd (List.mem_of_getElem? hwd), fun h5 s5 => ?_⟩
              refine ⟨_, s5 _ _ e4, ?_, ?_, Same.mut (s4.trans s5) nD⟩
              · rw [List.length_map, List.length_map, List.length_take]
                exact Nat.lt_of_le_of_lt (show _ ≤ 1000002 by omega) (by decide)
              · rw [upd_same, List.take_add_one, hwd, List.map_append, List.map_append]
                rfl
            · rintro h3 ⟨e4, s4⟩
              rw [List.length_map, List.take_length] at e4
              dsimp only [gName]
              have t6 := (shT.trans s6).trans s4
              have fl : ((us.map numT).map optN).all flatV = true := by
                rw [List.all_eq_true]
                intro v hv
                obtain ⟨o, _, rfl⟩ := List.mem_map.mp hv
                cases o <;> rfl
              have no : stopFrom ws.length (1 + i) p (ls.drop i) = some (1 + i) → Q (.int ((1 + i : Nat) : Int)) h3 := fun z => by
                have := q h3 t6
                rw [es, hst, z] at this
                exact this
              refine ⟨_, rfl, D, _, rfl, .inl (.of e4), rfl, fl, _, rfl, ?_⟩
              have ea : (us.map numT).all Option.isSome = us.all fun w => (numT w).isSome := by rw [List.all_map]; rfl
              rw [if_neg Bool.false_ne_true, inV_opt, ea]
              cases ha : us.all fun w => (numT w).isSome with
              | false =>
                rw [Bool.not_false]
                dsimp only
                rw [if_pos rfl]
                refine ⟨_, rfl, no ?_⟩
                rw [nx, rowE, if_neg]
                rintro ⟨_, z⟩
                rw [ha] at z
                cases z
              | true =>
                rw [Bool.not_true]
                dsimp only
                rw [if_neg Bool.false_ne_true]
                refine ⟨_, rfl, D, _, rfl, .inl (.of e4), _, rfl, Lc, _, rfl, .inl (.of (s4 _ _ (s6 _ _ (sT _ _ eLch)))), rfl, _, rfl, ?_⟩
                by_cases hl' : us.length = ws.length
                · rw [decide_eq_true (show V.int (((us.map numT).map optN).length : Int) = V.int ((ws.map V.str).length : Int) by rw [List.length_map, List.length_map, List.length_map, hl']), Bool.not_true]
                  dsimp only
                  rw [if_neg Bool.false_ne_true]
                  rw [if_pos ⟨hl', ha⟩] at rowE
                  have er : (us.map numT).map optN = (us.map fun w => (numT w).getD 0).map V.int := by
                    rw [List.map_map, List.map_map]
                    refine List.map_congr_left fun w hw => ?_
                    have := List.all_eq_true.mp ha w hw
                    show optN (numT w) = V.int ((numT w).getD 0)
                    cases e : numT w with
                    | none => rw [e] at this; cases this
                    | some i => rfl
                  rw [er] at e4
                  generalize (us.map fun w => (numT w).getD 0) = r at rowE e4
                  rw [rowE] at nx
                  have keep : abv p r = true → stopFrom ws.length 1 none ls = stopFrom ws.length (1 + (i + 1)) (some r) (ls.drop (i + 1)) := fun z => by
                    rw [hst, nx]
                    show (if abv p r = true then _ else _) = _
                    rw [if_pos z]
                  have eLs3 := s4 _ _ (s6 _ _ (sT _ _ eLsh))
                  have eLc3 := s4 _ _ (s6 _ _ (sT _ _ eLch))
                  rcases hp with ⟨rfl, rfl⟩ | ⟨r0, A, rfl, rfl, hA⟩
                  · refine ⟨_, rfl, _, rfl, ?_⟩
                    show (if (!decide (V.non = V.non)) = true then _ else _)
                    rw [decide_eq_true rfl, Bool.not_true, if_neg Bool.false_ne_true]
                    dsimp only
                    rw [if_neg Bool.false_ne_true]
                    exact ⟨_, rfl, some r, _, _, _, _, _, _, rfl, .inr ⟨r, D, rfl, rfl, e4⟩, keep rfl, t6, eLs3, eLc3⟩
                  · refine ⟨_, rfl, _, rfl, ?_⟩
                    have hA3 := s4 _ _ (s6 _ _ (sT _ _ hA))
                    show (if (!decide (V.ref A = V.non)) = true then _ else _)
                    rw [decide_eq_false (show ¬ V.ref A = V.non from fun z => by cases z), Bool.not_false, if_pos rfl]
                    refine ⟨_, rfl, _, rfl, ?_⟩
                    refine ⟨_, _, DpIntsL e4, DpIntsL hA3, by unfold PySem.W.alike; exact alike_ints _ _, (fun z => by cases z), by unfold PyData.depth; rw [dep_plain]; decide, _, rfl, ?_⟩
                    rw [lt_lists]
                    cases hq : ltI r0 r with
                    | true =>
                      rw [Bool.not_true]
                      rw [if_neg Bool.false_ne_true]
                      exact ⟨_, rfl, some r, _, _, _, _, _, _, rfl, .inr ⟨r, D, rfl, rfl, e4⟩, keep hq, t6, eLs3, eLc3⟩
                    | false =>
                      rw [Bool.not_false]
                      rw [if_pos rfl]
                      refine ⟨_, rfl, no ?_⟩
                      rw [nx]
                      show (if abv (some r0) r = true then _ else _) = _
                      rw [if_neg (show ¬ abv (some r0) r = true by show ¬ ltI r0 r = true; rw [hq]; exact Bool.false_ne_true)]
                · rw [decide_eq_false (show ¬ V.int (((us.map numT).map optN).length : Int) = V.int ((ws.map V.str).length : Int) by
                    rw [List.length_map, List.length_map, List.length_map]
                    intro z
                    injection z with z
                    exact hl' (Int.ofNat.inj z)), Bool.not_false]
                  dsimp only
                  rw [if_pos rfl]
                  refine ⟨_, rfl, no ?_⟩
                  rw [nx, rowE, if_neg]
                  rintro ⟨z, _⟩
                  exact hl' z
          · rintro σ h ⟨p, v5, v4', v6, v7, v8, v9, rfl, hp, hst, sh, eLsh, eLch⟩
            rw [List.length_map, List.drop_length] at hst
            have := q h sh
            rw [es, hst] at this
            exact this
      · have un : unl ws < ws.length := Nat.lt_of_le_of_ne (cnt_le (fun i => ws.getD i Str.empty) ws.length) (fun z => hnd (unl_eq.mp z))
        rw [decide_eq_true (show ((unl ws : Nat) : Int) < ((ws.map V.str).length : Int) by rw [List.length_map]; omega)]
        dsimp only
        rw [if_pos rfl]
        exact bad (by rw [cV, decide_eq_false hnd, Bool.and_false, Bool.and_false]) H2 t2
    · rw [decide_eq_true (show (8 : Int) < ((ws.map V.str).length : Int) by rw [List.length_map]; omega)]
      dsimp only
      rw [if_pos rfl]
      exact bad (by rw [cV, decide_eq_false h8, Bool.false_and]) H2 t2
end
end T89

set_option maxHeartbeats 2000000
local macro_rules | `(tactic| walk_at "z") => `(tactic| ((try dsimp only); first | assumption | omega | decide | (simp only [List.length_cons, List.length_nil]; first | decide | omega)))
namespace T89
open PySem L2 PyProof.Rows TX TY TW TD TB TG TUD TE TK TL TLL TES TNN
section
variable {P : Program} {w : World} {K : PySem.W.Frag} {mg : Str → Option Value} {base : Heap}
def somes : List Str := [Str.ofString "a", Str.ofString "b", Str.ofString "ab", Str.ofString "key", Str.ofString "row", Str.ofString "of", Str.ofString "zzzzzzzz", Str.ofString "tree", Str.ofString "c", Str.ofString "put", Str.ofString "x", Str.ofString "fold", Str.ofString "aa"]
def pickN (a b t : Nat) : List Str := (List.range t).map fun k => somes.getD ((a + (1 + b) * k) % 13) Str.empty
theorem somes_nd : somes.Nodup := by decide +kernel
theorem somes_ok : ∀ x ∈ somes, TM.NameOk x := by
  intro x hx
  rw [← nameB_iff]
  have : somes.all nameB = true := by decide +kernel
  exact List.all_eq_true.mp this x hx
theorem pick_inj {a b i j : Nat} (ha : a < 13) (hb : b < 12) (hi : i < 8) (hj : j < 8) (h : (a + (1 + b) * i) % 13 = (a + (1 + b) * j) % 13) : i = j := by
  have key : ∀ a < 13, ∀ b < 12, ∀ i < 8, ∀ j < 8, (a + (1 + b) * i) % 13 = (a + (1 + b) * j) % 13 → i = j := by decide +kernel
  exact key a ha b hb i hi j hj h
theorem pick_at {m : Nat} (h : m < 13) : somes[m]? = some (somes.getD m Str.empty) := by
  have : m < somes.length := h
  rw [List.getD_eq_getElem?_getD, List.getElem?_eq_getElem this]
  rfl
theorem pick_cs {a b t : Nat} (ha : a < 13) (hb : b < 12) (ht : t ≤ 8) : Cs (pickN a b t) := by
  have inj : ∀ i j, i < 13 → j < 13 → somes.getD i Str.empty = somes.getD j Str.empty → i = j := fun i j hi hj e => by
    have h1 : i < somes.length := hi
    have h2 : j < somes.length := hj
    rw [List.getD_eq_getElem?_getD, List.getD_eq_getElem?_getD, List.getElem?_eq_getElem h1, List.getElem?_eq_getElem h2] at e
    exact (List.getElem_inj somes_nd).mp e
  refine ⟨?_, ?_, fun x hx => ?_⟩
  · unfold pickN
    rw [List.nodup_iff_pairwise_ne, List.pairwise_map]
    refine List.Pairwise.imp_of_mem (R := fun a b => a ≠ b) (fun {i j} hi hj hij e => ?_) (List.nodup_iff_pairwise_ne.mp List.nodup_range)
    have hi := List.mem_range.mp hi
    have hj := List.mem_range.mp hj
    exact hij (pick_inj ha hb (by omega) (by omega) (inj _ _ (Nat.mod_lt _ (by decide)) (Nat.mod_lt _ (by decide)) e))
  · unfold pickN
    rw [List.length_map, List.length_range]
    exact ht
  · obtain ⟨k, hk, rfl⟩ := List.mem_map.mp hx
    exact somes_ok _ (List.mem_of_getElem? (pick_at (Nat.mod_lt _ (by decide))))
abbrev N_names : List Str := ["_law_well_here", "_law_many", "_law_some", "_law_first", "_law_step", "_law_k"]
theorem sc_names : FnScope N_names ["_law_well_here", "_law_many"] (defScope s_names) := ⟨rfl, rfl, rfl, by decide +kernel, rfl, by decide +kernel, by decide +kernel⟩
def sp_names : Sp := fun vs H Q _ => ∃ (W : Addr) (t n : Nat), vs = [.ref W, .int t] ∧ t ≤ 8 ∧ WellAt (n + 2) H W ∧
  ∀ (H' : Hp) (p : Addr) (ns : List Str), Sm W H H' → WellAt n H' W → H p = none → p ≠ W → H' p = some (.lst (ns.map V.str)) → ns.length = t → Cs ns → Q (.ref p) H'
theorem ok_names {f fD : Addr} {fd fdD : FuncData} (F : Fn K mg "_law_names" s_names ["_law_well_here", "_law_many"] f fd) (B : Bn mg) (D : Fn K mg "_law_draw" s_draw ["_law_well_here", "_law_many"] fD fdD) :
    FnOk P w K mg base CX0 2 f fd ["_law_well_here", "_law_many"] sp_names := by
  have GD : FnOk P w K mg base CX0 1 fD fdD ["_law_well_here", "_law_many"] sp_draw := ok_draw D
  refine F.F.ok sc_names (fun vs H Q E h => ?_) (fun cdv A outer s H vs Q E hr h => ?_)
  · obtain ⟨W, t, n, rfl, _⟩ := h
    rfl
  · obtain ⟨W, t, n, rfl, h0, hW, q⟩ := h
    have nd := sc_names.nd
    refine ⟨_, pss_cons (ps_set (i := 2) nd rfl (Or.inr rfl) (pe_lst (pa_cons pe_str (pa_cons pe_str (pa_cons pe_str (pa_cons pe_str (pa_cons pe_str (pa_cons pe_str (pa_cons pe_str (pa_cons pe_str (pa_cons pe_str (pa_cons pe_str (pa_cons pe_str (pa_cons pe_str (pa_cons pe_str pa_nil)))))))))))))))
      (pss_cons (ps_set (i := 3) nd rfl (Or.inr rfl) (pe_call GD hr rfl D.g D.F.kp D.b .nil pass0 (pa_cons (pv 0) (pa_cons pe_int pa_nil))))
      (pss_cons (ps_set (i := 4) nd rfl (Or.inr rfl) (pe_op op_add pe_int (pe_call GD hr rfl D.g D.F.kp D.b .nil pass0 (pa_cons (pv 0) (pa_cons pe_int pa_nil)))))
      (pss_one (ps_ret (pe_lc (own := [("_law_k", 5)]) (g := gName 5) (tt := tYes) (te := tOp (rIxL K) (tVar 2) (tOp (rI (fun _ j => 0 < j) fun i j => V.int (i % j)) (tOp (rI0 fun i j => V.int (i + j)) (tVar 3) (tOp (rI CMul fun i j => V.int (i * j)) (tVar 4) (tVar 5))) (tC (V.int 13)))) rfl nd (pi_range1 rfl B.range (pa_cons (pv 1) pa_nil)) (blkOk_by (N := N_names) (sc := defScope s_names) (by decide +kernel))
          (fun _ _ _ _ _ => pg_name (i := 5) nd rfl (Or.inl rfl)) (fun _ _ _ _ _ => pts_nil)
          (fun _ _ _ _ _ => pe_ix ix_list (pv 2) (pe_op op_mod (pe_op op_add (pv 3) (pe_op op_mul (pv 4) (pv 5))) pe_int) (fun _ _ => rfl))))))), ?_⟩
    refine ⟨by decide, fun p1 n1 => ?_⟩
    have e1 : upd H p1 (.lst (somes.map V.str)) p1 = some (.lst (somes.map V.str)) := upd_same
    have w1 : WellAt (n + 2) (upd H p1 (.lst (somes.map V.str))) W := hW.new n1
    have pW1 : p1 ≠ W := (hW.ne n1).symm
    have s1 : Sm W H (upd H p1 (.lst (somes.map V.str))) := Sm.new .rfl' n1
    show tSeq _ _ _ _ (upd H p1 (.lst (somes.map V.str)))
    generalize upd H p1 (.lst (somes.map V.str)) = H1 at e1 w1 s1 ⊢
    refine ⟨_, rfl, W, 13, n + 1, rfl, by decide, by decide, w1, fun H2 a ha s2 w2 => ?_⟩
    refine ⟨_, rfl, W, 12, n, rfl, by decide, by decide, w2, fun H3 b hb s3 w3 => ⟨_, _, rfl, rfl, ?_⟩⟩
    have e3 := (s2.trans s3) _ _ pW1 e1
    have m3 := s1.trans (s2.trans s3)
    refine ⟨_, rfl, t, rfl, by omega, by omega, fun L nL => ?_⟩
    have nLH : H L = none := by
      cases e : H L with
      | none => rfl
      | some o =>
        by_cases z : L = W
        · subst z
          exact absurd rfl (w3.ne nL)
        · rw [m3 _ _ z e] at nL
          cases nL
    refine lc_it (walk_range (lo := 0) (n := (t : Int).toNat)) (fun i H' => H' L = some (.lst ((pickN a b i).map V.str)) ∧ Sm W H3 H' ∧ WellAt n H' W)
      ⟨upd_same, Sm.new .rfl' nL, w3.new nL⟩ (fun _ _ _ _ => trivial) ?_ ?_
    · rintro i x H4 H4' hi ⟨eL, s4, w4⟩ ⟨rfl, rfl⟩
      refine ⟨rfl, ?_⟩
      have ht8 : i < t := by
        have e : (t : Int).toNat = t := by omega
        rw [e] at hi
        exact hi
      have p1L : p1 ≠ L := fun z => by rw [z, nL] at e3; cases e3
      have ei : (((a : Int) + (1 + (b : Int)) * (0 + (i : Int))) % 13) = (((a + (1 + b) * i) % 13 : Nat) : Int) := by
        rw [Int.zero_add]
        rfl
      refine ⟨_, rfl, _, rfl, _, rfl, _, rfl, _, _, rfl, rfl, .inl (by omega), _, _, rfl, rfl, _, _, rfl, rfl, (show (0 : Int) < 13 by decide), p1, _, _, V.str (somes.getD ((a + (1 + b) * i) % 13) Str.empty), rfl, rfl, .of (s4 _ _ pW1 e3), ?_, _, eL, ?_, ?_, s4.mut nL, w4.upd (w3.ne nL)⟩
      · rw [ei]
        refine atI_nat ?_
        rw [List.getElem?_map, pick_at (Nat.mod_lt _ (by decide))]
        rfl
      · rw [List.length_map]
        unfold pickN
        rw [List.length_map, List.length_range]
        exact line100' (by omega)
      · rw [upd_same]
        unfold pickN
        rw [List.range_succ, List.map_append, List.map_append]
        rfl
    · rintro h ⟨eL, s4, w4⟩
      have e : (t : Int).toNat = t := by omega
      rw [e] at eL
      exact q h L (pickN a b t) (m3.trans s4) w4 nLH (w3.ne nL).symm eL (by unfold pickN; rw [List.length_map, List.length_range]) (pick_cs ha hb h0)
/-- a number of up to forty figures -/
abbrev N_value : List Str := ["_law_well_here", "_law_far"]
theorem sc_value : FnScope N_value ["_law_well_here"] (defScope s_value) := ⟨rfl, rfl, rfl, by decide +kernel, rfl, by decide +kernel, by decide +kernel⟩
def sp_value : Sp := fun vs H Q _ => ∃ (W : Addr) (n : Nat), vs = [.ref W] ∧ WellAt (n + 3) H W ∧ ∀ (H' : Hp) (i : Int), Sm W H H' → WellAt n H' W → i.natAbs < 10 ^ 40 → Q (.int i) H'
theorem ok_value {f fD : Addr} {fd fdD : FuncData} (F : Fn K mg "_law_value" s_value ["_law_well_here"] f fd) (D : Fn K mg "_law_draw" s_draw ["_law_well_here", "_law_many"] fD fdD) :
    FnOk P w K mg base CX0 2 f fd ["_law_well_here"] sp_value := by
  have GD : FnOk P w K mg base CX0 1 fD fdD ["_law_well_here", "_law_many"] sp_draw := ok_draw D
  refine F.F.ok sc_value (fun vs H Q E h => ?_) (fun cdv A outer s H vs Q E hr h => ?_)
  · obtain ⟨W, n, rfl, _⟩ := h
    rfl
  · obtain ⟨W, n, rfl, hW, q⟩ := h
    have nd := sc_value.nd
    refine ⟨_, pss_cons (ps_set (i := 1) nd rfl (Or.inl rfl) (pe_ix ix_list (pe_lst (pa_cons pe_int (pa_cons pe_int (pa_cons (pe_op op_pow pe_int pe_int) pa_nil)))) (pe_call GD hr rfl D.g D.F.kp D.b .nil pass0 (pa_cons (pv 0) (pa_cons pe_int pa_nil))) (fun _ _ => rfl)))
      (pss_one (ps_ret (pe_op op_mul (pe_call GD hr rfl D.g D.F.kp D.b .nil pass0 (pa_cons (pv 0) (pa_cons (pv 1) pa_nil))) (pe_op op_sub pe_int (pe_op op_mul pe_int (pe_call GD hr rfl D.g D.F.kp D.b .nil pass0 (pa_cons (pv 0) (pa_cons pe_int pa_nil)))))))), ?_⟩
    refine ⟨_, _, rfl, rfl, ⟨by decide, by decide, by decide⟩, by decide, fun p1 n1 => ?_⟩
    have e1 : upd H p1 (.lst [.int 3, .int 30, .int ((10 ^ 40 : Nat) : Int)]) p1 = some (.lst [.int 3, .int 30, .int ((10 ^ 40 : Nat) : Int)]) := upd_same
    have w1 : WellAt (n + 3) (upd H p1 (.lst [.int 3, .int 30, .int ((10 ^ 40 : Nat) : Int)])) W := hW.new n1
    have pW1 : p1 ≠ W := (hW.ne n1).symm
    have s1 : Sm W H (upd H p1 (.lst [.int 3, .int 30, .int ((10 ^ 40 : Nat) : Int)])) := Sm.new .rfl' n1
    show (fun x H1 => tCall sp_draw [] E0 (tCons (tVar 0) (tCons (tC (V.int 3)) tNil)) (L2.start N_value [V.ref W]) H1 _) (V.ref p1) (upd H p1 (.lst [.int 3, .int 30, .int ((10 ^ 40 : Nat) : Int)]))
    generalize upd H p1 (.lst [.int 3, .int 30, .int ((10 ^ 40 : Nat) : Int)]) = H1 at e1 w1 s1 ⊢
    refine ⟨_, rfl, W, 3, n + 2, rfl, by decide, by decide, w1, fun H2 j hj s2 w2 => ?_⟩
    obtain ⟨far, hf, hat⟩ : ∃ far : Nat, (0 < far ∧ far ≤ 10 ^ 40) ∧ atI [V.int 3, .int 30, .int ((10 ^ 40 : Nat) : Int)] (j : Int) = some (V.int (far : Int)) := by
      have : j = 0 ∨ j = 1 ∨ j = 2 := by omega
      rcases this with e | e | e <;> subst e
      · exact ⟨3, by decide, rfl⟩
      · exact ⟨30, by decide, rfl⟩
      · exact ⟨10 ^ 40, by decide, rfl⟩
    refine ⟨p1, _, _, _, rfl, rfl, .of (s2 _ _ pW1 e1), hat, ?_⟩
    refine ⟨_, rfl, _, rfl, W, far, n + 1, rfl, hf.1, Nat.lt_of_le_of_lt hf.2 (by decide), w2, fun H3 r hr3 s3 w3 => ?_⟩
    refine ⟨_, rfl, W, 2, n, rfl, by decide, by decide, w3, fun H4 sg hsg s4 w4 => ?_⟩
    refine ⟨_, _, rfl, rfl, .inl (by decide), _, _, rfl, rfl, _, _, rfl, rfl, .inr ⟨by omega, by omega⟩, q _ _ (s1.trans ((s2.trans s3).trans s4)) w4 ?_⟩
    have : sg = 0 ∨ sg = 1 := by omega
    rcases this with rfl | rfl
    · show ((r : Int) * (1 - 2 * ((0 : Nat) : Int))).natAbs < _
      rw [show (1 - 2 * ((0 : Nat) : Int)) = 1 by decide, Int.mul_one, Int.natAbs_natCast]
      exact Nat.lt_of_lt_of_le hr3 hf.2
    · show ((r : Int) * (1 - 2 * ((1 : Nat) : Int))).natAbs < _
      rw [show (1 - 2 * ((1 : Nat) : Int)) = -1 by decide, Int.mul_neg_one, Int.natAbs_neg, Int.natAbs_natCast]
      exact Nat.lt_of_lt_of_le hr3 hf.2
theorem set_sorted {P : Program} {w : World} {H : Hp} {l : Addr} {as : List Addr} {rs : List (List Int)} {d : Nat} {Q : VK} (hl : H l = some (.lst (as.map V.ref))) (hr : RowsAt H as rs) (hd : ∀ r ∈ rs, r.length = d) (few : rs.length ≤ 60)
    (q : ∀ H' p as', Same H H' → H p = none → H' p = some (.lst (as'.map V.ref)) → RowsAt H' as' (norm rs) → Q (.ref p) H') : rSetOfT K P w [.ref l] H fun v h => TB.rSortedS K P w [v] h Q := by
  have hal := hr.len
  have z1 := (zip_fst hal).1
  have z2 := (zip_fst hal).2
  have zr : ∀ p ∈ as.zip rs, H p.1 = some (.tup (p.2.map V.int)) := pr_zip hr
  refine ⟨l, as.zip rs, rfl, ?_, fun p hp => .of (zr p hp), by rw [List.length_zip]; omega, fun a Ls na i1 i2 => ?_⟩
  · have : (as.zip rs).map (fun p => V.ref p.1) = as.map V.ref := by
      conv => rhs; rw [← z1]
      rw [List.map_map]
      rfl
    rw [this]
    exact .of hl
  have sa : Same H (upd H a (SetTO P w a Ls)) := Same.new na
  have lsr : ∀ p ∈ Ls, upd H a (SetTO P w a Ls) p.1 = some (.tup (p.2.map V.int)) := fun p hp => sa _ _ (zr p (i1 p hp))
  have inr : ∀ p ∈ as.zip rs, p.2 ∈ rs := fun p hp => z2 ▸ List.mem_map.mpr ⟨p, hp, rfl⟩
  refine ⟨a, Ls, d, rfl, upd_same, fun p hp => .of (lsr p hp), fun p hp => hd _ (inr p (i1 p hp)), fun L' p pm ndL few' pw np => ?_⟩
  have sp : Same (upd H a (SetTO P w a Ls)) (upd (upd H a (SetTO P w a Ls)) p (.lst (L'.map fun q => V.ref q.1))) := Same.new np
  refine q _ p (L'.map (·.1)) (sa.trans sp) (sa.free np) ?_ ?_
  · rw [upd_same, List.map_map]
    rfl
  · have en : L'.map (·.2) = norm rs := by
      refine norm_of (rise_of ndL (List.pairwise_map.mpr pw)) fun x => ?_
      constructor
      · intro hx
        obtain ⟨pq, hp, rfl⟩ := List.mem_map.mp hx
        exact inr _ (i1 _ (pm.mem_iff.mp hp))
      · intro hx
        rw [← z2] at hx
        obtain ⟨pq, hp, rfl⟩ := List.mem_map.mp hx
        exact (pm.map (·.2)).mem_iff.mpr (i2 pq hp)
    rw [← en]
    exact of_zip fun pq hp => sp _ _ (lsr pq (pm.mem_iff.mp hp))
abbrev N_text : List Str := ["_law_names_here", "_law_rows", "_law_lines", "_law_row", "_law_one"]
theorem sc_text : FnScope N_text ["_law_names_here", "_law_rows"] (defScope s_text) := ⟨rfl, rfl, rfl, by decide +kernel, rfl, by decide +kernel, by decide +kernel⟩
def sp_text : Sp := fun vs H Q _ => ∃ (a b : Addr) (cs : List Str) (as : List Addr) (rs : List (List Int)), vs = [.ref a, .ref b] ∧ H a = some (.lst (cs.map V.str)) ∧ Cs cs ∧ H b = some (.lst (as.map V.ref)) ∧ RowsAt H as rs ∧ (∀ r ∈ rs, r.length = cs.length ∧ ∀ i ∈ r, i.natAbs < 10 ^ 40) ∧ rs.length ≤ 60 ∧ ∀ H', Same H H' → Q (.str (shown cs (norm rs))) H'
theorem ok_text {f : Addr} {fd : FuncData} (F : Fn K mg "_law_text" s_text ["_law_names_here", "_law_rows"] f fd) (B : Bn mg) (Bs : mg "set" = none) : FnOk P w K mg base CX0 1 f fd ["_law_names_here", "_law_rows"] sp_text := by
  refine F.F.ok sc_text (fun vs H Q E h => ?_) (fun cdv A outer s H vs Q E hr h => ?_)
  · obtain ⟨a, b, cs, as, rs, rfl, _⟩ := h
    rfl
  · obtain ⟨a, b, cs, as, rs, rfl, ha, hc, hb, hR, hl, few, q⟩ := h
    have nd := sc_text.nd
    have hu64 := hr.units
    refine ⟨_, pss_cons (ps_set (i := 2) nd rfl (Or.inl rfl) (pe_lst (pa_cons (pe_join pe_str (pv 0)) pa_nil)))
      (pss_cons (ps_for PassesOwn.never rfl (pi_list (pe_callB (TB.cr_sortedS rfl) (by rfl) B.sorted boot_sorted (pa_cons (pe_callTy (cr_setOfT rfl hu64) (by rfl) Bs boot_set (pa_cons (pv 1) pa_nil)) pa_nil))) (pg_name (i := 3) nd rfl (Or.inl rfl))
        (pss_one (ps_expr (pe_bm PySem.F.plainAttrs_list PySem.F.slot_list_append PySem.F.type_list_append mt_append (pv 2) (pa_cons (pe_join pe_str (pe_lc (own := [("_law_one", 4)]) (g := gName 4) (tt := tYes) rfl nd (pi_tup (pv 3)) (blkOk_by (N := N_text) (sc := defScope s_text) (by decide +kernel))
            (fun _ _ _ _ _ => pg_name (i := 4) nd rfl (Or.inl rfl)) (fun _ _ _ _ _ => pts_nil) (fun _ _ _ _ _ => pe_callTy call_str_int (by rfl) B.str boot_str (pa_cons (pv 4) pa_nil)))) pa_nil)))))
      (pss_one (ps_ret (pe_join pe_str (pv 2))))), ?_⟩
    have lc := cols_len hc
    refine ⟨⟨_, rfl⟩, _, rfl, _, a, cs, rfl, rfl, .inl (.of ha), ?_, by show 1 ≤ sizeLine; decide, fun La nLa => ?_⟩
    · have s := sum_le (f := fun l => l.length) (b := 8) (ls := cs) fun l hl => (hc.ok l hl).2.1
      have := hc.le
      rw [show (Str.ofString ",").length = 1 by decide +kernel]
      omega
    have e1 : upd H La (.lst [.str (Txt.join (Str.ofString ",") cs)]) La = some (.lst ([Txt.join CMs cs].map V.str)) := upd_same
    have s1 : Same H (upd H La (.lst [.str (Txt.join (Str.ofString ",") cs)])) := Same.new nLa
    generalize upd H La (.lst [.str (Txt.join (Str.ofString ",") cs)]) = H1 at e1 s1 ⊢
    refine ⟨_, rfl, ?_⟩
    dsimp -proj only [tCB, tCons, tNil]
    refine set_sorted (s1 _ _ hb) (hR.same s1) (fun r hr => (hl r hr).1) few fun H2 Ls as2 s2 nLs eLs hR2 => ?_
    have t2 := s1.trans s2
    have nn := norm_len rs
    have hal := hR2.len
    have LaLs : La ≠ Ls := fun z => by rw [← z, e1] at nLs; cases nLs
    refine ⟨Ls, rfl, ⟨_, .of eLs⟩, ?_⟩
    refine for_it (walk_list (xs := as2.map V.ref)) (fun i σ h => ∃ v3 v4 : Option V, σ = [some (.ref a), some (.ref b), some (.ref La), v3, v4] ∧ h La = some (.lst ((Txt.join CMs cs :: ((norm rs).take i).map wr).map V.str)) ∧ Same H h ∧ h Ls = some (.lst (as2.map V.ref)) ∧ RowsAt h as2 (norm rs))
      ⟨none, none, rfl, s2 _ _ e1, t2, eLs, hR2⟩ (fun i σ h _ ⟨_, _, _, _, _, e, _⟩ => .of e) ?_ ?_
    · rintro i v σ h h' hi ⟨v3, v4, rfl, eL, sh, eLsh, hRh⟩ ⟨rfl, hv⟩
      rw [List.length_map] at hi
      obtain ⟨x, hx, rfl⟩ : ∃ a, as2[i]? = some a ∧ v = V.ref a := by
        rw [List.getElem?_map, List.getElem?_eq_getElem hi] at hv
        exact ⟨_, List.getElem?_eq_getElem hi, (Option.some.inj hv).symm⟩
      obtain ⟨row, hrow, hta⟩ := pr_at hRh hx
      obtain ⟨b1, b2⟩ := hl row (mem_norm.mp (List.mem_of_getElem? hrow))
      have b3 := hc.le
      refine ⟨_, rfl, .inl ⟨rfl, _, .inl (.inl eL)⟩, ⟨_, rfl⟩, _, rfl, x, rfl, ⟨_, .of hta⟩, fun D nD => ?_⟩
      have LaD : La ≠ D := fun z => by rw [← z, eL] at nD; cases nD
      refine lc_it (walk_tup (xs := row.map V.int)) (fun i h2 => h2 D = some (.lst (((row.take i).map fun i => Str.ofString (toString i)).map V.str)) ∧ Same h' h2) ⟨upd_same, Same.new nD⟩ (fun i h _ ⟨_, s⟩ => .of (s _ _ hta)) ?_ ?_
      · rintro i v h3 h4 hi ⟨e4, s4⟩ ⟨rfl, hv⟩
        rw [List.length_map] at hi
        obtain ⟨n, hn, rfl⟩ : ∃ m, row[i]? = some m ∧ v = V.int m := by
          rw [List.getElem?_map, List.getElem?_eq_getElem hi] at hv
          exact ⟨_, List.getElem?_eq_getElem hi, (Option.some.inj hv).symm⟩
        refine ⟨rfl, ?_⟩
        have nb := b2 n (List.mem_of_getElem? hn)
        refine ⟨_, rfl, n, rfl, Nat.lt_of_lt_of_le (PySem.Flt.log2_lt_of (k := 140) (by decide) (Nat.lt_trans nb (by decide +kernel))) (by decide), ?_⟩
        refine ⟨_, e4, ?_, ?_, Same.mut s4 nD⟩
        · rw [List.length_map, List.length_map, List.length_take]
          exact line100' (by omega)
        · rw [upd_same, List.take_add_one, hn, List.map_append, List.map_append]
          rfl
      · rintro h3 ⟨e4, s4⟩
        rw [List.length_map, List.take_length] at e4
        refine ⟨_, D, _, rfl, rfl, .inl (.of e4), ?_, ?_⟩
        · have s1 := sum_le (f := fun l => l.length) (b := 41) (ls := row.map fun i => Str.ofString (toString i)) fun l hl => by
            obtain ⟨i, hi, rfl⟩ := List.mem_map.mp hl
            exact num_len (b2 i hi)
          rw [List.length_map] at s1 ⊢
          have : (Str.ofString ",").length = 1 := by decide +kernel
          rw [this]
          omega
        have eL3 := s4 _ _ eL
        refine ⟨La, _, _, rfl, rfl, eL3, ?_, _, _, rfl, ?_, Same.mut (sh.trans s4) nLa, by rw [upd_ne LaLs.symm]; exact s4 _ _ eLsh, RowsAt.put (hRh.same s4) eL3⟩
        · rw [List.length_map, List.length_cons, List.length_map, List.length_take]
          exact line100' (by omega)
        · rw [upd_same, List.take_add_one, hrow, List.map_append]
          show _ = some (HO.lst (List.map V.str ((Txt.join CMs cs :: ((norm rs).take i).map wr) ++ [wr row])))
          rw [List.map_append]
          rfl
    · rintro σ h ⟨v3, v4, rfl, eL, sh, eLsh, hRh⟩
      rw [List.length_map, hal, List.take_length] at eL
      refine ⟨⟨_, rfl⟩, _, rfl, _, La, _, rfl, rfl, .inl (.of eL), ?_, q h sh⟩
      have b := sum_le (f := fun l => l.length) (b := 340) (ls := (norm rs).map wr) fun l hl' => by
        obtain ⟨r, hr, rfl⟩ := List.mem_map.mp hl'
        have := hl r (mem_norm.mp hr)
        exact wr_len (by rw [this.1]; exact hc.le) this.2
      have e1 : ((Txt.join CMs cs :: (norm rs).map wr).map fun l => l.length).sum = (Txt.join CMs cs).length + (((norm rs).map wr).map fun l => l.length).sum := rfl
      have e2 : (Txt.join CMs cs :: (norm rs).map wr).length = ((norm rs).map wr).length + 1 := rfl
      rw [e1, e2, show (Str.ofString "\n").length = 1 by decide +kernel]
      rw [List.length_map] at b ⊢
      omega
end
end T89

set_option maxHeartbeats 2000000
namespace T89
open PySem L2 PyProof.Rows TX TY TW TD TB TG TUD TE TK TL TLL TES TNN
def nl (x : Str) : Nat := (cps x).count 10
theorem spl_count : ∀ (l acc : List Nat), (spl [10] 0 acc l).length = l.count 10 + 1
  | [], acc => by rw [spl_nil]; rfl
  | c :: r, acc => by
    by_cases h : c = 10
    · subst h
      rw [spl_hit (by rfl), List.length_cons, show ([10] : List Nat).length - 1 = 0 from rfl, spl_count r [], List.count_cons_self]
    · have e : spl [10] 0 acc (c :: r) = spl [10] 0 (acc ++ [c]) r := by
        show (if pre [10] (c :: r) = true then _ else _) = _
        rw [if_neg]
        intro z
        have : ([c] == [10]) = true := z
        have := beq_iff_eq.mp this
        injection this with this
        exact h this
      rw [e, spl_count r _, List.count_cons_of_ne (by simpa using h)]
theorem lines_count (x : Str) : (linesT x).length = nl x + 1 := by
  have e := split_spl x NLs (by rw [show tl NLs = [10] from NL_cps]; simp) (kind_ok (by decide +kernel))
  have := congrArg List.length e
  rw [List.length_map, show tl NLs = [10] from NL_cps, spl_count] at this
  exact this
theorem nl_app (a b : Str) : nl (a ++ b) = nl a + nl b := by
  unfold nl
  have : cps (a ++ b) = cps a ++ cps b := tl_append a b
  rw [this, List.count_append]
theorem cut_to (x : Str) (n : Nat) : cps (cutS x none (some (n : Int))) = (cps x).take n := by
  conv => lhs; rw [← S_cps_eta x, cutS_S]
  rw [HT.sIx_none, HT.sIx_nat, List.drop_zero, Nat.sub_zero]
  show (S _).cps.toList = _
  rw [S_cps]
  rcases Nat.le_total n (cps x).length with h | h
  · rw [Nat.min_eq_left h]
  · rw [Nat.min_eq_right h, List.take_length, List.take_of_length_le h]
theorem cut_from (x : Str) (n : Nat) : cps (cutS x (some (n : Int)) none) = (cps x).drop n := by
  conv => lhs; rw [← S_cps_eta x, cutS_S]
  rw [HT.sIx_none, HT.sIx_nat]
  show (S _).cps.toList = _
  rw [S_cps]
  rcases Nat.le_total n (cps x).length with h | h
  · rw [Nat.min_eq_left h, List.take_of_length_le (by rw [List.length_drop]; omega)]
  · rw [Nat.min_eq_right h, List.drop_length, List.take_nil, List.drop_eq_nil_of_le h]
theorem cut_nl (x : Str) {j k : Nat} (h : j ≤ k) : nl (cutS x none (some (j : Int))) + nl (cutS x (some (k : Int)) none) ≤ nl x := by
  unfold nl
  rw [cut_to, cut_from]
  have e : (cps x).count 10 = ((cps x).take j).count 10 + ((cps x).drop j).count 10 := by rw [← List.count_append, List.take_append_drop]
  have e2 : (cps x).drop k = ((cps x).drop j).drop (k - j) := by rw [List.drop_drop]; congr 1; omega
  have := List.Sublist.count_le 10 (List.drop_sublist (k - j) ((cps x).drop j))
  rw [e2]
  omega
theorem nl_join : ∀ (ls : List Str), nl (Txt.join NLs ls) ≤ (ls.map nl).sum + (ls.length - 1) := by
  intro ls
  have e : ∀ ls : List (List Nat), (joinL [10] ls).count 10 ≤ (ls.map fun l => l.count 10).sum + (ls.length - 1) := by
    intro ls
    induction ls with
    | nil => exact Nat.zero_le _
    | cons p ls ih =>
      cases ls with
      | nil => exact Nat.le_refl _
      | cons q r =>
        show (p ++ ([10] ++ joinL [10] (q :: r))).count 10 ≤ _
        rw [List.count_append, List.count_append, List.map_cons, List.sum_cons]
        have e1 : ([10] : List Nat).count 10 = 1 := rfl
        have e2 : (p :: q :: r).length - 1 = ((q :: r).length - 1) + 1 := rfl
        rw [e1, e2]
        omega
  unfold nl
  have e1 : cps (Txt.join NLs ls) = joinL [10] (ls.map tl) := by
    have : tl (Txt.join NLs ls) = joinL (tl NLs) (ls.map tl) := by rw [join_eq, tl_join]
    rw [show tl NLs = [10] from NL_cps] at this
    exact this
  rw [e1]
  have := e (ls.map tl)
  rw [List.map_map, List.length_map] at this
  exact this
theorem line_nl {x l : Str} (h : l ∈ linesT x) : nl l = 0 := by
  have e := split_spl x NLs (by rw [show tl NLs = [10] from NL_cps]; simp) (kind_ok (by decide +kernel))
  rw [show tl NLs = [10] from NL_cps] at e
  have key : ∀ (l acc : List Nat), 10 ∉ acc → ∀ p ∈ spl [10] 0 acc l, 10 ∉ p := by
    intro l
    induction l with
    | nil =>
      intro acc ha p hp
      rw [spl_nil, List.mem_singleton] at hp
      rw [hp]
      exact ha
    | cons c r ih =>
      intro acc ha p hp
      by_cases h : c = 10
      · subst h
        rw [spl_hit (by rfl)] at hp
        rcases List.mem_cons.mp hp with rfl | hp
        · exact ha
        · exact ih [] (by simp) p hp
      · have e : spl [10] 0 acc (c :: r) = spl [10] 0 (acc ++ [c]) r := by
          show (if pre [10] (c :: r) = true then _ else _) = _
          rw [if_neg]
          intro z
          have : ([c] == [10]) = true := z
          have := beq_iff_eq.mp this
          injection this with this
          exact h this
        rw [e] at hp
        refine ih (acc ++ [c]) (fun z => ?_) p hp
        rcases List.mem_append.mp z with z | z
        · exact ha z
        · exact h (List.mem_singleton.mp z).symm
  have h2 : tl l ∈ (linesT x).map tl := List.mem_map.mpr ⟨l, h, rfl⟩
  have h3 : tl l ∈ spl [10] 0 [] (tl x) := by rw [← e]; exact h2
  exact List.count_eq_zero.mpr (key _ _ (by simp) _ h3)
theorem sum_join_ge : ∀ (ls : List Str), (ls.map fun l => l.length).sum ≤ (Txt.join NLs ls).length := by
  intro ls
  have e : (Txt.join NLs ls).length = (joinL (tl NLs) (ls.map tl)).length := by rw [join_eq, len_tl, tl_join]
  rw [e]
  clear e
  induction ls with
  | nil => exact Nat.le_refl _
  | cons l ls ih =>
    cases ls with
    | nil =>
      show _ ≤ (tl l).length
      rw [← len_tl, List.map_cons, List.sum_cons]
      exact Nat.le_refl _
    | cons m ls =>
      show _ ≤ (tl l ++ (tl NLs ++ joinL (tl NLs) ((m :: ls).map tl))).length
      rw [List.length_append, List.length_append, ← len_tl, List.map_cons, List.sum_cons]
      omega
theorem lines_sum (x : Str) : ((linesT x).map fun l => l.length).sum ≤ x.length := by
  have := sum_join_ge (linesT x)
  rw [join_lines] at this
  exact this
theorem nl_le (x : Str) : nl x ≤ x.length := by
  rw [len_cps]
  exact List.count_le_length
theorem mix_sum {f : Str → Nat} {ls mid : List Str} {j k : Nat} (h : j ≤ k) : ((ls.take j ++ mid ++ ls.drop k).map f).sum ≤ (ls.map f).sum + (mid.map f).sum := by
  rw [List.map_append, List.map_append, List.sum_append, List.sum_append]
  have e : (ls.map f).sum = ((ls.take j).map f).sum + ((ls.drop j).map f).sum := by rw [← List.sum_append, ← List.map_append, List.take_append_drop]
  have e2 : ((ls.drop j).map f).sum = (((ls.drop j).take (k - j)).map f).sum + ((ls.drop k).map f).sum := by
    rw [show ls.drop k = (ls.drop j).drop (k - j) by rw [List.drop_drop]; congr 1; omega, ← List.sum_append, ← List.map_append, List.take_append_drop]
  omega
/-- lines that come of a text's -/
structure Ln (x : Str) (ls : List Str) : Prop where
  sum : (ls.map fun l => l.length).sum ≤ 2 * x.length + 41
  nl0 : ∀ l ∈ ls, nl l = 0
  few : ls.length ≤ nl x + 2
theorem Ln.join {x : Str} {ls : List Str} (h : Ln x ls) : (Txt.join NLs ls).length ≤ 3 * x.length + 50 ∧ nl (Txt.join NLs ls) ≤ nl x + 1 := by
  have a := join_len NLs (by decide +kernel) ls
  have b := nl_join ls
  have c := nl_le x
  have d : (ls.map nl).sum = 0 := by
    have := sum_le (f := nl) (b := 0) (ls := ls) fun l hl => Nat.le_of_eq (h.nl0 l hl)
    omega
  obtain ⟨h1, h2, h3⟩ := h
  constructor <;> omega
theorem Ln.mix {x : Str} {mid : List Str} {j k : Nat} (h : j ≤ k) (h1 : mid.length ≤ 1) (h2 : ∀ l ∈ mid, nl l = 0 ∧ l.length ≤ x.length + 41) : Ln x ((linesT x).take j ++ mid ++ (linesT x).drop k) := by
  refine ⟨?_, fun l hl => ?_, ?_⟩
  · have a := mix_sum (f := fun l => l.length) (ls := linesT x) (mid := mid) h
    have b := lines_sum x
    have c := sum_le (f := fun l => l.length) (b := x.length + 41) (ls := mid) fun l hl => (h2 l hl).2
    have : (x.length + 41) * mid.length ≤ (x.length + 41) * 1 := Nat.mul_le_mul_left _ h1
    omega
  · rcases List.mem_append.mp hl with hl | hl
    · rcases List.mem_append.mp hl with hl | hl
      · exact line_nl (List.mem_of_mem_take hl)
      · exact (h2 l hl).1
    · exact line_nl (List.mem_of_mem_drop hl)
  · have := lines_count x
    rw [List.length_append, List.length_append, List.length_take, List.length_drop]
    omega
theorem Ln.self (x : Str) : Ln x (linesT x) := by
  have := Ln.mix (x := x) (mid := []) (j := 0) (k := 0) (Nat.le_refl _) (Nat.zero_le _) (fun l h => nomatch h)
  exact this
end T89

set_option maxHeartbeats 2000000
namespace T89
open PySem L2 PyProof.Rows TX TY TW TD TB TG TUD TE TK TL TLL TES TNN
section
variable {P : Program} {w : World} {K : PySem.W.Frag} {mg : Str → Option Value} {base : Heap}
abbrev N_spoilt : List Str := ["_law_well_here", "_law_text_here", "_law_way", "_law_at", "_law_sign", "_law_lines", "_law_to", "_law_odd"]
theorem sc_spoilt : FnScope N_spoilt ["_law_well_here", "_law_text_here"] (defScope s_spoilt) := ⟨rfl, rfl, rfl, by decide +kernel, rfl, by decide +kernel, by decide +kernel⟩
def big1 : Str := Str.ofString "1" ++ ⟨(List.replicate 40 (Str.ofString "0").cps).foldl (· ++ ·) #[]⟩
def odds : List Str := [Str.ofString "", Str.ofString "0", Str.ofString "-", Str.ofString "01", Str.ofString "-0", Str.ofString "+1", big1, Str.ofString ",", Str.ofString "a", Str.ofString "-1,-1", Str.ofString "7,7,7", Str.ofString "a,b"]
theorem odds_ok : ∀ x ∈ odds, nl x = 0 ∧ x.length ≤ 41 := by decide +kernel
def signs : Str := Str.ofString "0123456789,-\n a+" ++ Str.ofString "_"
theorem signs_len : signs.length = 17 := by decide +kernel
def sp_spoilt : Sp := fun vs H Q _ => ∃ (W : Addr) (x : Str) (n : Nat), vs = [.ref W, .str x] ∧ x.length ≤ 250000 ∧ WellAt (n + 6) H W ∧ ∀ (H' : Hp) (y : Str), Sm W H H' → WellAt n H' W → y.length ≤ 3 * x.length + 50 → nl y ≤ nl x + 1 → Q (.str y) H'
theorem ok_spoilt {f fD : Addr} {fd fdD : FuncData} (F : Fn K mg "_law_spoilt" s_spoilt ["_law_well_here", "_law_text_here"] f fd) (B : Bn mg) (D : Fn K mg "_law_draw" s_draw ["_law_well_here", "_law_many"] fD fdD) :
    FnOk P w K mg base CX0 2 f fd ["_law_well_here", "_law_text_here"] sp_spoilt := by
  have GD : FnOk P w K mg base CX0 1 fD fdD ["_law_well_here", "_law_many"] sp_draw := ok_draw D
  refine F.F.ok sc_spoilt (fun vs H Q E h => ?_) (fun cdv A outer s H vs Q E hr h => ?_)
  · obtain ⟨W, x, n, rfl, _⟩ := h
    rfl
  · obtain ⟨W, x, n, rfl, hx, hW, q⟩ := h
    have nd := sc_spoilt.nd
    refine ⟨_, pss_cons (ps_set (i := 2) nd rfl (Or.inl rfl) (pe_call GD hr rfl D.g D.F.kp D.b .nil pass0 (pa_cons (pv 0) (pa_cons pe_int pa_nil))))
      (pss_cons (ps_set (i := 3) nd rfl (Or.inl rfl) (pe_call GD hr rfl D.g D.F.kp D.b .nil pass0 (pa_cons (pv 0) (pa_cons (pe_op op_add (pe_callB call_len_str (by rfl) B.len PySem.boot_len (pa_cons (pv 1) pa_nil)) pe_int) pa_nil))))
      (pss_cons (ps_set (i := 4) nd rfl (Or.inl rfl) (pe_ix ix_str (pe_op op_add_str pe_str pe_str) (pe_call GD hr rfl D.g D.F.kp D.b .nil pass0 (pa_cons (pv 0) (pa_cons pe_int pa_nil))) (fun _ _ => rfl)))
      (pss_cons (ps_set (i := 5) nd rfl (Or.inl rfl) (pe_split (pv 1) pe_str))
      (pss_cons (ps_set (i := 6) nd rfl (Or.inl rfl) (pe_call GD hr rfl D.g D.F.kp D.b .nil pass0 (pa_cons (pv 0) (pa_cons (pe_callB call_len_seq (by rfl) B.len PySem.boot_len (pa_cons (pv 5) pa_nil)) pa_nil))))
      (pss_cons (ps_if (pt_cmpR op_eq (pv 2) pe_int (nomark _)) (pss_one (ps_ret (pe_op op_add_str (pe_op op_add_str (pe_slice sl_str (pv 1) po_none (po_some (pv 3))) (pv 4)) (pe_slice sl_str (pv 1) (po_some (pv 3)) po_none)))) pss_nil)
      (pss_cons (ps_if (pt_cmpR op_eq (pv 2) pe_int (nomark _)) (pss_one (ps_ret (pe_op op_add_str (pe_slice sl_str (pv 1) po_none (po_some (pv 3))) (pe_slice sl_str (pv 1) (po_some (pe_op op_add (pv 3) pe_int)) po_none)))) pss_nil)
      (pss_cons (ps_if (pt_cmpR op_eq (pv 2) pe_int (nomark _)) (pss_one (ps_ret (pe_op op_add_str (pe_op op_add_str (pe_slice sl_str (pv 1) po_none (po_some (pv 3))) (pv 4)) (pe_slice sl_str (pv 1) (po_some (pe_op op_add (pv 3) pe_int)) po_none)))) pss_nil)
      (pss_cons (ps_set (i := 7) nd rfl (Or.inl rfl) (pe_ix ix_list (pe_lst (pa_cons pe_str (pa_cons pe_str (pa_cons pe_str (pa_cons pe_str (pa_cons pe_str (pa_cons pe_str (pa_cons (pe_op op_add_str pe_str (pe_op op_repS pe_str pe_int)) (pa_cons pe_str (pa_cons pe_str (pa_cons pe_str (pa_cons pe_str (pa_cons pe_str pa_nil))))))))))))) (pe_call GD hr rfl D.g D.F.kp D.b .nil pass0 (pa_cons (pv 0) (pa_cons pe_int pa_nil))) (fun _ _ => rfl)))
      (C8.pss_cut (ps_if (pt_cmpR op_eq (pv 2) pe_int (nomark _)) (pss_one (ps_expr (pe_bm PySem.F.plainAttrs_list PySem.F.slot_list_insert PySem.F.type_list_insert mt_insert (pv 5) (pa_cons (pv 6) (pa_cons (pv 7) pa_nil)))))
        (pss_one (ps_if (pt_cmpR op_eq (pv 2) pe_int (nomark _)) (pss_one (ps_asg (pe_op op_add_str (pe_ix ix_list (pv 5) (pv 6) (fun _ _ => rfl)) (pv 7)) (pg_sub (pv 5) (pv 6) set_list)))
        (pss_one (ps_if (pt_cmpR op_eq (pv 2) pe_int (nomark _)) (pss_one (ps_expr (pe_bm PySem.F.plainAttrs_list PySem.F.slot_list_insert PySem.F.type_list_insert mt_insert (pv 5) (pa_cons (pv 6) (pa_cons (pe_ix ix_list (pv 5) (pe_call GD hr rfl D.g D.F.kp D.b .nil pass0 (pa_cons (pv 0) (pa_cons (pe_callB call_len_seq (by rfl) B.len PySem.boot_len (pa_cons (pv 5) pa_nil)) pa_nil))) (fun _ _ => rfl)) pa_nil)))))
        (pss_one (ps_if (pt_cmpR op_eq (pv 2) pe_int (nomark _)) (pss_one (ps_set (i := 5) nd rfl (Or.inl rfl) (pe_op op_cat (pe_slice sl_list (pv 5) po_none (po_some (pv 6))) (pe_slice sl_list (pv 5) (po_some (pe_op op_add (pv 6) pe_int)) po_none)))) pss_nil)))))))
      (pss_one (ps_ret (pe_join pe_str (pv 5))))))))))))), ?_⟩
    have hlx := len_cps x
    have lx : (cps x).length ≤ 250000 := by omega
    refine ⟨_, rfl, W, 8, n + 5, rfl, by decide, by decide, hW, fun H1 way hway s1 w1 => ?_⟩
    refine ⟨_, rfl, _, rfl, x, rfl, sml (by omega), _, _, rfl, rfl, W, x.length + 1, n + 4, ?_, by omega, Nat.lt_of_le_of_lt (show x.length + 1 ≤ 250001 by omega) (by decide), w1, fun H2 at' hat s2 w2 => ?_⟩
    · rfl
    refine ⟨_, _, rfl, rfl, by decide +kernel, _, rfl, W, 17, n + 3, rfl, by decide, by decide, w2, fun H3 sg hsg s3 w3 => ?_⟩
    have m3 := (s1.trans s2).trans s3
    obtain ⟨c, hc⟩ : ∃ c, signs.cps.toList[sg]? = some c := by
      have h : sg < signs.cps.toList.length := by
        rw [Array.length_toList]
        exact Nat.lt_of_lt_of_le hsg (Nat.le_of_eq signs_len.symm)
      exact ⟨_, List.getElem?_eq_getElem h⟩
    refine ⟨signs, (sg : Int), c, rfl, rfl, by rw [signs_len]; decide, atI_nat hc, ?_⟩
    refine ⟨_, rfl, ⟨x, rfl⟩, x, _, rfl, rfl, by decide +kernel, sml2 (by omega), fun L nL => ?_⟩
    have e4 : upd H3 L (.lst ((Txt.split x (Str.ofString "\n")).map V.str)) L = some (.lst ((linesT x).map V.str)) := upd_same
    have s4 : Sm W H (upd H3 L (.lst ((Txt.split x (Str.ofString "\n")).map V.str))) := m3.new nL
    have w4 : WellAt (n + 3) (upd H3 L (.lst ((Txt.split x (Str.ofString "\n")).map V.str))) W := w3.new nL
    have LW : L ≠ W := (w3.ne nL).symm
    generalize upd H3 L (.lst ((Txt.split x (Str.ofString "\n")).map V.str)) = H4 at e4 s4 w4 ⊢
    have hll := lines_count x
    have hnx := nl_le x
    refine ⟨_, rfl, _, rfl, L, _, rfl, .inl (.of e4), W, ((linesT x).map V.str).length, n + 2, rfl, by rw [List.length_map]; omega, by rw [List.length_map]; exact Nat.lt_of_le_of_lt (show _ ≤ 250001 by omega) (by decide), w4, fun H5 to hto s5 w5 => ?_⟩
    rw [List.length_map] at hto
    have m5 := s4.trans s5
    have e5 := s5 _ _ LW e4
    have nls : nl (⟨#[c]⟩ : Str) ≤ 1 := by
      show ([c] : List Nat).count 10 ≤ 1
      exact Nat.le_trans List.count_le_length (Nat.le_refl _)
    have len1 : (⟨#[c]⟩ : Str).length = 1 := rfl
    have lcut := fun lo hi => cutS_length x lo hi
    -- 0
    refine ⟨_, rfl, rfl, _, rfl, ?_⟩
    by_cases z0 : way = 0
    · subst z0
      dsimp only
      rw [if_pos (by rfl)]
      have q1 := cut_nl x (Nat.le_refl at')
      have l1 := lcut none (some (at' : Int))
      have l2 := lcut (some (at' : Int)) none
      refine ⟨_, rfl, _, rfl, _, rfl, x, rfl, sml (by omega), _, rfl, _, _, rfl, rfl, ?_, _, rfl, _, rfl, _, rfl, x, rfl, sml (by omega), _, _, rfl, rfl, ?_, q H5 _ m5 (w5.mono (by omega)) ?_ ?_⟩
      · exact sml (by omega)
      · rw [sapp_len]
        exact sml (by omega)
      · rw [sapp_len, sapp_len]
        omega
      · rw [nl_app, nl_app]
        omega
    have ne : ∀ k : Nat, way ≠ k → decide (V.int (way : Int) = V.int (k : Int)) = false := fun k h => decide_eq_false fun z => by
      injection z with z
      exact h (Int.ofNat.inj z)
    have e0 : decide (V.int (way : Int) = V.int 0) = false := ne 0 z0
    rw [e0]
    dsimp only
    rw [if_neg Bool.false_ne_true]
    -- 1
    refine ⟨_, rfl, rfl, _, rfl, ?_⟩
    by_cases z1 : way = 1
    · subst z1
      dsimp only
      rw [if_pos (by rfl)]
      have q1 := cut_nl x (Nat.le_succ at')
      have l1 := lcut none (some (at' : Int))
      have l2 := lcut (some ((at' : Int) + 1)) none
      refine ⟨_, rfl, _, rfl, _, rfl, x, rfl, sml (by omega), _, rfl, _, rfl, _, _, rfl, rfl, _, rfl, x, rfl, sml (by omega), _, _, rfl, rfl, ?_, q H5 _ m5 (w5.mono (by omega)) ?_ ?_⟩
      · exact sml (by omega)
      · rw [sapp_len]
        omega
      · rw [nl_app]
        exact Nat.le_trans q1 (by omega)
    have e1 : decide (V.int (way : Int) = V.int 1) = false := ne 1 z1
    rw [e1]
    dsimp only
    rw [if_neg Bool.false_ne_true]
    -- 2
    refine ⟨_, rfl, rfl, _, rfl, ?_⟩
    by_cases z2 : way = 2
    · subst z2
      dsimp only
      rw [if_pos (by rfl)]
      have q1 := cut_nl x (Nat.le_succ at')
      have l1 := lcut none (some (at' : Int))
      have l2 := lcut (some ((at' : Int) + 1)) none
      refine ⟨_, rfl, _, rfl, _, rfl, x, rfl, sml (by omega), _, rfl, _, _, rfl, rfl, ?_, _, rfl, _, rfl, _, _, rfl, rfl, _, rfl, x, rfl, sml (by omega), _, _, rfl, rfl, ?_, q H5 _ m5 (w5.mono (by omega)) ?_ ?_⟩
      · exact sml (by omega)
      · rw [sapp_len]
        exact sml (by omega)
      · rw [sapp_len, sapp_len]
        omega
      · rw [nl_app, nl_app]
        have q1 : nl (cutS x none (some (at' : Int))) + nl (cutS x (some ((at' : Int) + 1)) none) ≤ nl x := q1
        omega
    have e2 : decide (V.int (way : Int) = V.int 2) = false := ne 2 z2
    rw [e2]
    dsimp only
    rw [if_neg Bool.false_ne_true]
    -- the odd line
    refine ⟨_, _, rfl, rfl, by decide, by decide, by decide +kernel, by decide +kernel, _, _, rfl, rfl, by decide +kernel, by decide, fun p np => ?_⟩
    have e6 : upd H5 p (.lst (odds.map V.str)) p = some (.lst (odds.map V.str)) := upd_same
    have s6 : Sm W H (upd H5 p (.lst (odds.map V.str))) := m5.new np
    have w6 : WellAt (n + 2) (upd H5 p (.lst (odds.map V.str))) W := w5.new np
    have pW : p ≠ W := (w5.ne np).symm
    have e6L : upd H5 p (.lst (odds.map V.str)) L = some (.lst ((linesT x).map V.str)) := by rw [upd_ne (ne_of_none e5 np)]; exact e5
    show (fun x H1 => tCall sp_draw [] E0 (tCons (tVar 0) (tCons (tC (V.int 12)) tNil)) _ H1 _) (V.ref p) (upd H5 p (.lst (odds.map V.str)))
    generalize upd H5 p (.lst (odds.map V.str)) = H6 at e6 s6 w6 e6L ⊢
    refine ⟨_, rfl, W, 12, n + 1, rfl, by decide, by decide, w6, fun H7 ow how s7 w7 => ?_⟩
    obtain ⟨odd, hodd, oo⟩ : ∃ odd, odds[ow]? = some odd ∧ (nl odd = 0 ∧ odd.length ≤ 41) := by
      have h : ow < odds.length := how
      exact ⟨_, List.getElem?_eq_getElem h, odds_ok _ (List.getElem_mem h)⟩
    refine ⟨p, odds.map V.str, (ow : Int), .str odd, rfl, rfl, .of (s7 _ _ pW e6), atI_nat (by rw [List.getElem?_map, hodd]; rfl), ?_⟩
    have m7 := s6.trans s7
    have e7 := s7 _ _ LW e6L
    have nLH : H L = none := by
      cases e : H L with
      | none => rfl
      | some o => rw [m3 _ _ LW e] at nL; cases nL
    refine ⟨fun σ h => ∃ (L' : Addr) (ls : List Str), σ = [some (.ref W), some (.str x), some (.int way), some (.int at'), some (.str ⟨#[c]⟩), some (.ref L'), some (.int to), some (.str odd)] ∧ h L' = some (.lst (ls.map V.str)) ∧ Ln x ls ∧ Sm W H h ∧ WellAt n h W, ?_, ?_⟩
    · have lne : ((linesT x).map V.str).length < sizeLine := by
        rw [List.length_map]
        exact Nat.lt_of_le_of_lt (show _ ≤ 250001 by omega) (by decide)
      have to63 : (to : Int) < 2 ^ 63 := by
        have : to < 250002 := by omega
        omega
      obtain ⟨ln, hln⟩ : ∃ ln, (linesT x)[to]? = some ln := ⟨_, List.getElem?_eq_getElem hto⟩
      have lnl := part_short (x := x) (y := NLs) (List.mem_of_getElem? hln)
      have lnn := line_nl (List.mem_of_getElem? hln)
      refine ⟨_, rfl, rfl, _, rfl, ?_⟩
      by_cases z3 : way = 3
      · subst z3
        dsimp only
        rw [if_pos (by rfl)]
        refine ⟨_, rfl, .inl ⟨rfl, _, .inl (.inl e7)⟩, _, rfl, _, rfl, L, _, _, _, rfl, rfl, e7, lne, by omega, to63, ?_⟩
        refine ⟨L, (linesT x).take to ++ [odd] ++ (linesT x).drop to, rfl, ?_, Ln.mix (Nat.le_refl _) (Nat.le_refl _) (fun l hl => ?_), m7.mut nLH, (w7.mono (by omega)).upd LW.symm⟩
        · rw [upd_same, List.map_append, List.map_append, List.map_take, List.map_drop]
          rfl
        · rw [List.mem_singleton.mp hl]
          exact ⟨oo.1, by omega⟩
      have e3 : decide (V.int (way : Int) = V.int 3) = false := ne 3 z3
      rw [e3]
      dsimp only
      rw [if_neg Bool.false_ne_true]
      refine ⟨_, rfl, rfl, _, rfl, ?_⟩
      by_cases z4 : way = 4
      · subst z4
        rw [if_pos (by rfl)]
        refine ⟨_, rfl, _, rfl, L, _, _, .str ln, rfl, rfl, .of e7, atI_nat (by rw [List.getElem?_map, hln]; rfl), _, rfl, _, _, rfl, rfl, ?_, ?_⟩
        · exact sml (by omega)
        refine ⟨_, rfl, _, rfl, L, _, _, to, rfl, rfl, e7, ?_, ?_⟩
        · have : to < ((linesT x).map V.str).length := by rw [List.length_map]; exact hto
          unfold ixN
          rw [if_pos (by omega), if_pos (by omega)]
          rfl
        refine ⟨L, (linesT x).take to ++ [ln ++ odd] ++ (linesT x).drop (to + 1), rfl, ?_, Ln.mix (Nat.le_succ _) (Nat.le_refl _) (fun l hl => ?_), m7.mut nLH, (w7.mono (by omega)).upd LW.symm⟩
        · rw [upd_same, List.map_append, List.map_append, List.map_take, List.map_drop]
          rw [List.set_eq_take_append_cons_drop, if_pos (by rw [List.length_map]; exact hto)]
          rw [List.append_assoc]
          rfl
        · rw [List.mem_singleton.mp hl, nl_app, sapp_len]
          exact ⟨by omega, by omega⟩
      have e4' : decide (V.int (way : Int) = V.int 4) = false := ne 4 z4
      rw [e4']
      dsimp only
      rw [if_neg Bool.false_ne_true]
      refine ⟨_, rfl, rfl, _, rfl, ?_⟩
      by_cases z5 : way = 5
      · subst z5
        rw [if_pos (by rfl)]
        refine ⟨_, rfl, .inl ⟨rfl, _, .inl (.inl e7)⟩, _, rfl, _, rfl, _, rfl, _, rfl, L, _, rfl, .inl (.of e7), W, ((linesT x).map V.str).length, n, rfl, by rw [List.length_map]; omega, by rw [List.length_map]; exact Nat.lt_of_le_of_lt (show _ ≤ 250001 by omega) (by decide), w7, fun H8 k hk s8 w8 => ?_⟩
        rw [List.length_map] at hk
        obtain ⟨l2, hl2⟩ : ∃ ln, (linesT x)[k]? = some ln := ⟨_, List.getElem?_eq_getElem hk⟩
        have l2l := part_short (x := x) (y := NLs) (List.mem_of_getElem? hl2)
        have l2n := line_nl (List.mem_of_getElem? hl2)
        have e8 := s8 _ _ LW e7
        refine ⟨L, _, _, .str l2, rfl, rfl, .of e8, atI_nat (by rw [List.getElem?_map, hl2]; rfl), L, _, _, _, rfl, rfl, e8, lne, by omega, to63, ?_⟩
        refine ⟨L, (linesT x).take to ++ [l2] ++ (linesT x).drop to, rfl, ?_, Ln.mix (Nat.le_refl _) (Nat.le_refl _) (fun l hl => ?_), (m7.trans s8).mut nLH, w8.upd LW.symm⟩
        · rw [upd_same, List.map_append, List.map_append, List.map_take, List.map_drop]
          rfl
        · rw [List.mem_singleton.mp hl]
          exact ⟨l2n, by omega⟩
      have e5' : decide (V.int (way : Int) = V.int 5) = false := ne 5 z5
      rw [e5']
      dsimp only
      rw [if_neg Bool.false_ne_true]
      refine ⟨_, rfl, rfl, _, rfl, ?_⟩
      by_cases z6 : way = 6
      · subst z6
        rw [if_pos (by rfl)]
        refine ⟨_, rfl, _, rfl, _, rfl, L, _, rfl, .of e7, fun L1 n1 => ?_⟩
        have k1 : upd H7 L1 (.lst (cutV ((linesT x).map V.str) none (some (to : Int)))) L = some (.lst ((linesT x).map V.str)) := by rw [upd_ne (ne_of_none e7 n1)]; exact e7
        refine ⟨_, rfl, _, rfl, _, _, rfl, rfl, _, rfl, L, _, rfl, .of k1, fun L2 n2 => ?_⟩
        have g1 : upd H7 L1 (.lst (cutV ((linesT x).map V.str) none (some (to : Int)))) L1 = some (.lst (((linesT x).take to).map V.str)) := by
          rw [upd_same, cut_take, List.map_take]
        have t1 : Sm W H (upd H7 L1 (.lst (cutV ((linesT x).map V.str) none (some (to : Int))))) := m7.new n1
        have v1 : WellAt n (upd H7 L1 (.lst (cutV ((linesT x).map V.str) none (some (to : Int))))) W := (w7.mono (by omega)).new n1
        generalize upd H7 L1 (.lst (cutV ((linesT x).map V.str) none (some (to : Int)))) = H8 at g1 t1 v1 n2 k1 ⊢
        have g2 : upd H8 L2 (.lst (cutV ((linesT x).map V.str) (some ((to : Int) + 1)) none)) L2 = some (.lst (((linesT x).drop (to + 1)).map V.str)) := by
          rw [upd_same, show some ((to : Int) + 1) = some ((to + 1 : Nat) : Int) from rfl, cut_drop, List.map_drop]
        have g3 : upd H8 L2 (.lst (cutV ((linesT x).map V.str) (some ((to : Int) + 1)) none)) L1 = some (.lst (((linesT x).take to).map V.str)) := by rw [upd_ne (ne_of_none g1 n2)]; exact g1
        refine ⟨L1, L2, _, _, rfl, rfl, g3, g2, ?_, fun L3 n3 => ?_⟩
        · rw [List.length_map, List.length_map, List.length_take, List.length_drop]
          exact sml (by omega)
        refine ⟨L3, (linesT x).take to ++ [] ++ (linesT x).drop (to + 1), rfl, ?_, Ln.mix (Nat.le_succ _) (Nat.zero_le _) (fun l hl => nomatch hl), (t1.new n2).new n3, (v1.new n2).new n3⟩
        rw [upd_same, List.append_nil, List.map_append]
      have e6' : decide (V.int (way : Int) = V.int 6) = false := ne 6 z6
      rw [e6']
      dsimp only
      rw [if_neg Bool.false_ne_true]
      exact ⟨L, linesT x, rfl, e7, Ln.self x, m7, w7.mono (by omega)⟩
    · rintro σ h ⟨L', ls, rfl, eL', hls, sh, wh⟩
      obtain ⟨j1, j2⟩ := hls.join
      refine ⟨⟨_, rfl⟩, _, rfl, _, L', ls, rfl, rfl, .inl (.of eL'), ?_, q h _ sh wh j1 j2⟩
      have h1 := hls.sum
      have h3 := hls.few
      rw [show (Str.ofString "\n").length = 1 by decide +kernel]
      omega
end
end T89

set_option maxHeartbeats 1000000
/-! A rule of our own: a try with several clauses, the first of which names the error and takes all that the body raises. -/
namespace TAM
open PySem PySem.Spec L2 PyProof.Rows
/-- behind the suite the name is gone -/
def endsAs (i : Nat) (D : Ends) : Ends where
  nx := fun s H => D.nx (s.set i none) H
  rt := D.rt
  bk := fun s H => D.bk (s.set i none) H
  ct := fun s H => D.ct (s.set i none) H
def wFst (K : PySem.W.Frag) (c : Value) (i : Nat) (ts : Addr → Value → Option Addr → TS) (D : Ends) : WX := fun k d s H =>
  PySem.W.exmOne K k c = some true ∧ ∀ a, H a = none → ts a k d (endsAs i D) (s.set i (some (.ref a))) H
section
variable {X : Cx} {x n : Str} {c : Value} {i : Nat} {body suite : List Stmt} {fst : Stmt} {q1 q2 q3 : Pos} {tb : WX → TS} {ts : Addr → Value → Option Addr → TS} {more : List ExceptHandler}
theorem ps_try_asM (hst : X.stack = X.env :: X.outer) (fr : X.env.frame = some X.env.locals) (nN : X.N.Nodup) (at_ : X.N[i]? = some n) (loc : X.env.kindOf n = some .local) (nm : Names X x c)
    (bod : ∀ (W : WX) (pn : List (Addr × Obj)) (xe : Value → Shared → Prop), Takes (X.tr pn xe) W →
      PassesOwn (model X.prog X.w) X.A X.env xe → PSs (X.tr pn xe) body (tb W))
    (sui : ∀ (a : Addr) (oe : Obj) (k : Value) (d : Option Addr) (pn : List (Addr × Obj)), Zc k d oe → (∃ vs, oe.data = .fields vs) →
      PSs (X.suite a ((a, oe) :: pn)) (fst :: suite) (ts a k d)) :
    PS X (.Try body (.ExceptHandler (some (.Name x q1)) (some n) (fst :: suite) q2 :: more) [] [] q3) (fun D s H => tb (wFst X.K c i ts D) D s H) := by
  refine ⟨fun pins s0 t0 H D I hh => ?_⟩
  have okX := I.ok
  have frs2 : X.A.frames = some (X.env :: X.outer) := okX.frames.trans (congrArg some hst)
  refine wpAny_Try_except (wpAny_mono ((bod (wFst X.K c i ts D) (X.pn ++ pins)
    (fun e s2 => wpAny (model X.prog X.w) X.A (noteFrame e X.env)
      (fun _ s3 => wpAny (model X.prog X.w) X.A (setFlight e none)
        (fun _ s4 => wpAny (model X.prog X.w) X.A
          (handleBy e X.env (.ExceptHandler (some (.Name x q1)) (some n) (fst :: suite) q2 :: more)) (SP X pins D) X.xe s4) X.xe s3) X.xe s2)
    (fun u s' met => ?_) PassesOwn.looking).run [] s0 t0 H D (I.toTry _) hh) (fun f s' sp => ?_) (fun e s' he => he))
  · obtain ⟨ea, B, sI, pi', t, G, k, d, rfl, J1, nb, up, sky, na, os, ag, yes, go⟩ := met
    have J : Inv X pins t G sI := J1.ofTry okX
    have sk2 : Sky B (X.env :: X.outer) ea (Zc k d) X.env.locals s'.heap := hst ▸ sky
    refine Sky.land Zc.steady frs2 fr sk2 fun g3 fl up3 => ?_
    have K3 : Inv X pins t G { s' with heap := g3 } := J.landed nb fl.1 (up.trans up3) os ag
    obtain ⟨o3, v3, he3, hz3, hd3⟩ := fl.there
    have ff := fl.2.2.1
    have apart : ea ∉ frs (X.env :: X.outer) := fun hm => by
      obtain ⟨_, o', e', hnf⟩ := ff.mem hm
      have : some o3 = some o' := he3.symm.trans e'
      cases this
      exact hnf _ hd3
    have nLoc : ea ≠ X.env.locals := fun z => apart (List.mem_filterMap.mpr ⟨X.env, by simp, fr.trans (congrArg some z.symm)⟩)
    have nFs : ea ∉ X.fs := fun hm => by
      have ⟨e2, he2, qe⟩ := List.mem_filterMap.mp hm
      exact apart (List.mem_filterMap.mpr ⟨e2, List.mem_cons_of_mem _ he2, qe⟩)
    have S3 := K3.suite he3 hd3 na nLoc nFs
    refine wpAny_handleBy_cons (codeAny_handlers_test ?_) (fun q => by cases q)
    have lk : PySem.W.Looks (model X.prog X.w) g3 (typeOf (.ref ea)) k := fun A Q E s2 keep q =>
      wpAny_typeOf_ref (keep _ _ he3) (hz3.1 ▸ q)
    have lm := PySem.W.exm_one (M := model X.prog X.w) K3.kIn lk yes
    have test : ∀ {Q E : Value → Shared → Prop}, Q c { s' with heap := g3 } →
        wpAny (model X.prog X.w) (X.A.mark (some (.ref ea))) (eval (.Name x q1) X.env) Q E { s' with heap := g3 } := fun {Q E} q => by
      obtain ⟨a1, a2, hm | ⟨hm, hv, hnn⟩⟩ := nm
      · exact ld_glob (X := X.suite ea ((ea, o3) :: (X.pn ++ pins))) S3 a1 hm q a2
      · exact ld_blt (X := X.suite ea ((ea, o3) :: (X.pn ++ pins))) S3 a1 hm hv q hnn a2
    refine test (lm.here (codeAny_handlers_suite_as (HandSPX.lands_againZ fl fun g4 fl4 up4 => ?_)))
    have K4 : Inv X pins t G { s' with heap := g4 } := J.landed nb fl4.1 ((up.trans up3).trans up4) os ag
    obtain ⟨o4, v4, he4, hz4, hd4⟩ := fl4.there
    have S4 := K4.suite he4 hd4 na nLoc nFs
    refine store_ok (X := X.suite ea ((ea, o4) :: (X.pn ++ pins))) (v := .ref ea) S4 nN at_ (.inl loc) rfl (fun s5 S5 => ?_) (.inr loc)
    refine wpAny_mono ((sui ea o4 k d (X.pn ++ pins) hz4 ⟨_, hd4⟩).run [] s5 _ G _ S5 (go ea na)) (fun f s6 sp => ?_) fun _ _ z => False.elim z
    have gone : ∀ {t6 : L2.St} {G6 : Hp} {Q : Shared → Prop}, Inv (X.suite ea ((ea, o4) :: (X.pn ++ pins))) [] t6 G6 s6 →
        (∀ s7, Inv X pins (t6.set i none) G6 s7 → Q s7) → wpAny (model X.prog X.w) X.A
          (do bindName X.env n .none; unbindBehindTheSuite X.env n q2) (fun _ s7 => Q s7) X.xe s6 :=
      fun {t6 G6 Q} S6 hq => gone_ok (S6.unsuite okX) nN at_ loc hq
    cases f with
    | next => obtain ⟨t6, G6, S6, q6⟩ := sp; exact gone S6 fun s7 J7 => ⟨_, _, J7, q6⟩
    | brk => obtain ⟨t6, G6, S6, q6⟩ := sp; exact gone S6 fun s7 J7 => ⟨_, _, J7, q6⟩
    | cont => obtain ⟨t6, G6, S6, q6⟩ := sp; exact gone S6 fun s7 J7 => ⟨_, _, J7, q6⟩
    | ret u => obtain ⟨v6, t6, G6, S6, r6, q6⟩ := sp; exact gone S6 fun s7 J7 => ⟨_, _, _, J7, r6, q6⟩
  · cases f with
    | next => obtain ⟨t, G, J1, q⟩ := sp; exact wpAny_execs_nil ⟨t, G, J1.ofTry okX, q⟩
    | brk => obtain ⟨t, G, J1, q⟩ := sp; exact ⟨t, G, J1.ofTry okX, q⟩
    | cont => obtain ⟨t, G, J1, q⟩ := sp; exact ⟨t, G, J1.ofTry okX, q⟩
    | ret u => obtain ⟨v, t, G, J1, r, q⟩ := sp; exact ⟨v, t, G, J1.ofTry okX, r, q⟩
end
end TAM

set_option maxHeartbeats 4000000
namespace T89
open PySem L2 PyProof.Rows TX TY TW TD TB TG TUD TE TK TL TLL TES TNN TAM
section
variable {P : Program} {w : World} {K : PySem.W.Frag} {mg : Str → Option Value} {base : Heap}
variable {fW fN fA fR fK fS : Addr} {dW dN dA dR dK dS : FuncData}
variable {C fI hc hr he : Addr} {dI' gc gr ge : FuncData}
/-- the refusals of the statement's own try -/
structure Er (K : PySem.W.Frag) (mg : Str → Option Value) (Cx Cc Cr : Addr) : Prop where
  gC : mg "NoColumns" = some (.ref Cc)
  gR : mg "NoRow" = some (.ref Cr)
  te : PySem.W.exmOne K (.ref Cx) (.ref Cx) = some true
  xc : ExcC K Cx
  no : PySem.W.kitAny K (.ref Cx) [.ref Cc, .ref Cr] = some false
theorem sc_answer : FnScope ["_law_text_here", "e"] ["_law_text_here"] (defScope s_answer) := ⟨rfl, rfl, rfl, by decide +kernel, rfl, by decide +kernel, by decide +kernel⟩
def sp_answer (K : PySem.W.Frag) : Sp := fun vs H Q _ => ∃ (v : V) (t : String) (b : Bool), vs = [v] ∧ TyOf K H v (.type t) ∧ kitB t "str" = some b ∧ (b = false → ∀ H' T, Same H H' → H' T = some (.tup [.str "refused", .int (-1), .bl false]) → Q (.ref T) H') ∧
  (b = true → ∃ x : Str, v = .str x ∧ x.length ≤ 900000 ∧ (linesT x).length ≤ 60 ∧ (stopX x = none → ∀ H' T, Same H H' → H' T = some (.tup [.str "read", .str x]) → Q (.ref T) H') ∧
    (∀ i : Nat, stopX x = some i → ∀ H' T, Same H H' → H' T = some (.tup [.str "refused", .int (i : Int), .bl false]) → Q (.ref T) H'))
def t_answer (K : PySem.W.Frag) (Cx Cc Cr : Addr) : Addr → Value → Option Addr → TS := fun a cls d => tRet (tTup (tCons (tC (.str "refused")) (tCons (tXf a cls d Cx "at" (tVar 1)) (tCons (tCB (rIsXd K a cls d) (tCons (tVar 1) (tCons (tTup (tCons (tC (.ref Cc)) (tCons (tC (.ref Cr)) tNil))) tNil))) tNil))))
theorem ok_answer {f fG fH fL gN gO fNw Cx fx Cc Cr : Addr} {fd dG dH dL eN eO dNw dx : FuncData} (F : Fn K mg "_law_answer" s_answer ["_law_text_here"] f fd) (FR : Fn K mg "read_table" s_read ["text"] fG dG) (FS : Fn K mg "show_table" s_show ["table"] fH dH) (FL : Fn K mg "_check_text" s_checkt ["text"] fL dL) (FN : Fn K mg "numbers_of" s_numbers ["text", "many"] gN eN) (FO : Fn K mg "number_of" s_number ["text"] gO eO) (FW : Fn K mg "written" s_written ["numbers"] fNw dNw) (Cg : Cf mg)
    (T : Kt K mg fW fN fA fR fK fS dW dN dA dR dK dS) (D : Bd K mg C fI hc hr he dI' gc gr ge) (Nx : NtX K mg Cx fx dx) (E0' : Er K mg Cx Cc Cr) : FnOk P w K mg base CX0 7 f fd ["_law_text_here"] (sp_answer K) := by
  have B := T.B
  have GR : FnOk P w K mg base (L2.CX P w) 6 fG dG ["text"] (sp_read K C Cx) := ok_read FR FL FN FO Cg T D Nx
  have GS : FnOk P w K mg base CX0 2 fH dH ["table"] (sp_show C) := ok_show FS FW B D
  have Xx : XfC K Cx := ⟨E0'.xc.hg, E0'.xc.hk, E0'.xc.hs, E0'.xc.hd⟩
  refine F.F.ok sc_answer (fun vs H Q E h => ?_) (fun cdv A outer s H vs Q E hr h => ?_)
  · obtain ⟨v, t, b, rfl, _⟩ := h
    rfl
  · obtain ⟨v, t, b, rfl, ht, hb, q0, q1⟩ := h
    have nd := sc_answer.nd
    have r2 : Room 2 _ := hr.mono (by decide)
    refine ⟨_, pss_one (ps_try_asM (i := 1) (tb := fun W => tRet (tTup (tCons (tC (.str "read")) (tCons (tCall (sp_show C) [] E0 (tCons (tCallS (sp_read K C Cx) (WE W) (tCons (tVar 0) tNil)) tNil)) tNil)))) (ts := t_answer K Cx Cc Cr) rfl rfl nd rfl rfl ⟨rfl, by decide, Or.inl Nx.g⟩
        (fun W pn xe tk _ => pss_one (ps_ret (by exact (pe_tup (pa_cons pe_str (pa_cons (by exact (pe_call GS r2 rfl FS.g FS.F.kp FS.b .nil pass0 (pa_cons (by exact (pe_callS GR hr rfl FR.g FR.F.kp FR.b (fun σ => passAt tk σ) (by exact (pa_cons (pv 0) pa_nil)))) pa_nil))) pa_nil))))))
        (fun a oe cls d pn hz hf => pss_one (ps_ret (pe_tup (pa_cons pe_str (pa_cons (pe_xf Xx Nx.no hz hf (pv 1)) (pa_cons (pe_callB (call_isXd hz hf) (by rfl) B.isi boot_isinstance (pa_cons (pv 1) (pa_cons (pe_tup (pa_cons (pe_glob (v := .ref Cc) (by rfl) E0'.gC rfl) (pa_cons (pe_glob (v := .ref Cr) (by rfl) E0'.gR rfl) pa_nil))) pa_nil))) pa_nil)))))))
      , ?_⟩
    refine ⟨_, rfl, v, t, b, rfl, ht, hb, fun e H1 d s1 ed => ?_, fun e => ?_⟩
    · refine ⟨E0'.te, fun a na => ?_⟩
      refine ⟨_, rfl, rfl, rfl, d, _, _, rfl, ed, rfl, _, rfl, ?_⟩
      refine ⟨two_le, fun tp ntp => ⟨Cx, _, false, rfl, E0'.xc, ⟨d, _, rfl, (by rw [upd_ne (ne_of_none ed ntp)]; exact ed)⟩, rfl, .inr ⟨tp, _, _, rfl, upd_same, .cons (.own Cc) (.cons (.own Cr) .nil), E0'.no⟩, by show 3 ≤ sizeLine; decide, fun T nT => ?_⟩⟩
      exact q0 e _ T ((s1.trans (Same.new ntp)).trans (Same.new nT)) upd_same
    · obtain ⟨x, rfl, hl, hll, qn, qs⟩ := q1 e
      refine ⟨x, rfl, hl, hll, fun es H1 p s1 tb => ?_, fun i es H1 d s1 ed => ?_⟩
      · obtain ⟨_, _, _, ex, _⟩ := read_all es
        refine ⟨p, _, _, rfl, tb, fun H2 s2 => ?_⟩
        rw [ex]
        exact ⟨two_le, fun T nT => qn es _ T ((s1.trans s2).trans (Same.new nT)) upd_same⟩
      · refine ⟨E0'.te, fun a na => ?_⟩
        refine ⟨_, rfl, rfl, rfl, d, _, _, rfl, ed, rfl, _, rfl, ?_⟩
        refine ⟨two_le, fun tp ntp => ⟨Cx, _, false, rfl, E0'.xc, ⟨d, _, rfl, (by rw [upd_ne (ne_of_none ed ntp)]; exact ed)⟩, rfl, .inr ⟨tp, _, _, rfl, upd_same, .cons (.own Cc) (.cons (.own Cr) .nil), E0'.no⟩, by show 3 ≤ sizeLine; decide, fun T nT => ?_⟩⟩
        exact qs i es _ T ((s1.trans (Same.new ntp)).trans (Same.new nT)) upd_same
end
end T89

set_option maxHeartbeats 4000000
namespace T89
open PySem L2 PyProof.Rows TX TY TW TD TB TG TUD TE TK TL TLL TES TNN TAM
section
variable {K : PySem.W.Frag}
abbrev teVal : TE := tCall sp_value [] E0 (tCons (tVar 2) tNil)
theorem rd_row {H : Hp} {W Nn : Addr} {ns : List Str} {m : Nat} {s : L2.St} {Q : VK} (hl : ns.length ≤ 8) (hW : WellAt (m + 3 * ns.length) H W) (NW : Nn ≠ W) (hN : H Nn = some (.lst (ns.map V.str))) (h2 : s[2]? = some (some (.ref W))) (h3 : s[3]? = some (some (.ref Nn)))
    (q : ∀ H' D (r : List Int), Sm W H H' → WellAt m H' W → H D = none → H' D = some (.lst (r.map V.int)) → r.length = ns.length → (∀ i ∈ r, i.natAbs < 10 ^ 40) → Q (.ref D) H') : tLc (iList K (tVar 3)) (gName 5) tYes teVal [5] s H Q := by
  refine ⟨_, h3, Nn, rfl, ⟨_, .of hN⟩, fun Dn nDn => ?_⟩
  have DW : Dn ≠ W := (hW.ne nDn).symm
  have DN : Nn ≠ Dn := ne_of_none hN nDn
  refine lc_it (walk_list (xs := ns.map V.str)) (fun i h => ∃ r : List Int, h Dn = some (.lst (r.map V.int)) ∧ r.length = i ∧ (∀ i ∈ r, i.natAbs < 10 ^ 40) ∧ Sm W H h ∧ WellAt (m + 3 * (ns.length - i)) h W)
    ⟨[], upd_same, rfl, (fun i h => nomatch h), Sm.new .rfl' nDn, hW.new nDn⟩ (fun i h _ ⟨_, _, _, _, s, _⟩ => .of (s _ _ NW hN)) ?_ ?_
  · rintro i x h h' hi ⟨r, e4, lr, br, s4, w4⟩ ⟨rfl, hx⟩
    have hi' : i < ns.length := by rwa [List.length_map] at hi
    refine ⟨?_, ?_⟩
    · show (((s.set 5 none).set 5 _).set 5 none) = s.set 5 none
      rw [List.set_set, List.set_set]
    have gj : ∀ (j : Nat) (v : V), j ≠ 5 → s[j]? = some (some v) → ((wipe s [5]).set 5 (some x))[j]? = some (some v) := fun j v hj e => by
      show ((s.set 5 none).set 5 _)[j]? = _
      rw [List.set_set, List.getElem?_set_ne (by omega)]
      exact e
    refine ⟨_, gj 2 _ (by decide) h2, W, m + 3 * (ns.length - (i + 1)), rfl, w4.mono (by omega), fun h5 k s5 w5 hk => ?_⟩
    refine ⟨_, s5 _ _ DW e4, by rw [List.length_map]; exact line100' (by omega), r ++ [k], ?_, ?_, ?_, (s4.trans s5).mut nDn, w5.upd DW.symm⟩
    · rw [upd_same, List.map_append]
      rfl
    · rw [List.length_append, List.length_singleton, lr]
    · intro z hz
      rcases List.mem_append.mp hz with hz | hz
      · exact br z hz
      · rw [List.mem_singleton.mp hz]
        exact hk
  · rintro h ⟨r, e4, lr, br, s4, w4⟩
    rw [List.length_map] at lr w4
    exact q h Dn r s4 (w4.mono (by omega)) nDn e4 lr br
/-- a row that is kept -/
def RowX (n : Nat) (D W : Addr) (h : Hp) (a : Addr) (r : List Int) : Prop := h a = some (.tup (r.map V.int)) ∧ a ≠ D ∧ a ≠ W ∧ (r.length = n ∧ ∀ i ∈ r, i.natAbs < 10 ^ 40)
theorem RowX.sm {n : Nat} {D W : Addr} {h h' : Hp} {a : Addr} {r : List Int} (x : RowX n D W h a r) (s : Sm W h h') : RowX n D W h' a r := ⟨s _ _ x.2.2.1 x.1, x.2⟩
theorem RowX.put {n : Nat} {D W : Addr} {h : Hp} {a : Addr} {r : List Int} {o : HO} (x : RowX n D W h a r) : RowX n D W (upd h D o) a r := ⟨by rw [upd_ne x.2.1]; exact x.1, x.2⟩
theorem rd_rows {H : Hp} {W Nn : Addr} {ns : List Str} {m : Nat} {s : L2.St} {Q : VK} (hl : ns.length ≤ 8) (hW : WellAt (m + 24 * 8 + 1) H W) (NW : Nn ≠ W) (hN : H Nn = some (.lst (ns.map V.str))) (h2 : s[2]? = some (some (.ref W))) (h3 : s[3]? = some (some (.ref Nn)))
    (q : ∀ H' D as (rs : List (List Int)), Sm W H H' → WellAt m H' W → H D = none → D ≠ W → H' D = some (.lst (as.map V.ref)) → RowsAt H' as rs → (∀ r ∈ rs, r.length = ns.length ∧ ∀ i ∈ r, i.natAbs < 10 ^ 40) → rs.length ≤ 7 → Q (.ref D) H') :
    tLc (iRng1 (tCons (tCall sp_draw [] E0 (tCons (tVar 2) (tCons (tC (.int 8)) tNil))) tNil)) (gName 4) tYes (tCB (rTu K) (tCons (tLc (iList K (tVar 3)) (gName 5) tYes teVal [5]) tNil)) [4] s H Q := by
  refine ⟨_, h2, W, 8, m + 24 * 8, rfl, by decide, by decide, hW, fun H1 many hm8 s1 w1 => ?_⟩
  have hN1 := s1 _ _ NW hN
  refine ⟨many, rfl, by omega, by omega, fun Dn nDn => ?_⟩
  have DW : Dn ≠ W := (w1.ne nDn).symm
  refine lc_it (walk_range (lo := 0) (n := (many : Int).toNat)) (fun i h => ∃ as rs, h Dn = some (.lst (as.map V.ref)) ∧ Paired (RowX ns.length Dn W h) as rs ∧ as.length = i ∧ Sm W H1 h ∧ WellAt (m + 24 * (8 - i)) h W)
    ⟨[], [], upd_same, .nil, rfl, Sm.new .rfl' nDn, w1.new nDn⟩ (fun _ _ _ _ => trivial) ?_ ?_
  · rintro i x h h' hi ⟨as, rs, e4, t4, l4, s4, w4⟩ ⟨rfl, rfl⟩
    have hi' : i < many := by simpa using hi
    refine ⟨?_, ?_⟩
    · show (((s.set 4 none).set 4 _).set 4 none) = s.set 4 none
      rw [List.set_set, List.set_set]
    have gj : ∀ (j : Nat) (v : V), j ≠ 4 → s[j]? = some (some v) → ((wipe s [4]).set 4 (some (V.int (0 + (i : Int)))))[j]? = some (some v) := fun j v hj e => by
      show ((s.set 4 none).set 4 _)[j]? = _
      rw [List.set_set, List.getElem?_set_ne (by omega)]
      exact e
    dsimp only [tYes]
    rw [if_pos rfl]
    dsimp only [tCB, tCons]
    refine rd_row (m := m + 24 * (8 - (i + 1))) hl (w4.mono (by omega)) NW (s4 _ _ NW hN1) (gj 2 _ (by decide) h2) (gj 3 _ (by decide) h3) fun h5 L r s5 w5 nL eL lr br => ?_
    have e5 := s5 _ _ DW e4
    have LD : L ≠ Dn := fun z => by rw [z, e4] at nL; cases nL
    refine ⟨L, r.map V.int, rfl, .inl ⟨.of eL, fun T nT => ?_⟩⟩
    have e6 : upd h5 T (.tup (r.map V.int)) Dn = some (.lst (as.map V.ref)) := by rw [upd_ne (ne_of_none e5 nT)]; exact e5
    have TD : T ≠ Dn := (ne_of_none e5 nT).symm
    have TW : T ≠ W := (w5.ne nT).symm
    refine ⟨_, e6, ?_, as ++ [T], rs ++ [r], ?_, ?_, ?_, ?_, ?_⟩
    · rw [List.length_map]
      exact line100' (by omega)
    · rw [upd_same, List.map_append]
      rfl
    · exact pr_snoc (Paired.mapP t4 fun a x e => ((e.sm s5).sm (.of (Same.new nT))).put) (RowX.put ⟨upd_same, TD, TW, lr, br⟩)
    · rw [List.length_append, List.length_singleton, l4]
    · exact ((s4.trans s5).new nT).mut nDn
    · exact (w5.new nT).upd DW.symm
  · rintro h ⟨as, rs, e4, t4, l4, s4, w4⟩
    have e : (many : Int).toNat = many := by omega
    rw [e] at l4 w4
    have nDH : H Dn = none := by
      cases e : H Dn with
      | none => rfl
      | some o => rw [s1 _ _ DW e] at nDn; cases nDn
    have lr := Paired.length t4
    refine q h Dn as rs (s1.trans s4) (w4.mono (by omega)) nDH DW e4 (Paired.mapP t4 fun a r x => x.1) ?_ (by omega)
    have : ∀ {as rs}, Paired (RowX ns.length Dn W h) as rs → ∀ r ∈ rs, r.length = ns.length ∧ ∀ i ∈ r, i.natAbs < 10 ^ 40 := by
      intro as rs hp
      induction hp with
      | nil => intro r hr; cases hr
      | cons x _ ih =>
        intro r hr
        rcases List.mem_cons.mp hr with e | hr
        · rw [e]
          exact x.2.2.2
        · exact ih r hr
    exact this t4
end
theorem can3 {a b c : PyData} (h : PyData.canLay0 a = true) (k : PyData.canLay0 b = true) (l : PyData.canLay0 c = true) : PyData.canLay0 (.tuple [a, b, c]) = true := by
  unfold PyData.canLay0 PyData.canLayAll0 PyData.canLayAll0 PyData.canLayAll0 PyData.canLayAll0
  rw [h, k, l]
  rfl
theorem can_int (i : Int) : PyData.canLay0 (.int i) = true := by unfold PyData.canLay0; rfl
theorem can_bl (i : Bool) : PyData.canLay0 (.bool i) = true := by unfold PyData.canLay0; rfl
theorem shown_ok {cs : List Str} {rs : List (List Int)} (hc : Cs cs) : PyData.strOk (shown cs rs) = true := by
  unfold PyData.strOk
  rw [← Array.all_toList, List.all_eq_true]
  intro c hc'
  refine decide_eq_true ?_
  rcases mem_join (y := NLs) hc' with h | ⟨l, hl, h⟩
  · rw [NL_cps] at h
    rw [List.mem_singleton.mp h]
    decide
  rcases List.mem_cons.mp hl with rfl | hl
  · rcases mem_join (y := CMs) h with h | ⟨x, hx, h⟩
    · rw [CM_cps] at h
      rw [List.mem_singleton.mp h]
      decide
    · have := (hc.ok x hx).2.2 c h
      omega
  · obtain ⟨r, _, rfl⟩ := List.mem_map.mp hl
    rcases mem_join (y := CMs) h with h | ⟨x, hx, h⟩
    · rw [CM_cps] at h
      rw [List.mem_singleton.mp h]
      decide
    · obtain ⟨i, _, rfl⟩ := List.mem_map.mp hx
      rcases num_signs h with h | h <;> omega
theorem stop_ok {x : Str} (h : stopX x = none) : PyData.strOk x = true := by
  obtain ⟨h1, _, _, h4, _⟩ := read_all h
  rw [← h4]
  exact shown_ok h1
theorem norm_more (rs : List (List Int)) : norm (rs ++ rs.take 2) = norm rs := by
  refine (norm_of (rise_norm rs) fun x => ?_).symm
  rw [mem_norm, List.mem_append]
  constructor
  · exact .inl
  · rintro (h | h)
    · exact h
    · exact List.mem_of_mem_take h
end T89

set_option maxHeartbeats 8000000
namespace T89
open PySem L2 PyProof.Rows TX TY TW TD TB TG TUD TE TK TL TLL TES TNN TAM
section
variable {P : Program} {w : World} {K : PySem.W.Frag} {mg : Str → Option Value} {base : Heap}
variable {fW fN fA fR fK fS : Addr} {dW dN dA dR dK dS : FuncData}
variable {C fI hc hr he : Addr} {dI' gc gr ge : FuncData}
theorem pr_take {α β : Type} {R : α → β → Prop} {a : List α} {b : List β} (h : Paired R a b) (n : Nat) : Paired R (a.take n) (b.take n) := by
  induction h generalizing n with
  | nil => cases n <;> exact .nil
  | cons x _ ih =>
    cases n with
    | zero => exact .nil
    | succ n => exact .cons x (ih n)
/-- the defs that the statement calls -/
structure Ld (K : PySem.W.Frag) (mg : Str → Option Value) (gW gD gN gV gT gP gU gS gA gR gH gL gM gO gX : Addr) (eW eD eN eV eT eP eU eS eA eR eH eL eM eO eX : FuncData) : Prop where
  well : Fn K mg "_law_well" s_well ["_law_cell"] gW eW
  draw : Fn K mg "_law_draw" s_draw ["_law_well_here", "_law_many"] gD eD
  nms : Fn K mg "_law_names" s_names ["_law_well_here", "_law_many"] gN eN
  val : Fn K mg "_law_value" s_value ["_law_well_here"] gV eV
  txt : Fn K mg "_law_text" s_text ["_law_names_here", "_law_rows"] gT eT
  spo : Fn K mg "_law_spoilt" s_spoilt ["_law_well_here", "_law_text_here"] gP eP
  num : Fn K mg "_law_number" s_lnumber ["_law_word"] gU eU
  sto : Fn K mg "_law_stop" s_stop ["_law_text_here"] gS eS
  ans : Fn K mg "_law_answer" s_answer ["_law_text_here"] gA eA
  rea : Fn K mg "read_table" s_read ["text"] gR eR
  sho : Fn K mg "show_table" s_show ["table"] gH eH
  chk : Fn K mg "_check_text" s_checkt ["text"] gL eL
  nbs : Fn K mg "numbers_of" s_numbers ["text", "many"] gM eM
  nbr : Fn K mg "number_of" s_number ["text"] gO eO
  wri : Fn K mg "written" s_written ["numbers"] gX eX
variable {gW gD gN gV gT gP gU gS gA gR gH gL gM gO gX : Addr} {eW eD eN eV eT eP eU eS eA eR eH eL eM eO eX : FuncData}
abbrev N_law : List Str := ["_law_script", "_law_cell", "_law_well_here", "_law_names_here", "_law_k", "_law_name", "_law_rows", "_law_table", "_law_text_here", "_law_again", "_law_spoilt_here", "_law_one", "_law_at", "_law_due", "_law_odd"]
abbrev scIn : Scope := { kind := .function, names := [((".0" : Str), NameKind.local), ("_law_k", .local), ("tuple", .globalImplicit), ("_law_names_here", .cell), ("_law_well_here", .cell)], isGenerator := false, isCoroutine := false }
theorem sc_law : FnScope N_law ["_law_script"] (defScope s_law) := ⟨rfl, rfl, rfl, by decide +kernel, rfl, by decide +kernel, by decide +kernel⟩
theorem own_eqB {H : Hp} {a b : Addr} {cs cs' : List Str} {rs rs' : List (List Int)} {neg : Bool} {Q : VK} (D : Bd K mg C fI hc hr he dI' gc gr ge) (h : TG.TabAt C H a cs rs) (k : TG.TabAt C H b cs' rs') (ok : ∀ x ∈ cs, TM.NameOk x) (ok' : ∀ x ∈ cs', TM.NameOk x)
    (q : ∀ H', Same H H' → Q (.bl (if neg = true then !(decide (cs = cs') && decide (rs = rs')) else (decide (cs = cs') && decide (rs = rs')))) H') : rOwnEq K C (sp_beq C) E0 neg (.ref a) (.ref b) H Q := by
  obtain ⟨dx, l, r, as, h1, h2, h3, h4⟩ := id h
  obtain ⟨dx', l', r', as', h1', h2', h3', h4'⟩ := id k
  have c := D.c
  exact ⟨a, dx, _, .ref C, rfl, h1, .base (.ins h1' c.cl c.ins.ha c.ins.hn c.ins.htk c.ins.hm), D.ns, a, b, cs, cs', rs, rs', rfl, h, k, ok, ok', fun H' s => ⟨_, rfl, q H' s⟩⟩
def sp_law (K : PySem.W.Frag) : Sp := fun vs H Q _ => ∃ (a : Addr) (ns : List Int), vs = [.ref a] ∧ SqL K H a (ns.map V.int) ∧ ns.length ≤ 63 ∧ ∀ H', Q (.bl true) H'
theorem ok_law {f Cx fx Cc Cr : Addr} {fd dx : FuncData} (F : Fn K mg "law" s_law ["_law_script"] f fd) (Cg : Cf mg) (T : Kt K mg fW fN fA fR fK fS dW dN dA dR dK dS) (D : Bd K mg C fI hc hr he dI' gc gr ge) (Nx : NtX K mg Cx fx dx) (E0' : Er K mg Cx Cc Cr)
    (L : Ld K mg gW gD gN gV gT gP gU gS gA gR gH gL gM gO gX eW eD eN eV eT eP eU eS eA eR eH eL eM eO eX) : FnOk P w K mg base CX0 8 f fd ["_law_script"] (sp_law K) := by
  have B := T.B
  have c := D.c
  have GW : FnOk P w K mg base CX0 1 gW eW ["_law_cell"] sp_well := ok_well L.well
  have GD : FnOk P w K mg base CX0 1 gD eD ["_law_well_here", "_law_many"] sp_draw := ok_draw L.draw
  have GN : FnOk P w K mg base CX0 2 gN eN ["_law_well_here", "_law_many"] sp_names := ok_names L.nms B L.draw
  have GV : FnOk P w K mg base CX0 2 gV eV ["_law_well_here"] sp_value := ok_value L.val L.draw
  have GT : FnOk P w K mg base CX0 1 gT eT ["_law_names_here", "_law_rows"] sp_text := ok_text L.txt B T.set
  have GP : FnOk P w K mg base CX0 2 gP eP ["_law_well_here", "_law_text_here"] sp_spoilt := ok_spoilt L.spo B L.draw
  have GS : FnOk P w K mg base CX0 2 gS eS ["_law_text_here"] sp_stop := ok_stop L.sto L.num B T.set
  have GA : FnOk P w K mg base CX0 7 gA eA ["_law_text_here"] (sp_answer K) := ok_answer L.ans L.rea L.sho L.chk L.nbs L.nbr L.wri Cg T D Nx E0'
  have GR : FnOk P w K mg base (L2.CX P w) 6 gR eR ["text"] (sp_read K C Cx) := ok_read L.rea L.chk L.nbs L.nbr Cg T D Nx
  have GH : FnOk P w K mg base CX0 2 gH eH ["table"] (sp_show C) := ok_show L.sho L.wri B D
  have GI : FnOk P w K mg base CX0 4 fI dI' ["self", "columns", "rows"] (sp_binit C) := ok_binit D.iF T c
  have GE : FnOk P w K mg base CX0 1 he ge ["self", "other"] (sp_beq C) := ok_beq D.eq.F B c
  have GC : FnOk P w K mg base CX0 1 hc gc ["self"] (sp_bcolumns C) := ok_bcolumns D.cols.F B c
  have GO : FnOk P w K mg base CX0 1 hr gr ["self"] (sp_brows C) := ok_brows D.rows.F B c
  refine F.F.ok sc_law (fun vs H Q E h => ?_) (fun cdv A outer s H vs Q E hr h => ?_)
  · obtain ⟨a, ns, rfl, _⟩ := h
    rfl
  · obtain ⟨a, ns, rfl, hS, hl, q⟩ := h
    have hu := hu_of hr
    have hu64 := hr.units
    have r1 : Room 1 _ := hr.mono (by decide)
    have r2 : Room 2 _ := hr.mono (by decide)
    have r5 : Room 5 _ := hr.mono (by decide)
    have r6 : Room 6 _ := hr.mono (by decide)
    have nd := sc_law.nd
    refine ⟨_, pss_cons (ps_for PassesOwn.never rfl (pi_list (pe_op op_cat (pe_lst (pa_cons pe_int pa_nil)) (pe_slice sl_list (pv 0) po_none (po_some pe_int)))) (pg_name (i := 1) nd rfl (Or.inl rfl))
        (pss_cons (ps_set (i := 2) nd rfl (Or.inr rfl) (pe_call GW r1 rfl L.well.g L.well.F.kp L.well.b .nil pass0 (pa_cons (pv 1) pa_nil)))
        (pss_cons (ps_set (i := 3) nd rfl (Or.inr rfl) (pe_call GN r2 rfl L.nms.g L.nms.F.kp L.nms.b .nil pass0 (pa_cons (pv 2) (pa_cons (pe_call GD r1 rfl L.draw.g L.draw.F.kp L.draw.b .nil pass0 (pa_cons (pv 2) (pa_cons pe_int pa_nil))) pa_nil))))
        (pss_cons (ps_setLc (i := 6) (own := [("_law_k", 4)]) (g := gName 4) (tt := tYes) (te := tCB (rTu K) (tCons (tLc (iList K (tVar 3)) (gName 5) tYes teVal [5]) tNil)) (by rfl) nd rfl rfl (sw_true rfl rfl rfl (by decide +kernel)) (pi_range1 rfl B.range (pa_cons (pe_call GD r1 rfl L.draw.g L.draw.F.kp L.draw.b .nil pass0 (pa_cons (pv 2) (pa_cons pe_int pa_nil))) pa_nil))
            (blkOk_by (N := N_law) (sc := defScope s_law) (by decide +kernel)) (fun _ _ _ _ _ => pg_name (i := 4) nd rfl (Or.inl rfl)) (fun _ _ _ _ _ => pts_nil)
            (fun _ _ _ _ _ => pe_callTy call_tu (by rfl) B.tuple boot_tuple (pa_cons (pe_lc (own := [("_law_name", 5)]) (g := gName 5) (tt := tYes) (te := teVal) rfl nd (pi_list (pv 3))
              (blkOk_by (N := N_law) (sc := scIn) (by decide +kernel)) (fun _ _ _ _ _ => pg_name (i := 5) nd rfl (Or.inl rfl)) (fun _ _ _ _ _ => pts_nil)
              (fun _ _ _ _ _ => pe_call GV r2 rfl L.val.g L.val.F.kp L.val.b .nil pass0 (pa_cons (pv 2) pa_nil))) pa_nil)))
        (pss_cons (ps_set (i := 7) nd rfl (Or.inl rfl) (pe_make D.iM GI r5 rfl c.g D.iB .nil pass0 (pa_cons (pv 3) (pa_cons (pe_op op_cat (pv 6) (pe_slice sl_list (pv 6) po_none (po_some pe_int))) pa_nil))))
        (pss_cons (ps_set (i := 8) nd rfl (Or.inl rfl) (pe_call GT r1 rfl L.txt.g L.txt.F.kp L.txt.b .nil pass0 (pa_cons (pv 3) (pa_cons (pv 6) pa_nil))))
        (pss_cons (ps_set (i := 9) nd rfl (Or.inl rfl) (pe_call GR r6 rfl L.rea.g L.rea.F.kp L.rea.b .nil passL (pa_cons (pv 8) pa_nil)))
        (pss_cons (ps_if (PW.pt (pw_or (pt_cmpR op_ne (pe_call GH r2 rfl L.sho.g L.sho.F.kp L.sho.b .nil pass0 (pa_cons (pv 7) pa_nil)) (pv 8) (nomark _))
            (pw_or (pt_not (pt_val (pe_callB call_isi (by rfl) B.isi boot_isinstance (pa_cons (pv 9) (pa_cons (pe_glob (v := .ref C) (by rfl) c.g rfl) pa_nil)))))
            (pw_or1 (pt_cmpR (op_neOwn GE c.ins.hm D.ne D.eq.me.at_ D.eq.me.fn D.eq.b pass0 r2) (pv 9) (pv 7) (nomark _)))))) (pss_one (ps_ret pe_bl)) pss_nil)
        (pss_cons (ps_if (PW.pt (pw_or (pt_cmpR (op_neD hu64) (pe_meth0 (pv 9) c.cl D.cols.me GC r1 D.cols.b .nil pass0) (pv 3) (nomark _))
            (pw_or1 (pt_cmpR (op_neD hu64) (pe_meth0 (pv 9) c.cl D.rows.me GO r1 D.rows.b .nil pass0) (pe_callB (TB.cr_sortedS rfl) (by rfl) B.sorted boot_sorted (pa_cons (pe_callTy (cr_setOfT rfl hu64) (by rfl) T.set boot_set (pa_cons (pv 6) pa_nil)) pa_nil)) (nomark _))))) (pss_one (ps_ret pe_bl)) pss_nil)
        (pss_cons (ps_set (i := 10) nd rfl (Or.inl rfl) (pe_call GP r2 rfl L.spo.g L.spo.F.kp L.spo.b .nil pass0 (pa_cons (pv 2) (pa_cons (pv 8) pa_nil))))
        (pss_cons (ps_for PassesOwn.never rfl (pi_list (pe_lst (pa_cons (pv 10) (pa_cons (pe_call GP r2 rfl L.spo.g L.spo.F.kp L.spo.b .nil pass0 (pa_cons (pv 2) (pa_cons (pv 10) pa_nil)))
            (pa_cons (pe_op op_add_str (pv 8) pe_str) (pa_cons (pe_op op_add_str (pv 8) pe_str) pa_nil)))))) (pg_name (i := 11) nd rfl (Or.inl rfl))
          (pss_cons (ps_set (i := 12) nd rfl (Or.inl rfl) (pe_call GS r2 rfl L.sto.g L.sto.F.kp L.sto.b .nil pass0 (pa_cons (pv 11) pa_nil)))
          (pss_cons (ps_set (i := 13) nd rfl (Or.inl rfl) (pe_tup (pa_cons pe_str (pa_cons (pv 12) (pa_cons pe_bl pa_nil)))))
          (pss_cons (ps_if (pt_cmpR op_isN (pv 12) pe_non rfl) (pss_one (ps_set (i := 13) nd rfl (Or.inl rfl) (pe_tup (pa_cons pe_str (pa_cons (pv 11) pa_nil))))) pss_nil)
          (pss_one (ps_if (pt_cmpR (op_neD hu64) (pe_call GA hr rfl L.ans.g L.ans.F.kp L.ans.b .nil pass0 (pa_cons (pv 11) pa_nil)) (pv 13) (nomark _)) (pss_one (ps_ret pe_bl)) pss_nil))))))
        (pss_cons (ps_set (i := 14) nd rfl (Or.inl rfl) (pe_ix ix_list (pe_lst (pa_cons pe_non (pa_cons pe_int (pa_cons (pe_lst (pa_cons pe_str pa_nil)) (pa_cons (pe_tup (pa_cons pe_str pa_nil)) (pa_cons pe_bl (pa_cons pe_dnewK pa_nil)))))))
            (pe_call GD r1 rfl L.draw.g L.draw.F.kp L.draw.b .nil pass0 (pa_cons (pv 2) (pa_cons pe_int pa_nil))) (fun _ _ => rfl)))
        (pss_one (ps_if (pt_cmpR (op_neD hu64) (pe_call GA hr rfl L.ans.g L.ans.F.kp L.ans.b .nil pass0 (pa_cons (pv 14) pa_nil)) (pe_tup (pa_cons pe_str (pa_cons (pe_un un_neg pe_int) (pa_cons pe_bl pa_nil)))) (nomark _)) (pss_one (ps_ret pe_bl)) pss_nil))))))))))))))
      (pss_one (ps_ret pe_bl)), ?_⟩
    refine ⟨by decide, fun p1 n1 => ?_⟩
    have hS1 : SqL K (upd H p1 (.lst [.int 0])) a (ns.map V.int) := (Same.new n1).seq hS
    refine ⟨_, rfl, _, rfl, a, _, rfl, hS1, fun p2 n2 => ?_⟩
    obtain ⟨ms, ems, lms⟩ : ∃ ms : List Int, cutV (ns.map V.int) none (some 12) = ms.map V.int ∧ ms.length ≤ 12 := by
      refine ⟨(ns.drop (HT.sIx ns.length 0 none)).take (HT.sIx ns.length ns.length (some 12) - HT.sIx ns.length 0 none), ?_, ?_⟩
      · unfold cutV
        rw [List.length_map, List.map_take, List.map_drop]
      · rw [List.length_take, HT.sIx_none, show (some (12 : Int)) = some ((12 : Nat) : Int) from rfl, HT.sIx_nat]
        omega
    have e1 : upd (upd H p1 (.lst [.int 0])) p2 (.lst (cutV (ns.map V.int) none (some 12))) p1 = some (.lst [.int 0]) := by rw [upd_ne (ne_of_none upd_same n2)]; exact upd_same
    refine ⟨p1, p2, _, _, rfl, rfl, e1, upd_same, ?_, fun p3 n3 => ?_⟩
    · rw [ems, List.length_map]
      show 1 + _ ≤ sizeLine
      exact line100 (by omega)
    rw [ems] at n3 ⊢
    have e3 : upd (upd (upd H p1 (.lst [.int 0])) p2 (.lst (ms.map V.int))) p3 (.lst ([V.int 0] ++ ms.map V.int)) p3 = some (.lst ((0 :: ms).map V.int)) := upd_same
    generalize upd (upd (upd H p1 (.lst [.int 0])) p2 (.lst (ms.map V.int))) p3 (.lst ([V.int 0] ++ ms.map V.int)) = H3 at e3 ⊢
    refine ⟨p3, rfl, ⟨_, .of e3⟩, ?_⟩
    refine for_it (walk_list (xs := (0 :: ms).map V.int)) (fun i σ h => ∃ (v1 v2 v3 v6 v7 v8 v9 v10 v11 v12 v13 v14 : Option V), σ = [some (.ref a), v1, v2, v3, none, none, v6, v7, v8, v9, v10, v11, v12, v13, v14] ∧ h p3 = some (.lst ((0 :: ms).map V.int)))
      ⟨none, none, none, none, none, none, none, none, none, none, none, none, rfl, e3⟩ (fun i σ h _ ⟨_, _, _, _, _, _, _, _, _, _, _, _, _, z⟩ => .of z) ?_ ?_
    · rintro i x σ h h' hi ⟨v1, v2, v3, v6, v7, v8, v9, v10, v11, v12, v13, v14, rfl, e4⟩ ⟨rfl, hx⟩
      rw [List.length_map] at hi
      obtain ⟨cell, rfl⟩ : ∃ c : Int, x = V.int c := by
        rw [List.getElem?_map, List.getElem?_eq_getElem hi] at hx
        exact ⟨_, (Option.some.inj hx).symm⟩
      refine ⟨_, rfl, cell, rfl, fun H1 W s1 nW wW => ?_⟩
      have sold : ∀ {Hx : Hp}, Sm W H1 Hx → Same h' Hx := fun sm b o eb => sm b o (ne_of_none eb nW) (s1 _ _ eb)
      refine ⟨_, rfl, _, rfl, W, 9, 99999, rfl, by decide, by decide, wW, fun H2 d1 hd1 s2 w2 => ?_⟩
      refine ⟨W, d1, 99990, rfl, by omega, w2.mono (by decide), fun H3 Nn ns s3 w3 nNn NnW eNn lns cs => ?_⟩
      have m3 : Sm W H1 H3 := s2.trans s3
      dsimp only [gName]
      refine sq_asg ?_
      refine rd_rows (K := K) (m := 99000) cs.le (w3.mono (by decide)) NnW eNn rfl rfl fun H4 Rl as rs s4 w4 nRl RlW eRl hRs rok rfew => ?_
      have m4 := m3.trans s4
      have eNn4 := s4 _ _ NnW eNn
      have hal := hRs.len
      -- the table
      refine ⟨_, rfl, _, rfl, _, rfl, _, rfl, Rl, _, rfl, .of eRl, fun R2 n2 => ?_⟩
      have k1 : upd H4 R2 (.lst (cutV (as.map V.ref) none (some 2))) Rl = some (.lst (as.map V.ref)) := by rw [upd_ne (ne_of_none eRl n2)]; exact eRl
      have k2 : upd H4 R2 (.lst (cutV (as.map V.ref) none (some 2))) R2 = some (.lst ((as.take 2).map V.ref)) := by
        rw [upd_same, show (some (2 : Int)) = some ((2 : Nat) : Int) from rfl, cut_take, List.map_take]
      have k3 : Same H4 (upd H4 R2 (.lst (cutV (as.map V.ref) none (some 2)))) := Same.new n2
      generalize upd H4 R2 (.lst (cutV (as.map V.ref) none (some 2))) = H5 at k1 k2 k3 ⊢
      refine ⟨Rl, R2, _, _, rfl, rfl, k1, k2, ?_, fun R3 n3 => ?_⟩
      · rw [List.length_map, List.length_map, List.length_take]
        exact line100 (by omega)
      have k4 : upd H5 R3 (.lst (as.map V.ref ++ (as.take 2).map V.ref)) R3 = some (.lst ((as ++ as.take 2).map V.ref)) := by rw [upd_same, List.map_append]
      have k5 : Same H4 (upd H5 R3 (.lst (as.map V.ref ++ (as.take 2).map V.ref))) := k3.trans (Same.new n3)
      generalize upd H5 R3 (.lst (as.map V.ref ++ (as.take 2).map V.ref)) = H6 at k4 k5 ⊢
      refine fun x dx nx ndx hne => ?_
      have sx : Same H6 (upd (upd H6 dx (.own x)) x (.ins C dx [])) := fun c o e => by rw [upd_ne (ne_of_none e nx), upd_ne (ne_of_none e ndx)]; exact e
      have nrl := norm_len rs
      have hR6 := (hRs.same k5).same sx
      refine ⟨x, Nn, dx, .ref R3, ns, as ++ as.take 2, rs ++ rs.take 2, rfl, upd_same, sx _ _ (k5 _ _ eNn4), cs, .inr ⟨R3, rfl, sx _ _ k4, pr_app hR6 (pr_take hR6 2)⟩, ⟨fun r hr => ?_, ?_⟩, fun H7 tb keep => ⟨rfl, ?_⟩⟩
      · rcases List.mem_append.mp hr with hr | hr
        · exact (rok r hr).1
        · exact (rok r (List.mem_of_mem_take hr)).1
      · rw [List.length_append, List.length_take]
        omega
      rw [norm_more] at tb
      have s7 : Same H4 H7 := k5.trans fun c o e => keep c o (ne_of_none e nx) (sx _ _ e)
      have w7 := w4.same s7
      have m7 := m4.trans (.of s7)
      have eNn7 := s7 _ _ eNn4
      have eRl7 := s7 _ _ eRl
      have hR7 := hRs.same s7
      have tb7 : Tb C H7 x ns (norm rs) := ⟨tb, cs, fun r hr => rok r (mem_norm.mp hr), by omega, rise_norm rs⟩
      clear s1 s2 s3 s4 w2 w3 w4 m3 m4 k1 k2 k3 k4 k5 sx hR6 keep nx ndx hne n2 n3 tb eNn eNn4 eRl hRs nRl nNn
      -- the text due
      refine ⟨_, rfl, _, rfl, Nn, Rl, ns, as, rs, rfl, eNn7, cs, eRl7, hR7, rok, by omega, fun H8 s8 => ?_⟩
      obtain ⟨x1, x2, x3⟩ := read_shown cs (rise_norm rs) (fun r hr => rok r (mem_norm.mp hr))
      have xl := shown_len cs tb7.len tb7.few
      have xn : nl (shown ns (norm rs)) ≤ 7 := by
        have a := lines_count (shown ns (norm rs))
        rw [shown_lines cs.ok, List.length_cons, List.length_map] at a
        omega
      have xll := lines_count (shown ns (norm rs))
      have tb8 := tb7.same s8
      generalize eX : shown ns (norm rs) = X at *
      -- read
      refine ⟨_, rfl, .str X, "str", true, rfl, .str X, by decide +kernel, (fun z => nomatch z), fun _ => ⟨X, rfl, by omega, by omega, fun _ H9 p s9 tp => ?_, fun i z => by rw [x1] at z; cases z⟩⟩
      rw [x2, x3] at tp
      have t9 := s8.trans s9
      obtain ⟨dxp, lp, rp, asp, hp1, _, _, _⟩ := id tp.at_
      refine ⟨_, rfl, x, ns, norm rs, rfl, tb8.same s9, fun H10 s10 => ⟨_, rfl, rfl, _, rfl, ?_⟩⟩
      rw [eX, decide_eq_true rfl, Bool.not_true]
      dsimp only
      rw [if_neg Bool.false_ne_true]
      refine ⟨_, rfl, _, _, _, _, true, rfl, .own C, .base (.ins (s10 _ _ hp1) c.cl c.ins.ha c.ins.hn c.ins.htk c.ins.hm), c.ins.me, _, rfl, ?_⟩
      refine ⟨_, rfl, _, rfl, own_eqB D (tp.same s10).at_ ((tb8.same s9).same s10).at_ cs.ok cs.ok fun H11 s11 => ⟨_, rfl, ?_⟩⟩
      rw [if_pos rfl, decide_eq_true rfl, decide_eq_true rfl]
      show (if (!(true && true)) = true then _ else _)
      rw [if_neg (by decide)]
      have t11 : Same H7 H11 := (t9.trans s10).trans s11
      have u11 : Same H9 H11 := s10.trans s11
      refine ⟨_, rfl, p, dxp, _, rfl, u11 _ _ hp1, nocols _ _, p, ns, _, rfl, tp.at_.same u11, fun H12 a1 s12 n12 e12 => ?_⟩
      have t12 := t11.trans s12
      have u12 := u11.trans s12
      refine ⟨_, rfl, _, _, DpS e12, DpS (t12 _ _ eNn7), shS cs.ok, shS cs.ok, _, rfl, ?_⟩
      rw [eqv_dS, decide_eq_true rfl]
      refine ⟨_, rfl, p, dxp, _, rfl, u12 _ _ hp1, norows _ _, p, ns, _, rfl, tp.at_.same u12, fun H13 a2 as2 s13 n13 e13 r13 => ?_⟩
      have t13 := t12.trans s13
      refine ⟨_, rfl, ?_⟩
      dsimp -proj only [tNil]
      refine set_sorted (t13 _ _ eRl7) (hR7.same t13) (fun r hr => (rok r hr).1) (by omega) fun H14 a3 as3 s14 n14 e14 r14 => ?_
      have t14 := t13.trans s14
      refine ⟨_, _, DpRows (s14 _ _ e13) (r13.same s14), DpRows e14 r14, shRows _, shRows _, _, rfl, ?_⟩
      rw [eqv_dR, decide_eq_true rfl]
      have w14 := w7.same t14
      have m14 := m7.trans (.of t14)
      clear s8 s9 s10 s11 s12 s13 s14 t9 t11 t12 t13 u11 u12 e12 e13 e14 r13 r14 n12 n13 n14 hp1 tp tb8
      -- spoilt
      refine ⟨_, rfl, _, rfl, W, X, 90000, rfl, by omega, w14.mono (by decide), fun H15 y1 s15 w15 l1 nl1 => ?_⟩
      refine ⟨_, rfl, _, rfl, _, rfl, W, y1, 80000, rfl, by omega, w15.mono (by decide), fun H16 y2 s16 w16 l2 nl2 => ?_⟩
      have k1 : (Str.ofString "\n").length = 1 := by decide +kernel
      have k2 : (Str.ofString "\n9").length = 2 := by decide +kernel
      have k3 : nl (Str.ofString "\n") = 1 := by decide +kernel
      have k4 : nl (Str.ofString "\n9") = 1 := by decide +kernel
      refine ⟨_, rfl, _, _, rfl, rfl, sml (by omega), _, rfl, _, _, rfl, rfl, sml (by omega), ?_⟩
      refine ⟨by show 4 ≤ sizeLine; decide, fun O nO => ?_⟩
      have eO : upd H16 O (.lst [.str y1, .str y2, .str (X ++ Str.ofString "\n"), .str (X ++ Str.ofString "\n9")]) O = some (.lst ([y1, y2, X ++ Str.ofString "\n", X ++ Str.ofString "\n9"].map V.str)) := upd_same
      have w17 := w16.new (o := .lst [.str y1, .str y2, .str (X ++ Str.ofString "\n"), .str (X ++ Str.ofString "\n9")]) nO
      have m17 := ((m14.trans s15).trans s16).new (o := .lst [.str y1, .str y2, .str (X ++ Str.ofString "\n"), .str (X ++ Str.ofString "\n9")]) nO
      have lo : ∀ z ∈ [y1, y2, X ++ Str.ofString "\n", X ++ Str.ofString "\n9"], z.length ≤ 900000 ∧ (linesT z).length ≤ 60 := by
        intro z hz
        rw [lines_count]
        simp only [List.mem_cons, List.not_mem_nil, or_false] at hz
        rcases hz with rfl | rfl | rfl | rfl
        · omega
        · omega
        · rw [sapp_len, nl_app]; omega
        · rw [sapp_len, nl_app]; omega
      generalize [y1, y2, X ++ Str.ofString "\n", X ++ Str.ofString "\n9"] = ones at eO lo
      generalize upd H16 O (.lst [.str y1, .str y2, .str (X ++ Str.ofString "\n"), .str (X ++ Str.ofString "\n9")]) = H17 at eO w17 m17 ⊢
      have e47 : H17 p3 = some (.lst ((0 :: ms).map V.int)) := sold m17 _ _ e4
      refine ⟨O, rfl, ⟨_, .of eO⟩, ?_⟩
      refine for_it (walk_list (xs := ones.map V.str)) (fun k σ h => ∃ (u11 u12 u13 u14 : Option V), σ = [some (.ref a), some (.int cell), some (.ref W), some (.ref Nn), none, none, some (.ref Rl), some (.ref x), some (.str X), some (.ref p), some (.str y1), u11, u12, u13, u14] ∧ Same H17 h)
        ⟨_, _, _, _, rfl, same_rfl⟩ (fun k σ h _ ⟨_, _, _, _, _, sz⟩ => .of (sz _ _ eO)) ?_ ?_
      · rintro k z σ h1 h2 hk ⟨u4, u5, u6, u7, rfl, sk⟩ ⟨rfl, hz⟩
        rw [List.length_map] at hk
        obtain ⟨y, hy, rfl⟩ : ∃ y, y ∈ ones ∧ z = V.str y := by
          rw [List.getElem?_map, List.getElem?_eq_getElem hk] at hz
          exact ⟨_, List.getElem_mem hk, (Option.some.inj hz).symm⟩
        have ly := lo y hy
        refine ⟨_, rfl, y, rfl, ly.1, ly.2, fun h3 s3' => ?_⟩
        refine ⟨_, rfl, by show 3 ≤ sizeLine; decide, fun T1 nT1 => ?_⟩
        have s4' : Same h2 (upd h3 T1 (.tup [.str "refused", optS (stopX y), .bl false])) := s3'.trans (Same.new nT1)
        have e4' : upd h3 T1 (.tup [.str "refused", optS (stopX y), .bl false]) T1 = some (.tup [.str "refused", optS (stopX y), .bl false]) := upd_same
        have s4' := sk.trans s4'
        refine ⟨_, rfl, rfl, _, rfl, ?_⟩
        generalize upd h3 T1 (.tup [.str "refused", optS (stopX y), .bl false]) = h4 at s4' e4' ⊢
        cases he : stopX y with
        | none =>
          refine ⟨_, rfl, two_le, fun T2 nT2 => ?_⟩
          refine ⟨_, rfl, .str y, "str", true, rfl, .str y, by decide +kernel, (fun z => nomatch z), fun _ => ⟨y, rfl, ly.1, ly.2, fun _ h5 T s5 e5 => ?_, fun i z => by rw [he] at z; cases z⟩⟩
          have e6 : h5 T2 = some (.tup [.str "read", .str y]) := s5 _ _ upd_same
          have cl : PyData.canLay0 (.tuple [.str "read", .str y]) = true := can2 (by decide +kernel) (stop_ok he)
          have sh : SeqAt.shaped (.tuple [.str "read", .str y]) = true := shaped_of cl (by show 1 ≤ 64; decide)
          refine ⟨_, rfl, _, _, Dp_tup e5 rfl, Dp_tup e6 rfl, sh, sh, _, rfl, ?_⟩
          rw [eqv_same (d := .tuple ([V.str "read", V.str y].map dV)) cl rfl]
          exact ⟨_, _, _, _, rfl, s4'.trans ((Same.new nT2).trans s5)⟩
        | some i =>
          refine ⟨_, rfl, .str y, "str", true, rfl, .str y, by decide +kernel, (fun z => nomatch z), fun _ => ⟨y, rfl, ly.1, ly.2, (fun z => by rw [he] at z; cases z), fun j z h5 T s5 e5 => ?_⟩⟩
          rw [he] at z e4'
          obtain rfl := Option.some.inj z
          have e6 : h5 T1 = some (.tup [.str "refused", .int (i : Int), .bl false]) := s5 _ _ e4'
          have cl : PyData.canLay0 (.tuple [.str "refused", .int (i : Int), .bool false]) = true := can3 (by decide +kernel) (can_int _) (can_bl _)
          have sh : SeqAt.shaped (.tuple [.str "refused", .int (i : Int), .bool false]) = true := shaped_of cl (by show 1 ≤ 64; decide)
          refine ⟨_, rfl, _, _, Dp_tup e5 rfl, Dp_tup e6 rfl, sh, sh, _, rfl, ?_⟩
          rw [eqv_same (d := .tuple ([V.str "refused", V.int (i : Int), V.bl false].map dV)) cl rfl]
          exact ⟨_, _, _, _, rfl, s4'.trans s5⟩
      · rintro σ h1 ⟨u4, u5, u6, u7, rfl, sk⟩
        have w8 := w17.same sk
        refine ⟨by show 1 ≤ sizeLine; decide, fun o1 n1 => ⟨by show 1 ≤ sizeLine; decide, fun o2 n2 => ?_⟩⟩
        refine fun o3 n3 => ⟨by show 6 ≤ sizeLine; decide, fun O2 nO2 => ?_⟩
        have k1 : upd h1 o1 (.lst [.str "a"]) o1 = some (.lst [.str "a"]) := upd_same
        have m1 : Same h1 (upd h1 o1 (.lst [.str "a"])) := Same.new n1
        generalize upd h1 o1 (.lst [.str "a"]) = g1 at k1 m1 n2 n3 nO2 ⊢
        have k2 : upd g1 o2 (.tup [.str "a"]) o2 = some (.tup [.str "a"]) := upd_same
        have m2 : Same g1 (upd g1 o2 (.tup [.str "a"])) := Same.new n2
        generalize upd g1 o2 (.tup [.str "a"]) = g2 at k2 m2 n3 nO2 ⊢
        have k3 : upd g2 o3 (.dK []) o3 = some (.dK []) := upd_same
        have m3 : Same g2 (upd g2 o3 (.dK [])) := Same.new n3
        generalize upd g2 o3 (.dK []) = g3 at k3 m3 nO2 ⊢
        have k4 : upd g3 O2 (.lst [.non, .int 7, .ref o1, .ref o2, .bl true, .ref o3]) O2 = some (.lst [.non, .int 7, .ref o1, .ref o2, .bl true, .ref o3]) := upd_same
        have m4 : Same g3 (upd g3 O2 (.lst [.non, .int 7, .ref o1, .ref o2, .bl true, .ref o3])) := Same.new nO2
        have nn1 : W ≠ o1 := w8.ne n1
        have nn2 : W ≠ o2 := (w8.same m1).ne n2
        have nn3 : W ≠ o3 := (w8.same (m1.trans m2)).ne n3
        have nn4 : W ≠ O2 := (w8.same ((m1.trans m2).trans m3)).ne nO2
        have w9 := w8.same (((m1.trans m2).trans m3).trans m4)
        have m14' := ((m1.trans m2).trans m3).trans m4
        have k1' := ((m2.trans m3).trans m4) _ _ k1
        have k2' := (m3.trans m4) _ _ k2
        have k3' := m4 _ _ k3
        generalize upd g3 O2 (.lst [.non, .int 7, .ref o1, .ref o2, .bl true, .ref o3]) = g4 at k4 m14' w9 k1' k2' k3' ⊢
        refine ⟨_, rfl, W, 6, 60000, rfl, by decide, by decide, w9.mono (by decide), fun g5 r hr5 s9 w10 => ?_⟩
        have q1 := s9 _ _ nn1.symm k1'
        have q2 := s9 _ _ nn2.symm k2'
        have q3 := s9 _ _ nn3.symm k3'
        have q4 := s9 _ _ nn4.symm k4
        have fin3 : ∀ g, Same g5 g → g p3 = some (.lst ((0 :: ms).map V.int)) := fun g s => s _ _ (((Sm.of (W := W) (sk.trans m14')).trans s9) _ _ (ne_of_none e4 nW) e47)
        obtain ⟨v, t, hat, hty, hk⟩ : ∃ v t, atI [V.non, .int 7, .ref o1, .ref o2, .bl true, .ref o3] (r : Int) = some v ∧ TyOf K g5 v (.type t) ∧ kitB t "str" = some false := by
          match r, hr5 with
          | 0, _ => exact ⟨_, "NoneType", rfl, .non, by decide +kernel⟩
          | 1, _ => exact ⟨_, "int", rfl, .int _, by decide +kernel⟩
          | 2, _ => exact ⟨_, "list", rfl, .lst q1, by decide +kernel⟩
          | 3, _ => exact ⟨_, "tuple", rfl, .tup q2, by decide +kernel⟩
          | 4, _ => exact ⟨_, "bool", rfl, .bl _, by decide +kernel⟩
          | 5, _ => exact ⟨_, "dict", rfl, .dK q3, by decide +kernel⟩
          | n + 6, z => exact absurd z (by omega)
        refine ⟨O2, _, _, _, rfl, rfl, .of q4, hat, ?_⟩
        refine ⟨_, rfl, v, t, false, rfl, hty, hk, fun _ g6 T s10 eT => ?_, fun z => nomatch z⟩
        refine ⟨_, rfl, by show 3 ≤ sizeLine; decide, fun T2 nT2 => ?_⟩
        have cl : PyData.canLay0 (.tuple [.str "refused", .int (-1), .bool false]) = true := can3 (by decide +kernel) (can_int _) (can_bl _)
        have sh : SeqAt.shaped (.tuple [.str "refused", .int (-1), .bool false]) = true := shaped_of cl (by show 1 ≤ 64; decide)
        refine ⟨_, _, Dp_tup ((Same.new nT2) _ _ eT) rfl, Dp_tup upd_same rfl, sh, sh, _, rfl, ?_⟩
        rw [eqv_same (d := .tuple ([V.str "refused", V.int (-1), V.bl false].map dV)) cl rfl]
        exact ⟨_, _, _, _, _, _, _, _, _, _, _, _, rfl, fin3 _ (s10.trans (Same.new nT2))⟩
    · rintro σ h ⟨v1, v2, v3, v6, v7, v8, v9, v10, v11, v12, v13, v14, rfl, e4⟩
      exact q h
end
end T89

set_option maxHeartbeats 4000000
namespace T89
open PySem L2 PyProof.Rows TX TY TW TD TB TG TUD TE TK TL TLL TES TNN TAM
theorem all_mk {l : PySem.W.OpenLaw} {w : World} {K : PySem.W.Frag} {h : Heap} {mg : Str → Option Value} {fa f_is_whole f_is_name f_are_columns f_is_row f__check_columns f__sorted_rows f_number_of f_numbers_of f_written f_show_table f_read_table f__check_text f__law_well f__law_draw f__law_names f__law_value f__law_text f__law_spoilt f__law_number f__law_stop f__law_answer f_law c_Table f_Table_columns f_Table_rows f_Table___eq__ f_Table___init__ d_Table___init__ c_NoColumns c_NoRow c_NoText f_NoText___init__ : Addr} (X : K.In h) (G : h.Ns mainGlobals mg) (hfa : mg "law" = some (.ref fa))
    {od1 an1 : Option Addr} {sl1 : Array (Option Value)} {oc1 kV1 dc1 pm1 cd1 ct1 : Value}
    {od2 an2 : Option Addr} {sl2 : Array (Option Value)} {oc2 kV2 dc2 pm2 cd2 ct2 : Value}
    {od3 an3 : Option Addr} {sl3 : Array (Option Value)} {oc3 kV3 dc3 pm3 cd3 ct3 : Value}
    {od4 an4 : Option Addr} {sl4 : Array (Option Value)} {oc4 kV4 dc4 pm4 cd4 ct4 : Value}
    {od5 an5 : Option Addr} {sl5 : Array (Option Value)} {oc5 kV5 dc5 pm5 cd5 ct5 : Value}
    {od6 an6 : Option Addr} {sl6 : Array (Option Value)} {oc6 kV6 dc6 pm6 cd6 ct6 : Value}
    {od7 an7 : Option Addr} {sl7 : Array (Option Value)} {oc7 kV7 dc7 pm7 cd7 ct7 : Value}
    {od8 an8 : Option Addr} {sl8 : Array (Option Value)} {oc8 kV8 dc8 pm8 cd8 ct8 : Value}
    {od9 an9 : Option Addr} {sl9 : Array (Option Value)} {oc9 kV9 dc9 pm9 cd9 ct9 : Value}
    {od10 an10 : Option Addr} {sl10 : Array (Option Value)} {oc10 kV10 dc10 pm10 cd10 ct10 : Value}
    {od11 an11 : Option Addr} {sl11 : Array (Option Value)} {oc11 kV11 dc11 pm11 cd11 ct11 : Value}
    {od12 an12 : Option Addr} {sl12 : Array (Option Value)} {oc12 kV12 dc12 pm12 cd12 ct12 : Value}
    {od13 an13 : Option Addr} {sl13 : Array (Option Value)} {oc13 kV13 dc13 pm13 cd13 ct13 : Value}
    {od14 an14 : Option Addr} {sl14 : Array (Option Value)} {oc14 kV14 dc14 pm14 cd14 ct14 : Value}
    {od15 an15 : Option Addr} {sl15 : Array (Option Value)} {oc15 kV15 dc15 pm15 cd15 ct15 : Value}
    {od16 an16 : Option Addr} {sl16 : Array (Option Value)} {oc16 kV16 dc16 pm16 cd16 ct16 : Value}
    {od17 an17 : Option Addr} {sl17 : Array (Option Value)} {oc17 kV17 dc17 pm17 cd17 ct17 : Value}
    {od18 an18 : Option Addr} {sl18 : Array (Option Value)} {oc18 kV18 dc18 pm18 cd18 ct18 : Value}
    {od19 an19 : Option Addr} {sl19 : Array (Option Value)} {oc19 kV19 dc19 pm19 cd19 ct19 : Value}
    {od20 an20 : Option Addr} {sl20 : Array (Option Value)} {oc20 kV20 dc20 pm20 cd20 ct20 : Value}
    {od21 an21 : Option Addr} {sl21 : Array (Option Value)} {oc21 kV21 dc21 pm21 cd21 ct21 : Value}
    {od22 an22 : Option Addr} {sl22 : Array (Option Value)} {oc22 kV22 dc22 pm22 cd22 ct22 : Value}
    {od23 an23 : Option Addr} {sl23 : Array (Option Value)} {oc23 kV23 dc23 pm23 cd23 ct23 : Value}
    {od24 an24 : Option Addr} {sl24 : Array (Option Value)} {oc24 kV24 dc24 pm24 cd24 ct24 : Value}
    {od25 an25 : Option Addr} {sl25 : Array (Option Value)} {oc25 kV25 dc25 pm25 cd25 ct25 : Value}
    {od26 an26 dd26 : Option Addr} {sl26 ds26 : Array (Option Value)} {oc26 kV26 dc26 pm26 cd26 ct26 do26 : Value} {dn26 : Nat}
    {od27 an27 : Option Addr} {sl27 : Array (Option Value)} {oc27 kV27 dc27 pm27 cd27 ct27 : Value}
    {t_longest : Tok}
    {t_most : Tok}
    {t_figs : Tok}
    (a_is_whole : PySem.W.nsIn K mainGlobals "is_whole" = some (some (.ref f_is_whole)))
    (l_is_whole : K.lookup f_is_whole = some ⟨oc1, od1, .func (PySem.W.fnOf "is_whole" "is_whole" (defArgs s_is_whole) (defBody s_is_whole) (defScope s_is_whole) .none kV1 dc1 pm1 an1 cd1 ct1), sl1⟩)
    (o_is_whole : PySem.W.codeIn K cd1 "is_whole" = true)
    (k_is_whole : PySem.W.keepIn K (.ref f_is_whole) = true)
    (a_is_name : PySem.W.nsIn K mainGlobals "is_name" = some (some (.ref f_is_name)))
    (l_is_name : K.lookup f_is_name = some ⟨oc2, od2, .func (PySem.W.fnOf "is_name" "is_name" (defArgs s_is_name) (defBody s_is_name) (defScope s_is_name) .none kV2 dc2 pm2 an2 cd2 ct2), sl2⟩)
    (o_is_name : PySem.W.codeIn K cd2 "is_name" = true)
    (k_is_name : PySem.W.keepIn K (.ref f_is_name) = true)
    (a_are_columns : PySem.W.nsIn K mainGlobals "are_columns" = some (some (.ref f_are_columns)))
    (l_are_columns : K.lookup f_are_columns = some ⟨oc3, od3, .func (PySem.W.fnOf "are_columns" "are_columns" (defArgs s_are) (defBody s_are) (defScope s_are) .none kV3 dc3 pm3 an3 cd3 ct3), sl3⟩)
    (o_are_columns : PySem.W.codeIn K cd3 "are_columns" = true)
    (k_are_columns : PySem.W.keepIn K (.ref f_are_columns) = true)
    (a_is_row : PySem.W.nsIn K mainGlobals "is_row" = some (some (.ref f_is_row)))
    (l_is_row : K.lookup f_is_row = some ⟨oc4, od4, .func (PySem.W.fnOf "is_row" "is_row" (defArgs s_is_row) (defBody s_is_row) (defScope s_is_row) .none kV4 dc4 pm4 an4 cd4 ct4), sl4⟩)
    (o_is_row : PySem.W.codeIn K cd4 "is_row" = true)
    (k_is_row : PySem.W.keepIn K (.ref f_is_row) = true)
    (a__check_columns : PySem.W.nsIn K mainGlobals "_check_columns" = some (some (.ref f__check_columns)))
    (l__check_columns : K.lookup f__check_columns = some ⟨oc5, od5, .func (PySem.W.fnOf "_check_columns" "_check_columns" (defArgs s_cc) (defBody s_cc) (defScope s_cc) .none kV5 dc5 pm5 an5 cd5 ct5), sl5⟩)
    (o__check_columns : PySem.W.codeIn K cd5 "_check_columns" = true)
    (k__check_columns : PySem.W.keepIn K (.ref f__check_columns) = true)
    (a__sorted_rows : PySem.W.nsIn K mainGlobals "_sorted_rows" = some (some (.ref f__sorted_rows)))
    (l__sorted_rows : K.lookup f__sorted_rows = some ⟨oc6, od6, .func (PySem.W.fnOf "_sorted_rows" "_sorted_rows" (defArgs s_sorted) (defBody s_sorted) (defScope s_sorted) .none kV6 dc6 pm6 an6 cd6 ct6), sl6⟩)
    (o__sorted_rows : PySem.W.codeIn K cd6 "_sorted_rows" = true)
    (k__sorted_rows : PySem.W.keepIn K (.ref f__sorted_rows) = true)
    (a_number_of : PySem.W.nsIn K mainGlobals "number_of" = some (some (.ref f_number_of)))
    (l_number_of : K.lookup f_number_of = some ⟨oc7, od7, .func (PySem.W.fnOf "number_of" "number_of" (defArgs s_number) (defBody s_number) (defScope s_number) .none kV7 dc7 pm7 an7 cd7 ct7), sl7⟩)
    (o_number_of : PySem.W.codeIn K cd7 "number_of" = true)
    (k_number_of : PySem.W.keepIn K (.ref f_number_of) = true)
    (a_numbers_of : PySem.W.nsIn K mainGlobals "numbers_of" = some (some (.ref f_numbers_of)))
    (l_numbers_of : K.lookup f_numbers_of = some ⟨oc8, od8, .func (PySem.W.fnOf "numbers_of" "numbers_of" (defArgs s_numbers) (defBody s_numbers) (defScope s_numbers) .none kV8 dc8 pm8 an8 cd8 ct8), sl8⟩)
    (o_numbers_of : PySem.W.codeIn K cd8 "numbers_of" = true)
    (k_numbers_of : PySem.W.keepIn K (.ref f_numbers_of) = true)
    (a_written : PySem.W.nsIn K mainGlobals "written" = some (some (.ref f_written)))
    (l_written : K.lookup f_written = some ⟨oc9, od9, .func (PySem.W.fnOf "written" "written" (defArgs s_written) (defBody s_written) (defScope s_written) .none kV9 dc9 pm9 an9 cd9 ct9), sl9⟩)
    (o_written : PySem.W.codeIn K cd9 "written" = true)
    (k_written : PySem.W.keepIn K (.ref f_written) = true)
    (a_show_table : PySem.W.nsIn K mainGlobals "show_table" = some (some (.ref f_show_table)))
    (l_show_table : K.lookup f_show_table = some ⟨oc10, od10, .func (PySem.W.fnOf "show_table" "show_table" (defArgs s_show) (defBody s_show) (defScope s_show) .none kV10 dc10 pm10 an10 cd10 ct10), sl10⟩)
    (o_show_table : PySem.W.codeIn K cd10 "show_table" = true)
    (k_show_table : PySem.W.keepIn K (.ref f_show_table) = true)
    (a_read_table : PySem.W.nsIn K mainGlobals "read_table" = some (some (.ref f_read_table)))
    (l_read_table : K.lookup f_read_table = some ⟨oc11, od11, .func (PySem.W.fnOf "read_table" "read_table" (defArgs s_read) (defBody s_read) (defScope s_read) .none kV11 dc11 pm11 an11 cd11 ct11), sl11⟩)
    (o_read_table : PySem.W.codeIn K cd11 "read_table" = true)
    (k_read_table : PySem.W.keepIn K (.ref f_read_table) = true)
    (a__check_text : PySem.W.nsIn K mainGlobals "_check_text" = some (some (.ref f__check_text)))
    (l__check_text : K.lookup f__check_text = some ⟨oc12, od12, .func (PySem.W.fnOf "_check_text" "_check_text" (defArgs s_checkt) (defBody s_checkt) (defScope s_checkt) .none kV12 dc12 pm12 an12 cd12 ct12), sl12⟩)
    (o__check_text : PySem.W.codeIn K cd12 "_check_text" = true)
    (k__check_text : PySem.W.keepIn K (.ref f__check_text) = true)
    (a__law_well : PySem.W.nsIn K mainGlobals "_law_well" = some (some (.ref f__law_well)))
    (l__law_well : K.lookup f__law_well = some ⟨oc13, od13, .func (PySem.W.fnOf "_law_well" "_law_well" (defArgs s_well) (defBody s_well) (defScope s_well) .none kV13 dc13 pm13 an13 cd13 ct13), sl13⟩)
    (o__law_well : PySem.W.codeIn K cd13 "_law_well" = true)
    (k__law_well : PySem.W.keepIn K (.ref f__law_well) = true)
    (a__law_draw : PySem.W.nsIn K mainGlobals "_law_draw" = some (some (.ref f__law_draw)))
    (l__law_draw : K.lookup f__law_draw = some ⟨oc14, od14, .func (PySem.W.fnOf "_law_draw" "_law_draw" (defArgs s_draw) (defBody s_draw) (defScope s_draw) .none kV14 dc14 pm14 an14 cd14 ct14), sl14⟩)
    (o__law_draw : PySem.W.codeIn K cd14 "_law_draw" = true)
    (k__law_draw : PySem.W.keepIn K (.ref f__law_draw) = true)
    (a__law_names : PySem.W.nsIn K mainGlobals "_law_names" = some (some (.ref f__law_names)))
    (l__law_names : K.lookup f__law_names = some ⟨oc15, od15, .func (PySem.W.fnOf "_law_names" "_law_names" (defArgs s_names) (defBody s_names) (defScope s_names) .none kV15 dc15 pm15 an15 cd15 ct15), sl15⟩)
    (o__law_names : PySem.W.codeIn K cd15 "_law_names" = true)
    (k__law_names : PySem.W.keepIn K (.ref f__law_names) = true)
    (a__law_value : PySem.W.nsIn K mainGlobals "_law_value" = some (some (.ref f__law_value)))
    (l__law_value : K.lookup f__law_value = some ⟨oc16, od16, .func (PySem.W.fnOf "_law_value" "_law_value" (defArgs s_value) (defBody s_value) (defScope s_value) .none kV16 dc16 pm16 an16 cd16 ct16), sl16⟩)
    (o__law_value : PySem.W.codeIn K cd16 "_law_value" = true)
    (k__law_value : PySem.W.keepIn K (.ref f__law_value) = true)
    (a__law_text : PySem.W.nsIn K mainGlobals "_law_text" = some (some (.ref f__law_text)))
    (l__law_text : K.lookup f__law_text = some ⟨oc17, od17, .func (PySem.W.fnOf "_law_text" "_law_text" (defArgs s_text) (defBody s_text) (defScope s_text) .none kV17 dc17 pm17 an17 cd17 ct17), sl17⟩)
    (o__law_text : PySem.W.codeIn K cd17 "_law_text" = true)
    (k__law_text : PySem.W.keepIn K (.ref f__law_text) = true)
    (a__law_spoilt : PySem.W.nsIn K mainGlobals "_law_spoilt" = some (some (.ref f__law_spoilt)))
    (l__law_spoilt : K.lookup f__law_spoilt = some ⟨oc18, od18, .func (PySem.W.fnOf "_law_spoilt" "_law_spoilt" (defArgs s_spoilt) (defBody s_spoilt) (defScope s_spoilt) .none kV18 dc18 pm18 an18 cd18 ct18), sl18⟩)
    (o__law_spoilt : PySem.W.codeIn K cd18 "_law_spoilt" = true)
    (k__law_spoilt : PySem.W.keepIn K (.ref f__law_spoilt) = true)
    (a__law_number : PySem.W.nsIn K mainGlobals "_law_number" = some (some (.ref f__law_number)))
    (l__law_number : K.lookup f__law_number = some ⟨oc19, od19, .func (PySem.W.fnOf "_law_number" "_law_number" (defArgs s_lnumber) (defBody s_lnumber) (defScope s_lnumber) .none kV19 dc19 pm19 an19 cd19 ct19), sl19⟩)
    (o__law_number : PySem.W.codeIn K cd19 "_law_number" = true)
    (k__law_number : PySem.W.keepIn K (.ref f__law_number) = true)
    (a__law_stop : PySem.W.nsIn K mainGlobals "_law_stop" = some (some (.ref f__law_stop)))
    (l__law_stop : K.lookup f__law_stop = some ⟨oc20, od20, .func (PySem.W.fnOf "_law_stop" "_law_stop" (defArgs s_stop) (defBody s_stop) (defScope s_stop) .none kV20 dc20 pm20 an20 cd20 ct20), sl20⟩)
    (o__law_stop : PySem.W.codeIn K cd20 "_law_stop" = true)
    (k__law_stop : PySem.W.keepIn K (.ref f__law_stop) = true)
    (a__law_answer : PySem.W.nsIn K mainGlobals "_law_answer" = some (some (.ref f__law_answer)))
    (l__law_answer : K.lookup f__law_answer = some ⟨oc21, od21, .func (PySem.W.fnOf "_law_answer" "_law_answer" (defArgs s_answer) (defBody s_answer) (defScope s_answer) .none kV21 dc21 pm21 an21 cd21 ct21), sl21⟩)
    (o__law_answer : PySem.W.codeIn K cd21 "_law_answer" = true)
    (k__law_answer : PySem.W.keepIn K (.ref f__law_answer) = true)
    (a_law : PySem.W.nsIn K mainGlobals "law" = some (some (.ref f_law)))
    (l_law : K.lookup f_law = some ⟨oc22, od22, .func (PySem.W.fnOf "law" "law" (defArgs s_law) (defBody s_law) (defScope s_law) .none kV22 dc22 pm22 an22 cd22 ct22), sl22⟩)
    (o_law : PySem.W.codeIn K cd22 "law" = true)
    (k_law : PySem.W.keepIn K (.ref f_law) = true)
    (a_Table : PySem.W.nsIn K mainGlobals "Table" = some (some (.ref c_Table)))
    (a_Table_columns : PySem.W.findIn K (.ref c_Table) "columns" = some (some (.ref f_Table_columns)))
    (i_Table_columns : PySem.W.isFn K (.ref f_Table_columns) = true)
    (l_Table_columns : K.lookup f_Table_columns = some ⟨oc23, od23, .func (PySem.W.fnOf "columns" "Table.columns" (defArgs s_bcolumns) (defBody s_bcolumns) (defScope s_bcolumns) .none kV23 dc23 pm23 an23 cd23 ct23), sl23⟩)
    (o_Table_columns : PySem.W.codeIn K cd23 "Table.columns" = true)
    (k_Table_columns : PySem.W.keepIn K (.ref f_Table_columns) = true)
    (a_Table_rows : PySem.W.findIn K (.ref c_Table) "rows" = some (some (.ref f_Table_rows)))
    (i_Table_rows : PySem.W.isFn K (.ref f_Table_rows) = true)
    (l_Table_rows : K.lookup f_Table_rows = some ⟨oc24, od24, .func (PySem.W.fnOf "rows" "Table.rows" (defArgs s_brows) (defBody s_brows) (defScope s_brows) .none kV24 dc24 pm24 an24 cd24 ct24), sl24⟩)
    (o_Table_rows : PySem.W.codeIn K cd24 "Table.rows" = true)
    (k_Table_rows : PySem.W.keepIn K (.ref f_Table_rows) = true)
    (a_Table___eq__ : PySem.W.findIn K (.ref c_Table) "__eq__" = some (some (.ref f_Table___eq__)))
    (i_Table___eq__ : PySem.W.isFn K (.ref f_Table___eq__) = true)
    (l_Table___eq__ : K.lookup f_Table___eq__ = some ⟨oc25, od25, .func (PySem.W.fnOf "__eq__" "Table.__eq__" (defArgs s_beq) (defBody s_beq) (defScope s_beq) .none kV25 dc25 pm25 an25 cd25 ct25), sl25⟩)
    (o_Table___eq__ : PySem.W.codeIn K cd25 "Table.__eq__" = true)
    (k_Table___eq__ : PySem.W.keepIn K (.ref f_Table___eq__) = true)
    (pg_Table : PySem.W.plainGet K c_Table Str.empty = true)
    (hd_Table : PySem.W.hasDictIn K c_Table = true)
    (po_Table : PySem.W.plainOver K c_Table = true)
    (sa_Table : PySem.W.findIn K (.ref c_Table) "__setattr__" = some (some (.builtin "object.__setattr__")))
    (mk_Table : PySem.W.makesIn K c_Table = true)
    (kc_Table : PySem.W.keepIn K (.ref c_Table) = true)
    (ha_Table : PySem.W.findIn K (.ref c_Table) "__class__" = some (some (.builtin "object.__class__")))
    (hm_Table : PySem.W.mroIn K c_Table (.type "object") = some true)
    (me_Table : PySem.W.kitOne K (.ref c_Table) (.ref c_Table) = some true)
    (n_Table_columns : PySem.W.findIn K (.ref c_Table) "_columns" = some none)
    (n_Table_rows : PySem.W.findIn K (.ref c_Table) "_rows" = some none)
    (a_Table___init__ : PySem.W.findIn K (.ref c_Table) "__init__" = some (some (.ref f_Table___init__)))
    (i_Table___init__ : PySem.W.isFn K (.ref f_Table___init__) = true)
    (l_Table___init__ : K.lookup f_Table___init__ = some ⟨oc26, od26, .func (PySem.W.fnOf "__init__" "Table.__init__" (defArgs s_binit) (defBody s_binit) (defScope s_binit) (.ref d_Table___init__) kV26 dc26 pm26 an26 cd26 ct26), sl26⟩)
    (d1_Table___init__ : K.lookup d_Table___init__ = some ⟨do26, dd26, .seq #[.none] dn26, ds26⟩)
    (o_Table___init__ : PySem.W.codeIn K cd26 "Table.__init__" = true)
    (k_Table___init__ : PySem.W.keepIn K (.ref f_Table___init__) = true)
    (hn : PySem.W.specialIn K (.builtin "object.__class__") "__get__" = some (some (.builtin "getset_descriptor.__get__")))
    (ht : PySem.W.takesIn K (.builtin "object.__class__") = some true)
    (a_NoColumns : PySem.W.nsIn K mainGlobals "NoColumns" = some (some (.ref c_NoColumns)))
    (a_NoRow : PySem.W.nsIn K mainGlobals "NoRow" = some (some (.ref c_NoRow)))
    (a_NoText : PySem.W.nsIn K mainGlobals "NoText" = some (some (.ref c_NoText)))
    (a_NoText___init__ : PySem.W.findIn K (.ref c_NoText) "__init__" = some (some (.ref f_NoText___init__)))
    (l_NoText___init__ : K.lookup f_NoText___init__ = some ⟨oc27, od27, .func (PySem.W.fnOf "__init__" "NoText.__init__" (defArgs s_notext) (defBody s_notext) (defScope s_notext) .none kV27 dc27 pm27 an27 cd27 ct27), sl27⟩)
    (o_NoText___init__ : PySem.W.codeIn K cd27 "NoText.__init__" = true)
    (k_NoText___init__ : PySem.W.keepIn K (.ref f_NoText___init__) = true)
    (y_NoText___init__ : PySem.W.typeIn K (.ref f_NoText___init__) = some (.type "function"))
    (g_longest : PySem.W.nsIn K mainGlobals "LONGEST_NAME" = some (some (.int 8 t_longest)))
    (g_most : PySem.W.nsIn K mainGlobals "MOST_COLUMNS" = some (some (.int 8 t_most)))
    (g_figs : PySem.W.nsIn K mainGlobals "MOST_FIGURES" = some (some (.int 40 t_figs)))
    (z_len : PySem.W.nsIn K mainGlobals "len" = some none)
    (z_isi : PySem.W.nsIn K mainGlobals "isinstance" = some none)
    (z_str : PySem.W.nsIn K mainGlobals "str" = some none)
    (z_list : PySem.W.nsIn K mainGlobals "list" = some none)
    (z_tuple : PySem.W.nsIn K mainGlobals "tuple" = some none)
    (z_dict : PySem.W.nsIn K mainGlobals "dict" = some none)
    (z_int : PySem.W.nsIn K mainGlobals "int" = some none)
    (z_range : PySem.W.nsIn K mainGlobals "range" = some none)
    (z_enum : PySem.W.nsIn K mainGlobals "enumerate" = some none)
    (z_all : PySem.W.nsIn K mainGlobals "all" = some none)
    (z_any : PySem.W.nsIn K mainGlobals "any" = some none)
    (z_max : PySem.W.nsIn K mainGlobals "max" = some none)
    (z_sorted : PySem.W.nsIn K mainGlobals "sorted" = some none)
    (oxNoText : oexB K c_NoText = true)
    (sxNoText : PySem.W.findIn K (.ref c_NoText) "__setattr__" = some (some (.builtin "object.__setattr__")))
    (kxNoText : PySem.W.keepIn K (.ref c_NoText) = true)
    (bxNoText : PySem.W.subIn K (.ref c_NoText) (.type "BaseException") = some true)
    (txNoText : PySem.W.typeIn K (.ref c_NoText) = some (.type "type"))
    (nxNoText : PySem.W.findIn K (.ref c_NoText) "at" = some none)
    (snNoText : PySem.W.subIn K (.ref c_NoText) (.ref c_NoText) = some true)
    (xgNoText : PySem.W.findIn K (.ref c_NoText) "__getattribute__" = some (some (.builtin "BaseException.__getattribute__")))
    (xkNoText : PySem.W.findIn K (.ref c_NoText) "__getattr__" = some none)
    (xdNoText : PySem.W.hasDictIn K c_NoText = true)
    (xaNoText : PySem.W.findIn K (.ref c_NoText) "__class__" = some (some (.builtin "object.__class__")))
    (xmNoText : PySem.W.mroIn K c_NoText (.type "object") = some true)
    (zbool : PySem.W.nsIn K mainGlobals "bool" = some none)
    (zset : PySem.W.nsIn K mainGlobals "set" = some none)
    (ne : PySem.W.findIn K (.ref c_Table) "__ne__" = some (some (.builtin "object.__ne__")))
    (j1 : PySem.W.kitAny K (.ref c_NoText) [.ref c_NoColumns, .ref c_NoRow] = some false)
    : ∃ fd : FuncData, (∀ (s : Shared) (v : Value), BindsTo s fd ⟨[v], []⟩ [("_law_script", v)]) ∧ ∀ base : Heap, K.In base → base.Ns mainGlobals mg → FnOk l.prog w K mg base CX0 8 fa fd ["_law_script"] (sp_law K) := by
  have e := hfa.symm.trans (PySem.W.mg_of X G a_law)
  cases e
  have F_is_whole := fun_mk (st := s_is_whole) l_is_whole o_is_whole k_is_whole
  have b_is_whole := F_is_whole.binds (ps := ["thing"]) fun _ _ _ _ _ _ us hl => match us, hl with | [_], _ => rfl
  have N_is_whole : Fn K mg "is_whole" s_is_whole ["thing"] f_is_whole _ := ⟨F_is_whole, PySem.W.mg_of X G a_is_whole, b_is_whole⟩
  have F_is_name := fun_mk (st := s_is_name) l_is_name o_is_name k_is_name
  have b_is_name := F_is_name.binds (ps := ["thing"]) fun _ _ _ _ _ _ us hl => match us, hl with | [_], _ => rfl
  have N_is_name : Fn K mg "is_name" s_is_name ["thing"] f_is_name _ := ⟨F_is_name, PySem.W.mg_of X G a_is_name, b_is_name⟩
  have F_are_columns := fun_mk (st := s_are) l_are_columns o_are_columns k_are_columns
  have b_are_columns := F_are_columns.binds (ps := ["thing"]) fun _ _ _ _ _ _ us hl => match us, hl with | [_], _ => rfl
  have N_are_columns : Fn K mg "are_columns" s_are ["thing"] f_are_columns _ := ⟨F_are_columns, PySem.W.mg_of X G a_are_columns, b_are_columns⟩
  have F_is_row := fun_mk (st := s_is_row) l_is_row o_is_row k_is_row
  have b_is_row := F_is_row.binds (ps := ["thing", "many"]) fun _ _ _ _ _ _ us hl => match us, hl with | [_, _], _ => rfl
  have N_is_row : Fn K mg "is_row" s_is_row ["thing", "many"] f_is_row _ := ⟨F_is_row, PySem.W.mg_of X G a_is_row, b_is_row⟩
  have F__check_columns := fun_mk (st := s_cc) l__check_columns o__check_columns k__check_columns
  have b__check_columns := F__check_columns.binds (ps := ["columns"]) fun _ _ _ _ _ _ us hl => match us, hl with | [_], _ => rfl
  have N__check_columns : Fn K mg "_check_columns" s_cc ["columns"] f__check_columns _ := ⟨F__check_columns, PySem.W.mg_of X G a__check_columns, b__check_columns⟩
  have F__sorted_rows := fun_mk (st := s_sorted) l__sorted_rows o__sorted_rows k__sorted_rows
  have b__sorted_rows := F__sorted_rows.binds (ps := ["rows", "many"]) fun _ _ _ _ _ _ us hl => match us, hl with | [_, _], _ => rfl
  have N__sorted_rows : Fn K mg "_sorted_rows" s_sorted ["rows", "many"] f__sorted_rows _ := ⟨F__sorted_rows, PySem.W.mg_of X G a__sorted_rows, b__sorted_rows⟩
  have F_number_of := fun_mk (st := s_number) l_number_of o_number_of k_number_of
  have b_number_of := F_number_of.binds (ps := ["text"]) fun _ _ _ _ _ _ us hl => match us, hl with | [_], _ => rfl
  have N_number_of : Fn K mg "number_of" s_number ["text"] f_number_of _ := ⟨F_number_of, PySem.W.mg_of X G a_number_of, b_number_of⟩
  have F_numbers_of := fun_mk (st := s_numbers) l_numbers_of o_numbers_of k_numbers_of
  have b_numbers_of := F_numbers_of.binds (ps := ["text", "many"]) fun _ _ _ _ _ _ us hl => match us, hl with | [_, _], _ => rfl
  have N_numbers_of : Fn K mg "numbers_of" s_numbers ["text", "many"] f_numbers_of _ := ⟨F_numbers_of, PySem.W.mg_of X G a_numbers_of, b_numbers_of⟩
  have F_written := fun_mk (st := s_written) l_written o_written k_written
  have b_written := F_written.binds (ps := ["numbers"]) fun _ _ _ _ _ _ us hl => match us, hl with | [_], _ => rfl
  have N_written : Fn K mg "written" s_written ["numbers"] f_written _ := ⟨F_written, PySem.W.mg_of X G a_written, b_written⟩
  have F_show_table := fun_mk (st := s_show) l_show_table o_show_table k_show_table
  have b_show_table := F_show_table.binds (ps := ["table"]) fun _ _ _ _ _ _ us hl => match us, hl with | [_], _ => rfl
  have N_show_table : Fn K mg "show_table" s_show ["table"] f_show_table _ := ⟨F_show_table, PySem.W.mg_of X G a_show_table, b_show_table⟩
  have F_read_table := fun_mk (st := s_read) l_read_table o_read_table k_read_table
  have b_read_table := F_read_table.binds (ps := ["text"]) fun _ _ _ _ _ _ us hl => match us, hl with | [_], _ => rfl
  have N_read_table : Fn K mg "read_table" s_read ["text"] f_read_table _ := ⟨F_read_table, PySem.W.mg_of X G a_read_table, b_read_table⟩
  have F__check_text := fun_mk (st := s_checkt) l__check_text o__check_text k__check_text
  have b__check_text := F__check_text.binds (ps := ["text"]) fun _ _ _ _ _ _ us hl => match us, hl with | [_], _ => rfl
  have N__check_text : Fn K mg "_check_text" s_checkt ["text"] f__check_text _ := ⟨F__check_text, PySem.W.mg_of X G a__check_text, b__check_text⟩
  have F__law_well := fun_mk (st := s_well) l__law_well o__law_well k__law_well
  have b__law_well := F__law_well.binds (ps := ["_law_cell"]) fun _ _ _ _ _ _ us hl => match us, hl with | [_], _ => rfl
  have N__law_well : Fn K mg "_law_well" s_well ["_law_cell"] f__law_well _ := ⟨F__law_well, PySem.W.mg_of X G a__law_well, b__law_well⟩
  have F__law_draw := fun_mk (st := s_draw) l__law_draw o__law_draw k__law_draw
  have b__law_draw := F__law_draw.binds (ps := ["_law_well_here", "_law_many"]) fun _ _ _ _ _ _ us hl => match us, hl with | [_, _], _ => rfl
  have N__law_draw : Fn K mg "_law_draw" s_draw ["_law_well_here", "_law_many"] f__law_draw _ := ⟨F__law_draw, PySem.W.mg_of X G a__law_draw, b__law_draw⟩
  have F__law_names := fun_mk (st := s_names) l__law_names o__law_names k__law_names
  have b__law_names := F__law_names.binds (ps := ["_law_well_here", "_law_many"]) fun _ _ _ _ _ _ us hl => match us, hl with | [_, _], _ => rfl
  have N__law_names : Fn K mg "_law_names" s_names ["_law_well_here", "_law_many"] f__law_names _ := ⟨F__law_names, PySem.W.mg_of X G a__law_names, b__law_names⟩
  have F__law_value := fun_mk (st := s_value) l__law_value o__law_value k__law_value
  have b__law_value := F__law_value.binds (ps := ["_law_well_here"]) fun _ _ _ _ _ _ us hl => match us, hl with | [_], _ => rfl
  have N__law_value : Fn K mg "_law_value" s_value ["_law_well_here"] f__law_value _ := ⟨F__law_value, PySem.W.mg_of X G a__law_value, b__law_value⟩
  have F__law_text := fun_mk (st := s_text) l__law_text o__law_text k__law_text
  have b__law_text := F__law_text.binds (ps := ["_law_names_here", "_law_rows"]) fun _ _ _ _ _ _ us hl => match us, hl with | [_, _], _ => rfl
  have N__law_text : Fn K mg "_law_text" s_text ["_law_names_here", "_law_rows"] f__law_text _ := ⟨F__law_text, PySem.W.mg_of X G a__law_text, b__law_text⟩
  have F__law_spoilt := fun_mk (st := s_spoilt) l__law_spoilt o__law_spoilt k__law_spoilt
  have b__law_spoilt := F__law_spoilt.binds (ps := ["_law_well_here", "_law_text_here"]) fun _ _ _ _ _ _ us hl => match us, hl with | [_, _], _ => rfl
  have N__law_spoilt : Fn K mg "_law_spoilt" s_spoilt ["_law_well_here", "_law_text_here"] f__law_spoilt _ := ⟨F__law_spoilt, PySem.W.mg_of X G a__law_spoilt, b__law_spoilt⟩
  have F__law_number := fun_mk (st := s_lnumber) l__law_number o__law_number k__law_number
  have b__law_number := F__law_number.binds (ps := ["_law_word"]) fun _ _ _ _ _ _ us hl => match us, hl with | [_], _ => rfl
  have N__law_number : Fn K mg "_law_number" s_lnumber ["_law_word"] f__law_number _ := ⟨F__law_number, PySem.W.mg_of X G a__law_number, b__law_number⟩
  have F__law_stop := fun_mk (st := s_stop) l__law_stop o__law_stop k__law_stop
  have b__law_stop := F__law_stop.binds (ps := ["_law_text_here"]) fun _ _ _ _ _ _ us hl => match us, hl with | [_], _ => rfl
  have N__law_stop : Fn K mg "_law_stop" s_stop ["_law_text_here"] f__law_stop _ := ⟨F__law_stop, PySem.W.mg_of X G a__law_stop, b__law_stop⟩
  have F__law_answer := fun_mk (st := s_answer) l__law_answer o__law_answer k__law_answer
  have b__law_answer := F__law_answer.binds (ps := ["_law_text_here"]) fun _ _ _ _ _ _ us hl => match us, hl with | [_], _ => rfl
  have N__law_answer : Fn K mg "_law_answer" s_answer ["_law_text_here"] f__law_answer _ := ⟨F__law_answer, PySem.W.mg_of X G a__law_answer, b__law_answer⟩
  have F_law := fun_mk (st := s_law) l_law o_law k_law
  have b_law := F_law.binds (ps := ["_law_script"]) fun _ _ _ _ _ _ us hl => match us, hl with | [_], _ => rfl
  have N_law : Fn K mg "law" s_law ["_law_script"] fa _ := ⟨F_law, PySem.W.mg_of X G a_law, b_law⟩
  have F_Table_columns := fun_mk (st := s_bcolumns) l_Table_columns o_Table_columns k_Table_columns
  have b_Table_columns := F_Table_columns.binds (ps := ["self"]) fun _ _ _ _ _ _ us hl => match us, hl with | [_], _ => rfl
  have M_Table_columns : Mt K c_Table "columns" "Table.columns" s_bcolumns ["self"] f_Table_columns _ := ⟨F_Table_columns, ⟨a_Table_columns, i_Table_columns, k_Table_columns⟩, b_Table_columns⟩
  have F_Table_rows := fun_mk (st := s_brows) l_Table_rows o_Table_rows k_Table_rows
  have b_Table_rows := F_Table_rows.binds (ps := ["self"]) fun _ _ _ _ _ _ us hl => match us, hl with | [_], _ => rfl
  have M_Table_rows : Mt K c_Table "rows" "Table.rows" s_brows ["self"] f_Table_rows _ := ⟨F_Table_rows, ⟨a_Table_rows, i_Table_rows, k_Table_rows⟩, b_Table_rows⟩
  have F_Table___eq__ := fun_mk (st := s_beq) l_Table___eq__ o_Table___eq__ k_Table___eq__
  have b_Table___eq__ := F_Table___eq__.binds (ps := ["self", "other"]) fun _ _ _ _ _ _ us hl => match us, hl with | [_, _], _ => rfl
  have M_Table___eq__ : Mt K c_Table "__eq__" "Table.__eq__" s_beq ["self", "other"] f_Table___eq__ _ := ⟨F_Table___eq__, ⟨a_Table___eq__, i_Table___eq__, k_Table___eq__⟩, b_Table___eq__⟩
  have F_NoText___init__ := fun_mk (st := s_notext) l_NoText___init__ o_NoText___init__ k_NoText___init__
  have b_NoText___init__ := F_NoText___init__.binds (ps := ["self", "at"]) fun _ _ _ _ _ _ us hl => match us, hl with | [_, _], _ => rfl
  have F_Table___init__ : FunD K "__init__" "Table.__init__" (defArgs s_binit) (defBody s_binit) (defScope s_binit) [.non] [] f_Table___init__ _ := ⟨⟨_, _, _, _, _, _, _, _, _, _, rfl, l_Table___init__, o_Table___init__, .inr ⟨(fun z => nomatch z), d_Table___init__, _, [.none], _, rfl, d1_Table___init__, rfl, .cons rfl .nil⟩, .inl rfl⟩, k_Table___init__⟩
  have B : Bn mg := ⟨PySem.W.mg_none_of X G z_len, PySem.W.mg_none_of X G z_isi, PySem.W.mg_none_of X G z_str, PySem.W.mg_none_of X G z_list, PySem.W.mg_none_of X G z_tuple, PySem.W.mg_none_of X G z_dict, PySem.W.mg_none_of X G z_int, PySem.W.mg_none_of X G z_range, PySem.W.mg_none_of X G z_enum, PySem.W.mg_none_of X G z_all, PySem.W.mg_none_of X G z_any, PySem.W.mg_none_of X G z_max, PySem.W.mg_none_of X G z_sorted⟩
  have Tk : Kt K mg f_is_whole f_is_name f_are_columns f_is_row f__check_columns f__sorted_rows _ _ _ _ _ _ := ⟨B, ⟨⟨_, PySem.W.mg_of X G g_longest⟩, ⟨_, PySem.W.mg_of X G g_most⟩⟩, PySem.W.mg_none_of X G zset, PySem.W.mg_none_of X G zbool, N_is_whole, N_is_name, N_are_columns, N_is_row, N__check_columns, N__sorted_rows⟩
  have Ck : Bc K mg c_Table := ⟨⟨pg_Table, hd_Table, po_Table, sa_Table⟩, n_Table_columns, n_Table_rows, PySem.W.mg_of X G a_Table, ⟨ha_Table, hn, ht, hm_Table, me_Table⟩⟩
  have Dk : Bd K mg c_Table f_Table___init__ f_Table_columns f_Table_rows f_Table___eq__ _ _ _ _ := ⟨Ck, F_Table___init__, ⟨mk_Table, a_Table___init__, i_Table___init__, kc_Table⟩, by
        obtain ⟨ds, h1, h2⟩ := F_Table___init__.binds1 (ps := ["self", "columns", "rows"]) 3 1 (by simp) rfl (fun _ _ _ _ _ _ _ us its l1 l2 => match us, its, l1, l2 with | [_, _, _], [_], _, _ => ⟨_, rfl, rfl⟩)
        cases h1
        exact h2, M_Table_columns, M_Table_rows, M_Table___eq__, ne, by unfold PySem.W.notFirst; simp⟩
  have Cgk : Cf mg := ⟨⟨_, PySem.W.mg_of X G g_figs⟩⟩
  have Nx : NtX K mg c_NoText f_NoText___init__ _ := ⟨⟨oexB_ok oxNoText, sxNoText, bxNoText, txNoText, kxNoText⟩, a_NoText___init__, y_NoText___init__, F_NoText___init__, b_NoText___init__, PySem.W.mg_of X G a_NoText, nxNoText⟩
  have Ek : Er K mg c_NoText c_NoColumns c_NoRow := ⟨PySem.W.mg_of X G a_NoColumns, PySem.W.mg_of X G a_NoRow, PySem.W.exm_ref bxNoText xdNoText txNoText snNoText, ⟨xgNoText, xkNoText, bxNoText, xdNoText, xaNoText, hn, ht, xmNoText⟩, j1⟩
  have Lk : Ld K mg f__law_well f__law_draw f__law_names f__law_value f__law_text f__law_spoilt f__law_number f__law_stop f__law_answer f_read_table f_show_table f__check_text f_numbers_of f_number_of f_written _ _ _ _ _ _ _ _ _ _ _ _ _ _ _ := ⟨N__law_well, N__law_draw, N__law_names, N__law_value, N__law_text, N__law_spoilt, N__law_number, N__law_stop, N__law_answer, N_read_table, N_show_table, N__check_text, N_numbers_of, N_number_of, N_written⟩
  exact ⟨PySem.W.fnOf "law" "law" (defArgs s_law) (defBody s_law) (defScope s_law) .none kV22 dc22 pm22 an22 cd22 ct22, fun s v => .of_eq rfl, fun base _ _ => ok_law N_law Cgk Tk Dk Nx Ek Lk⟩
end T89
open PySem PySem.W PyProof.Rows
set_option maxRecDepth 100000 in
set_option maxHeartbeats 0 in
theorem PySem.Challenge.cw_foldbough_k89_tables_as_texts_holds : PySem.Challenge.rw_foldbough_k89_tables_as_texts.Holds := by
  w_on; o_law; k_head; (case hw => w_witness2)
  k_fill
  refine L2.walk_of (l := PySem.Challenge.rw_foldbough_k89_tables_as_texts) (n := 63) (k := 8) (x := "_law_script") (CX := fun _ => L2.CX0) (sp := fun w => T89.sp_law (_)) rfl (by decide) rfl ⟨rfl, by decide, by decide⟩ (fun w h Y => PySem.W.kIn_of Y) ?F (fun _ _ a ns hl _ hS => ⟨a, ns, rfl, hS, hl, fun _ => rfl⟩) (fun _ _ _ _ _ z => z)
  case F =>
    intro w mg fa h KX G hmg
    refine' T89.all_mk KX G hmg ?a_is_whole ?l_is_whole ?o_is_whole ?k_is_whole ?a_is_name ?l_is_name ?o_is_name ?k_is_name ?a_are_columns ?l_are_columns ?o_are_columns ?k_are_columns ?a_is_row ?l_is_row ?o_is_row ?k_is_row ?a__check_columns ?l__check_columns ?o__check_columns ?k__check_columns ?a__sorted_rows ?l__sorted_rows ?o__sorted_rows ?k__sorted_rows ?a_number_of ?l_number_of ?o_number_of ?k_number_of ?a_numbers_of ?l_numbers_of ?o_numbers_of ?k_numbers_of ?a_written ?l_written ?o_written ?k_written ?a_show_table ?l_show_table ?o_show_table ?k_show_table ?a_read_table ?l_read_table ?o_read_table ?k_read_table ?a__check_text ?l__check_text ?o__check_text ?k__check_text ?a__law_well ?l__law_well ?o__law_well ?k__law_well ?a__law_draw ?l__law_draw ?o__law_draw ?k__law_draw ?a__law_names ?l__law_names ?o__law_names ?k__law_names ?a__law_value ?l__law_value ?o__law_value ?k__law_value ?a__law_text ?l__law_text ?o__law_text ?k__law_text ?a__law_spoilt ?l__law_spoilt ?o__law_spoilt ?k__law_spoilt ?a__law_number ?l__law_number ?o__law_number ?k__law_number ?a__law_stop ?l__law_stop ?o__law_stop ?k__law_stop ?a__law_answer ?l__law_answer ?o__law_answer ?k__law_answer ?a_law ?l_law ?o_law ?k_law ?a_Table ?a_Table_columns ?i_Table_columns ?l_Table_columns ?o_Table_columns ?k_Table_columns ?a_Table_rows ?i_Table_rows ?l_Table_rows ?o_Table_rows ?k_Table_rows ?a_Table___eq__ ?i_Table___eq__ ?l_Table___eq__ ?o_Table___eq__ ?k_Table___eq__ ?pg_Table ?hd_Table ?po_Table ?sa_Table ?mk_Table ?kc_Table ?ha_Table ?hm_Table ?me_Table ?n_Table_columns ?n_Table_rows ?a_Table___init__ ?i_Table___init__ ?l_Table___init__ ?d1_Table___init__ ?o_Table___init__ ?k_Table___init__ ?hn ?ht ?a_NoColumns ?a_NoRow ?a_NoText ?a_NoText___init__ ?l_NoText___init__ ?o_NoText___init__ ?k_NoText___init__ ?y_NoText___init__ ?g_longest ?g_most ?g_figs ?z_len ?z_isi ?z_str ?z_list ?z_tuple ?z_dict ?z_int ?z_range ?z_enum ?z_all ?z_any ?z_max ?z_sorted ?oxNoText ?sxNoText ?kxNoText ?bxNoText ?txNoText ?nxNoText ?snNoText ?xgNoText ?xkNoText ?xdNoText ?xaNoText ?xmNoText ?zbool ?zset ?ne ?j1
    (case a_is_whole => k_is)
    (case l_is_whole => k_is)
    (case o_is_whole => k_is)
    (case k_is_whole => k_is)
    (case a_is_name => k_is)
    (case l_is_name => k_is)
    (case o_is_name => k_is)
    (case k_is_name => k_is)
    (case a_are_columns => k_is)
    (case l_are_columns => k_is)
    (case o_are_columns => k_is)
    (case k_are_columns => k_is)
    (case a_is_row => k_is)
    (case l_is_row => k_is)
    (case o_is_row => k_is)
    (case k_is_row => k_is)
    (case a__check_columns => k_is)
    (case l__check_columns => k_is)
    (case o__check_columns => k_is)
    (case k__check_columns => k_is)
    (case a__sorted_rows => k_is)
    (case l__sorted_rows => k_is)
    (case o__sorted_rows => k_is)
    (case k__sorted_rows => k_is)
    (case a_number_of => k_is)
    (case l_number_of => k_is)
    (case o_number_of => k_is)
    (case k_number_of => k_is)
    (case a_numbers_of => k_is)
    (case l_numbers_of => k_is)
    (case o_numbers_of => k_is)
    (case k_numbers_of => k_is)
    (case a_written => k_is)
    (case l_written => k_is)
    (case o_written => k_is)
    (case k_written => k_is)
    (case a_show_table => k_is)
    (case l_show_table => k_is)
    (case o_show_table => k_is)
    (case k_show_table => k_is)
    (case a_read_table => k_is)
    (case l_read_table => k_is)
    (case o_read_table => k_is)
    (case k_read_table => k_is)
    (case a__check_text => k_is)
    (case l__check_text => k_is)
    (case o__check_text => k_is)
    (case k__check_text => k_is)
    (case a__law_well => k_is)
    (case l__law_well => k_is)
    (case o__law_well => k_is)
    (case k__law_well => k_is)
    (case a__law_draw => k_is)
    (case l__law_draw => k_is)
    (case o__law_draw => k_is)
    (case k__law_draw => k_is)
    (case a__law_names => k_is)
    (case l__law_names => k_is)
    (case o__law_names => k_is)
    (case k__law_names => k_is)
    (case a__law_value => k_is)
    (case l__law_value => k_is)
    (case o__law_value => k_is)
    (case k__law_value => k_is)
    (case a__law_text => k_is)
    (case l__law_text => k_is)
    (case o__law_text => k_is)
    (case k__law_text => k_is)
    (case a__law_spoilt => k_is)
    (case l__law_spoilt => k_is)
    (case o__law_spoilt => k_is)
    (case k__law_spoilt => k_is)
    (case a__law_number => k_is)
    (case l__law_number => k_is)
    (case o__law_number => k_is)
    (case k__law_number => k_is)
    (case a__law_stop => k_is)
    (case l__law_stop => k_is)
    (case o__law_stop => k_is)
    (case k__law_stop => k_is)
    (case a__law_answer => k_is)
    (case l__law_answer => k_is)
    (case o__law_answer => k_is)
    (case k__law_answer => k_is)
    (case a_law => k_is)
    (case l_law => k_is)
    (case o_law => k_is)
    (case k_law => k_is)
    (case a_Table => k_is)
    (case a_Table_columns => k_is)
    (case i_Table_columns => k_is)
    (case l_Table_columns => k_is)
    (case o_Table_columns => k_is)
    (case k_Table_columns => k_is)
    (case a_Table_rows => k_is)
    (case i_Table_rows => k_is)
    (case l_Table_rows => k_is)
    (case o_Table_rows => k_is)
    (case k_Table_rows => k_is)
    (case a_Table___eq__ => k_is)
    (case i_Table___eq__ => k_is)
    (case l_Table___eq__ => k_is)
    (case o_Table___eq__ => k_is)
    (case k_Table___eq__ => k_is)
    (case pg_Table => k_is)
    (case hd_Table => k_is)
    (case po_Table => k_is)
    (case sa_Table => k_is)
    (case mk_Table => k_is)
    (case kc_Table => k_is)
    (case ha_Table => k_is)
    (case hm_Table => k_is)
    (case me_Table => kit_is)
    (case n_Table_columns => k_is)
    (case n_Table_rows => k_is)
    (case a_Table___init__ => k_is)
    (case i_Table___init__ => k_is)
    (case l_Table___init__ => k_is)
    (case d1_Table___init__ => k_is)
    (case o_Table___init__ => k_is)
    (case k_Table___init__ => k_is)
    (case hn => k_is)
    (case ht => k_is)
    (case a_NoColumns => k_is)
    (case a_NoRow => k_is)
    (case a_NoText => k_is)
    (case a_NoText___init__ => k_is)
    (case l_NoText___init__ => k_is)
    (case o_NoText___init__ => k_is)
    (case k_NoText___init__ => k_is)
    (case y_NoText___init__ => k_is)
    (case g_longest => k_is)
    (case g_most => k_is)
    (case g_figs => k_is)
    (case z_len => k_is)
    (case z_isi => k_is)
    (case z_str => k_is)
    (case z_list => k_is)
    (case z_tuple => k_is)
    (case z_dict => k_is)
    (case z_int => k_is)
    (case z_range => k_is)
    (case z_enum => k_is)
    (case z_all => k_is)
    (case z_any => k_is)
    (case z_max => k_is)
    (case z_sorted => k_is)
    (case oxNoText => first | decide +kernel | rfl)
    (case sxNoText => k_is)
    (case kxNoText => k_is)
    (case bxNoText => k_is)
    (case txNoText => k_is)
    (case nxNoText => k_is)
    (case snNoText => k_is)
    (case xgNoText => k_is)
    (case xkNoText => k_is)
    (case xdNoText => k_is)
    (case xaNoText => k_is)
    (case xmNoText => k_is)
    (case zbool => k_is)
    (case zset => k_is)
    (case ne => k_is)
    (case j1 => kit_is)

