import PyProof.Rows.All
import Wide.All
import OpenK.AllK
import OpenK.XHead
import Wide.FinOn
import PySem.Challenge.RW_pourdrains_k14_the_last_deed_that_reache
import HandS.ForMost
import HandS.GenList
import HandS.AnyAll
import PyProof.TupleOfGen
import HandS.Wide
import HandS.TupAny
import HandS.TupLe
import HandS.WideBits
import HandS.Deep
import HandS.Flow
import HandS.TupMul
import HandS.Conv
import HandS.IsInst
import HandS.Style
import HandS.Dict
import HandS.Words
import HandS.SortRule
import HandS.SortInts
import HandS.NamedTupSort
import KE.KSortAsk
import HandS.List
import PyProof.WalkInts
import HandS.EndTab
import HandS.HeadWalk
import HandS.TupSets
import HandS.SetBool
import HandS.TupLen
import KE.KDictDisplayH
import KE.KDictPairs
import HandS.Iter
import KE.GoesMore
import HandS.NoneIn
section
set_option Elab.async false
set_option linter.all false
set_option maxRecDepth 100000
set_option maxHeartbeats 1000000
namespace L2
open PySem PySem.Spec PyProof.Rows GenW

/-- room for k more calls, and no repr under way -/
structure RoomG (k : Nat) (A : Around) : Prop where
  rm : Room k A
  gd : A.guards = some []
theorem RoomG.hd {k : Nat} {A : Around} (r : RoomG k A) : A.handled = none := r.rm.hd
theorem RoomG.dp {k : Nat} {A : Around} (r : RoomG k A) : A.depth + 3 * k + 5 < recursionLimit := r.rm.dp
theorem RoomG.un {k : Nat} {A : Around} (r : RoomG k A) : A.units + 16 * k + 200 < cLine := r.rm.un
theorem RoomG.mono {j k : Nat} {A : Around} (r : RoomG k A) (h : j ≤ k) : RoomG j A := ⟨r.rm.mono h, r.gd⟩
theorem RoomG.deeper {k : Nat} {A : Around} (r : RoomG (k + 1) A) (env : Env) : RoomG k (A.deeper env) := ⟨r.rm.deeper env, r.gd⟩
theorem RoomG.in1 {k : Nat} {A : Around} (r : RoomG (k + 1) A) : RoomG k A.in1 := ⟨r.rm.in1, r.gd⟩
/-- the context of a generator expression that runs: made at s with H, woken under A -/
abbrev Cx.gen (X : Cx) (A : Around) (s : Shared) (H : Hp) (cenv : Env) (fp : List Addr) : Cx :=
  { X with A := A.deeper cenv, s_0 := s, H_0 := H, env := cenv, outer := X.stack, stack := cenv :: X.stack, ex := fp, fn := fun _ => false, pn := [], xe := fun _ _ => False }

/-- the names of a generator expression: its own (with their places in N), «.0», captured ones -/
structure GenOk (N : List Str) (sc scope : Scope) (own : List (Str × Nat)) : Prop where
  kind : scope.kind = .function
  co : scope.isCoroutine = false
  uniq : ∀ y ∈ scope.names, scope.names.lookup y.1 = some y.2
  cell : ∀ y ∈ scope.names, y.2 ≠ .cell
  dot : scope.names.lookup (".0" : Str) = some NameKind.local
  ix : ∀ p ∈ own, N[p.2]? = some p.1
  free : ∀ y ∈ scope.names, y.2 = .free → sc.names.lookup y.1 = some .cell ∨ sc.names.lookup y.1 = some .free
  own : ∀ y ∈ scope.names, y.2 = .local → y.1 ∈ own.map (·.1) ∨ y.1 ∉ N

section
variable {X : Cx} {pins : List (Addr × Obj)} {σ : St} {H : Hp} {s : Shared}
theorem gen_start {A : Around} {scope : Scope} {own : List (Str × Nat)} {fp : List Addr} {code : Value} {bi : Addr} {h' : Heap} {m : Str → Option Value} (I : Inv X pins σ H s) (ok : GenOk X.N X.env.scope scope own) (hN : X.N.Nodup)
    (hA : A.frames = some X.stack) (hh : A.handled = none) (hbi : bi = builtinsNs)
    (hfp : ∀ b ∈ fp, FpOk X pins H b ∧ b < s.heap.objs.size) (hn : h'.Ns s.heap.objs.size m) (kp : ∀ b o, s.heap.get? b = some o → h'.get? b = some o) :
    Inv (X.gen A s H (genEnv scope (cloFrom X.env.cells scope.names []) s.heap.objs.size code bi X.env) fp) [] (wipe σ (own.map (·.2))) H { s with heap := h' } := by
  have hfree : ∀ y ∈ scope.names, y.2 = .free → ∃ c, X.env.cells.lookup y.1 = some c := fun y hy e => by
    rcases ok.free y hy e with k | k
    · exact I.ok.has _ (.inl k)
    · exact I.ok.has _ (.inr k)
  have cm : ∀ {y c}, (y, c) ∈ cloFrom X.env.cells scope.names [] → X.env.cells.lookup y = some c ∧ c < s.heap.objs.size := fun {y c} hm => by
    rcases cloFrom_mem hm with hm | ⟨h1, rfl⟩
    · cases hm
    · obtain ⟨c, hc⟩ := hfree _ h1 rfl
      rw [hc]
      obtain ⟨w, z⟩ := I.cell _ _ hc
      exact ⟨rfl, z.lt⟩
  have mem : ∀ {y c}, (cloFrom X.env.cells scope.names []).lookup y = some c → X.env.cells.lookup y = some c ∧ c < s.heap.objs.size := fun {y c} e => cm (PySem.mem_of_lookup e)
  have look : ∀ {y}, scope.names.lookup y = some .free → ∃ c, (cloFrom X.env.cells scope.names []).lookup y = some c ∧ X.env.cells.lookup y = some c := fun {y} hl => by
    have hy : (y, NameKind.free) ∈ scope.names := PySem.mem_of_lookup hl
    obtain ⟨c', e'⟩ := mem_lookup (cloFrom_has (cells := X.env.cells) (acc := []) hy)
    exact ⟨c', e', (mem e').1⟩
  have okB : (X.gen A s H (genEnv scope (cloFrom X.env.cells scope.names []) s.heap.objs.size code bi X.env) fp).Ok := by
    refine ⟨I.ok.mod, ok.kind, I.ok.glob, hbi, Nat.le_refl _, fun y z c e1 e2 => ?_, fun y hy => ?_, fun y c z e => ?_, fun _ => hh, ?_, .inr ⟨rfl, rfl⟩, fun b hb => ⟨?_, fun y c e z => ?_⟩, I.bs, Nat.le_trans I.ok.bsz I.sz, fun b o e hb => ?_, fun b hb z => ?_, I.stack, I.stkFree⟩
    · exact I.ok.inj y z c (mem e1).1 (mem e2).1
    · have hy : scope.names.lookup y = some .cell ∨ scope.names.lookup y = some .free := hy
      rcases hy with hy | hy
      · exact absurd rfl (ok.cell _ (PySem.mem_of_lookup hy))
      · obtain ⟨c, h1, _⟩ := look hy
        exact ⟨c, h1⟩
    · cases z
    · show (A.deeper _).frames = _
      show A.frames.map _ = _
      rw [hA]; rfl
    · exact Nat.ne_of_lt (hfp b hb).2
    · exact (hfp b hb).1.2.2.2.2.1 y c (mem e).1 z
    · rcases (hfp b hb).1.2.2.2.1 with z | z
      · exact I.ok.noex b o e z
      · exact absurd (Nat.lt_of_lt_of_le (Heap.lt_size e) (Nat.le_trans I.ok.bsz z)) (Nat.lt_irrefl _)
    · rcases List.mem_cons.mp (I.stkSub b z) with z | z
      · exact (hfp b hb).1.2.1 z
      · exact (hfp b hb).1.2.2.1 z
  refine ⟨okB, rfl, I.bare, Un.kept kp, ⟨m, hn, fun i y av e1 e2 e3 => ?_⟩, fun y c e => ?_, I.hok.fresh (Nat.le_refl _), fun y c e => ?_, fun p hp => ?_, I.hok.kept kp, by rw [wipe_length]; exact I.len⟩
  · obtain ⟨e2, hne⟩ := wipe_some e2
    have e3 : Vis scope y := e3
    have hfr : scope.names.lookup y = some .free := by
      rcases e3 with k | k | k
      · rcases ok.own _ (PySem.mem_of_lookup k) rfl with e' | e'
        · obtain ⟨p, hp, hpy⟩ := List.mem_map.mp e'
          have e4 := ok.ix p hp
          have : p.1 = y := hpy
          rw [this] at e4
          exact absurd (List.mem_map.mpr ⟨p, hp, nodup_ix hN e4 e1⟩) hne
        · exact absurd (List.mem_of_getElem? e1) e'
      · exact absurd rfl (ok.cell _ (PySem.mem_of_lookup k))
      · exact k
    obtain ⟨mx, hnx, hl⟩ := I.loc
    have hvis : Vis X.env.scope y := (ok.free _ (PySem.mem_of_lookup hfr) rfl).elim (fun k => .inr (.inl k)) (fun k => .inr (.inr k))
    obtain ⟨w, r, q⟩ := hl i y av e1 e2 hvis
    refine ⟨w, r, .inr ⟨.inr hfr, ?_⟩⟩
    obtain ⟨c, h1, h2⟩ := look hfr
    rcases q with ⟨k, _⟩ | ⟨_, c', e', z⟩
    · have k : X.env.scope.names.lookup y = some .local := k
      rcases ok.free _ (PySem.mem_of_lookup hfr) rfl with k' | k' <;> rw [show X.env.scope.names.lookup y = _ from k'] at k <;> cases k
    · rw [h2] at e'; cases e'
      exact ⟨c, h1, z.keeps kp⟩
  · obtain ⟨w, z⟩ := I.cell y c (mem e).1
    exact ⟨w, z.keeps kp⟩
  · exact I.freeC y c (mem e).1
  · exact absurd (show p ∈ ([] : List (Addr × Obj)) ++ [] from hp) (by simp)

/-! ### the consumer's own objects, and its sleep -/
structure Owns (S : List Addr) (os : List (Addr × Obj)) (h : Heap) : Prop where
  at_ : os.map (·.1) = S
  is_ : ∀ p ∈ os, h.get? p.1 = some p.2 ∧ ∀ v, p.2.data ≠ .cell v
/-- while the generator sleeps its consumer changes what stands at S alone -/
structure SleptX (S : List Addr) (s s' : Shared) : Prop where
  os : s'.os = s.os
  bare : AllBare s'.gens
  keep : ∀ b o, b ∉ S → s.heap.get? b = some o → s'.heap.get? b = some o
  own : ∃ os, Owns S os s'.heap
theorem Owns.mem {S : List Addr} {os : List (Addr × Obj)} {h : Heap} (o : Owns S os h) {b : Addr} (hb : b ∈ S) : ∃ ob, (b, ob) ∈ os := by
  rw [← o.at_] at hb
  obtain ⟨p, hp, e⟩ := List.mem_map.mp hb
  exact ⟨p.2, by rw [← e]; exact hp⟩
theorem Owns.of {S : List Addr} {os : List (Addr × Obj)} {h : Heap} (o : Owns S os h) {p : Addr × Obj} (hp : p ∈ os) : p.1 ∈ S := by
  rw [← o.at_]; exact List.mem_map.mpr ⟨p, hp, rfl⟩
/-- the consumer's objects are apart from the generator's -/
def ApartX (X : Cx) (S : List Addr) (ip : List (Addr × Obj)) : Prop := ∀ b ∈ S, (b ∈ X.ex ∨ X.s_0.heap.objs.size ≤ b) ∧ b ≠ X.env.locals ∧ b ∉ X.fs ∧ (∀ x c, X.env.cells.lookup x = some c → c ≠ b) ∧ ∀ p ∈ X.pn ++ ip, p.1 ≠ b
theorem Inv.woken {S : List Addr} {os : List (Addr × Obj)} {ip : List (Addr × Obj)} {s' : Shared} (hA : ApartX X S ip) (o : Owns S os s.heap) (I : Inv X (os ++ ip) σ H s) (z : SleptX S s s') :
    ∃ os', Owns S os' s'.heap ∧ Inv X (os' ++ ip) σ H s' := by
  obtain ⟨z1, z2, z3, os', z4⟩ := z
  have n0 : ∀ b ∈ S, H b = none := fun b hb => by
    obtain ⟨ob, hm⟩ := o.mem hb
    exact (I.pin (b, ob) (List.mem_append_right _ (List.mem_append_left _ hm))).2.1
  have I0 : Inv X ip σ H s := I.pins_of fun p hp => I.pin p (List.mem_append_right _ (List.mem_append_right _ hp))
  have nt : ∀ b u, H b = some u → b ∉ S := fun b u q hb => by rw [n0 b hb] at q; cases q
  obtain ⟨hh, g, d, t, oo⟩ := s'
  have ho : oo = s.os := z1
  subst ho
  have hL : X.env.locals ∉ S := fun hb => (hA _ hb).2.1 rfl
  have J : Inv X ip σ H { s with heap := hh, gens := g, drawn := d, toks := t } := by
    refine I0.step (g' := g) (t' := t) (d' := d) (ch := S) (fun b hb => ⟨(hA b hb).1, (hA b hb).2.1, fun x c e => (hA b hb).2.2.2.1 x c e, (hA b hb).2.2.2.2⟩)
      (fun b ob _ _ hc q _ => z3 b ob hc q) (fun b ob _ _ hc q _ => ⟨ob.slots, z3 b ob hc q⟩) (fun _ _ _ _ n => n) (fun b ob hc q => ⟨ob, z3 b ob hc q⟩)
      (fun _ _ q => q) (fun _ _ _ q => q) (fun b ps q => ⟨#[], by rw [q]; simp⟩) (fun m hm => ?_) (fun b u q => ?_) z2
    · obtain ⟨ob, es, ep, ho, r⟩ := hm
      exact ⟨ob, es, ep, z3 _ ob hL ho, r⟩
    · refine (I0.hok b u q).stay (fun c v hc y => z3 c v ?_ y) (fun _ y => y) fun _ _ y => y
      rcases hc with y | y
      · rw [y]; exact nt b u q
      · exact nt c _ y
  refine ⟨os', z4, J.pins_of fun p hp => ?_⟩
  rcases List.mem_append.mp hp with hp | hp
  · have hb := z4.of hp
    exact ⟨(z4.is_ p hp).1, n0 _ hb, (hA _ hb).2.1, (hA _ hb).2.2.1, (z4.is_ p hp).2⟩
  · exact J.pin p (List.mem_append_right _ hp)
end
end L2
end
section
set_option Elab.async false
set_option linter.all false
set_option maxRecDepth 100000
set_option maxHeartbeats 2000000
namespace L2
open PySem PySem.Spec PyProof.Rows GenW

/-- how the consumer takes an item: what is out, the item, the heap; what the next turn wants -/
abbrev OutX := List V → V → Hp → Prop → Prop
/-- what the consumer's own objects say of what is out -/
abbrev CRelX := List V → Heap → Prop
structure CFrame (S : List Addr) (CR : CRelX) : Prop where
  frame : ∀ ys h h', CR ys h → (∀ b ∈ S, ∀ o, h.get? b = some o → h'.get? b = some o) → CR ys h'
def OwnKept (S : List Addr) (h h' : Heap) : Prop := ∀ b ∈ S, ∀ o, h.get? b = some o → h'.get? b = some o

section
variable (X : Cx) (s0 : Shared) (H0 : Hp) (fp S : List Addr) (CR : CRelX) (a : Addr) (g : Nat)
/-- a state of the world behind a part of the generator's run -/
structure GOut (s1 : Shared) (H' : Hp) : Prop where
  os : s1.os = s0.os
  bare : AllBare s1.gens
  un : Un (frs X.stack) fp H0 H' s0.heap s1.heap
  hok : HOk X.prog X.w H' s1.heap
  free : ∀ b ∈ S, H' b = none
  lim : s1.heap.NoLimit
  gen : s1.heap.IsGen a g
def YX (Out : OutX) : Protocol := fun n s₀ v s1 kap =>
  OwnKept S s₀.heap s1.heap ∧ ∃ ys y H', n + 1 + ys.length = sizeLine ∧ RelV y v ∧ GOut X s0 H0 fp S a g s1 H' ∧ CR ys s1.heap ∧
    Out ys y H' (∀ s', SleptX S s1 s' → CR (ys ++ [y]) s'.heap → kap (.send .none) s')
def RX (Fin : List V → Hp → Prop) : GenEnd := fun n s₀ r s1 => r = .ok .next ∧ OwnKept S s₀.heap s1.heap ∧ ∃ ys H', n + ys.length = sizeLine ∧ GOut X s0 H0 fp S a g s1 H' ∧ CR ys s1.heap ∧ Fin ys H'
end

theorem over_comp {A : Around} {elt : Expr} {gs : List Comprehension} {sc : Scope} {p : Pos} {it acc : Value} {env : Env} : A.over (.compLoop (.GeneratorExp elt gs sc p) 0 it acc env) [] = A.deeper env := by
  first
    | rfl
    | (obtain ⟨hd, d, fr, gs, u⟩ := A; simp [Around.over, Around.deeper, marksOver, frameCount, unitsOf, envsOf, guardsOf, pushEnvs, pushGuards, Code.envs, Code.env?, Code.isFrame, Code.guards, Code.isGuard, Code.weight, Code.frames, Code.isCreation, Code.isCaller, Code.cUnits])
theorem over_comps {A : Around} {elt : Expr} {gs : List Comprehension} {sc : Scope} {p : Pos} {it acc : Value} {env : Env} : A.over (.compStart (.GeneratorExp elt gs sc p) 0 it acc env) [] = A.deeper env := by
  first
    | rfl
    | (obtain ⟨hd, d, fr, gs, u⟩ := A; simp [Around.over, Around.deeper, marksOver, frameCount, unitsOf, envsOf, guardsOf, pushEnvs, pushGuards, Code.envs, Code.env?, Code.isFrame, Code.guards, Code.isGuard, Code.weight, Code.frames, Code.isCreation, Code.isCaller, Code.cUnits])

/-- the walk of a generator expression by turns: W by the turn, what is out, a measure -/
def GWalk (J : It) (g : TG) (tt : TT) (te : TE) (vs : List Nat) (σ : St) (Out : OutX) (Fin : List V → Hp → Prop) (W : Nat → List V → Nat → Hp → Prop) : Prop :=
  ∀ i ys m H, W i ys m H → (J.stop i H ∧ Fin ys H) ∨ (J.go i H ∧ ∃ Nx : List V → Hp → Prop, (∀ ys' H', Nx ys' H' → ∃ m', m' < m ∧ W (i + 1) ys' m' H') ∧
    ∀ x H', J.yld i H x H' → g x (wipe σ vs) H' fun σ2 H2 => wipe σ2 vs = wipe σ vs ∧ tt σ2 H2 fun b H3 =>
      if b = true then te σ2 H3 fun y H4 => ys.length < sizeLine ∧ Out ys y H4 (Nx (ys ++ [y]) H4) else Nx ys H3)

section
variable {X : Cx} {A : Around} {s0 : Shared} {H0 : Hp} {cenv : Env} {fp S : List Addr} {CR : CRelX} {a it : Addr} {g : Nat} {go : Obj} {tn : Nat → Heap → Prop} {J : It}
  {elt tg iter : Expr} {ifs : List Expr} {scope : Scope} {pos : Pos} {gT : TG} {tt : TT} {te : TE} {vs : List Nat} {σ : St} {Out : OutX} {Fin : List V → Hp → Prop} {W : Nat → List V → Nat → Hp → Prop}

theorem seg_gx (hh : A.handled = none) (hcalm : X.calm = true) (hgo : ∀ h : Heap, h.get? a = some go → h.IsGen a g) (hgoc : ∀ v, go.data ≠ .cell v) (hco : cenv.scope.isCoroutine = false)
    (hAp : ApartX (X.gen A s0 H0 cenv fp) S [(a, go)]) (CF : CFrame S CR) (hmono : ∀ ys y H N N', (N → N') → Out ys y H N → Out ys y H N')
    (T : Turn X.prog X.w X.K tg J fp it tn)
    (pg : PG (X.gen A s0 H0 cenv fp) tg gT) (pt : PTs (X.gen A s0 H0 cenv fp) ifs tt) (pe : PE (X.gen A s0 H0 cenv fp) elt te)
    (turn : GWalk J gT tt te vs σ Out Fin W)
    (hfp : ∀ b ∈ fp, b ∉ S ∧ b ≠ a) :
    ∀ (m n i : Nat) (ys : List V) (H : Hp) (os : List (Addr × Obj)) (s₀ s : Shared), n + ys.length = sizeLine → Owns S os s.heap → Inv (X.gen A s0 H0 cenv fp) (os ++ [(a, go)]) (wipe σ vs) H s → tn i s.heap → (∀ b ∈ fp, H b = none) → W i ys m H → CR ys s.heap → OwnKept S s₀.heap s.heap →
      Seg (model X.prog X.w) A (RX X s0 H0 fp S CR a g Fin) (YX X s0 H0 fp S CR a g Out) n s₀
        (.compLoop (.GeneratorExp elt [⟨tg, iter, ifs, 0⟩] scope pos) 0 (.ref it) .none cenv)
        ((model X.prog X.w).den (.compLoop (.GeneratorExp elt [⟨tg, iter, ifs, 0⟩] scope pos) 0 (.ref it) .none cenv)) [] s := by
  have stat : ∀ {os : List (Addr × Obj)} {σ' : St} {H' : Hp} {s' : Shared}, Owns S os s'.heap → Inv (X.gen A s0 H0 cenv fp) (os ++ [(a, go)]) σ' H' s' → (∀ b ∈ fp, H' b = none) → ∀ b ∈ fp, FpOk (X.gen A s0 H0 cenv fp) (os ++ [(a, go)]) H' b := fun {os σ' H' s'} ho I' hn b hb =>
    ⟨hn b hb, (I'.ok.exf b hb).1, I'.ok.exfs b hb, .inl hb, fun x c e => (I'.ok.exf b hb).2 x c e, fun p hp => by
      have hp : p ∈ os ++ [(a, go)] := hp
      rcases List.mem_append.mp hp with hp | hp
      · intro z
        exact (hfp b hb).1 (by rw [← z]; exact ho.of hp)
      · rw [List.mem_singleton.mp hp]
        exact fun z => (hfp b hb).2 z.symm⟩
  have out : ∀ {os : List (Addr × Obj)} {σ' : St} {H' : Hp} {s' : Shared} {rest : List (Addr × Obj)}, Owns S os s'.heap → Inv (X.gen A s0 H0 cenv fp) (os ++ [(a, go)] ++ rest) σ' H' s' → GOut X s0 H0 fp S a g s' H' := fun {os σ' H' s' rest} ho I' =>
    ⟨I'.os, I'.bare, I'.base, I'.hok, fun b hb => by
      obtain ⟨ob, hm⟩ := ho.mem hb
      exact (I'.pin (b, ob) (List.mem_append_right _ (List.mem_append_left _ (List.mem_append_left _ hm)))).2.1, I'.nolimit, hgo _ (I'.pin (a, go) (List.mem_append_right _ (List.mem_append_left _ (List.mem_append_right _ (List.mem_singleton.mpr rfl))))).1⟩
  have ownI : ∀ {os : List (Addr × Obj)} {σ' σ2 : St} {H' H2 : Hp} {s' s2 : Shared} {rest : List (Addr × Obj)}, Owns S os s'.heap → Inv (X.gen A s0 H0 cenv fp) (os ++ [(a, go)] ++ rest) σ2 H2 s2 → Owns S os s2.heap := fun {os σ' σ2 H' H2 s' s2 rest} ho I2 =>
    ⟨ho.at_, fun p hp => ⟨(I2.pin p (List.mem_append_right _ (List.mem_append_left _ (List.mem_append_left _ hp)))).1, (ho.is_ p hp).2⟩⟩
  have ownK : ∀ {os : List (Addr × Obj)} {h h' : Heap}, Owns S os h → Owns S os h' → OwnKept S h h' := fun {os h h'} o1 o2 b hb ob e => by
    obtain ⟨ob', hm⟩ := o1.mem hb
    have e1 := (o1.is_ _ hm).1
    have e2 := (o2.is_ _ hm).1
    rw [show h.get? b = some ob' from e1] at e
    cases e
    exact e2
  intro m
  induction m using Nat.strongRecOn with
  | ind m ih =>
    intro n i ys H os s₀ s hn ho I st hfn hw hcr hok
    show Seg _ A _ _ n s₀ _ ((compTurn (.GeneratorExp elt [⟨tg, iter, ifs, 0⟩] scope pos) 0 (.ref it) .none cenv).onRaise (leaving cenv)) [] s
    rw [compTurn_gen, Sem.onRaise_eq_wrap]
    refine seg_bind_wrap (wpAny_standAt ?_)
    rcases turn i ys m H hw with ⟨stop, qf⟩ | ⟨gogo, Nx, hNx, step⟩
    · refine seg_bind_wrap ?_
      rw [over_comp]
      refine wpAny_mono (T.done (X.gen A s0 H0 cenv fp) rfl rfl rfl hcalm i _ s _ H (fun _ _ => False) I (stat ho I hfn) st stop) (fun r s1 hr => ?_) fun _ _ z => z.elim
      obtain ⟨rfl, I1⟩ := hr
      have o1 : Owns S os s1.heap := ownI (σ' := σ) (H' := H) (s' := s) (rest := []) ho (by rw [List.append_nil]; exact I1)
      have k1 : OwnKept S s₀.heap s1.heap := fun b hb ob e => ownK ho o1 b hb ob (hok b hb ob e)
      refine seg_end (.ok .next) ⟨rfl, k1, ys, H, hn, out (rest := []) o1 (by rw [List.append_nil]; exact I1), CF.frame ys _ _ hcr (ownK ho o1), qf⟩
    · refine seg_bind_wrap ?_
      rw [over_comp]
      refine wpAny_mono (T.item (X.gen A s0 H0 cenv fp) rfl rfl rfl hcalm i _ s _ H (fun _ _ => False) I (stat ho I hfn) st gogo) (fun r s1 hr => ?_) fun _ _ z => z.elim
      obtain ⟨u, rfl, h1⟩ := hr
      refine seg_bind_wrap ?_
      rw [over_comp]
      refine wpAny_mono h1 (fun _ s2 h2 => ?_) fun _ _ z => z.elim
      obtain ⟨x, H2, I2, r2, y2, st2, n2⟩ := h2
      have o2 : Owns S os s2.heap := ownI (σ' := σ) (H' := H) (s' := s) (rest := []) ho (by rw [List.append_nil]; exact I2)
      have I2' := I2.pinned (stat o2 I2 n2) (T.obj _ _ st2)
      refine seg_bind_wrap ?_
      rw [over_comp]
      refine wpAny_mono (pg.run _ s2 _ H2 x u _ I2' r2 (step x H2 y2)) (fun _ s3 h3 => ?_) fun _ _ z => z.elim
      obtain ⟨σ3, H3, I3, hw3, q3⟩ := h3
      refine seg_bind_wrap ?_
      rw [over_comp]
      refine wpAny_mono (pt.run _ s3 σ3 H3 _ I3 q3) (fun b s4 h4 => ?_) fun _ _ z => z.elim
      obtain ⟨H4, I4, q4⟩ := h4
      have o4 : Owns S os s4.heap := ownI (σ' := σ) (H' := H) (s' := s) ho I4
      -- the turn's end
      have fin : ∀ {ys' : List V} {n' : Nat} {os' : List (Addr × Obj)} {s₀' s' : Shared} {H' : Hp}, n' + ys'.length = sizeLine → Owns S os' s'.heap → Inv (X.gen A s0 H0 cenv fp) (os' ++ [(a, go)] ++ pinsAt fp s2.heap) σ3 H' s' → Nx ys' H' → CR ys' s'.heap → OwnKept S s₀'.heap s'.heap →
          Seg (model X.prog X.w) A (RX X s0 H0 fp S CR a g Fin) (YX X s0 H0 fp S CR a g Out) n' s₀'
            (.compLoop (.GeneratorExp elt [⟨tg, iter, ifs, 0⟩] scope pos) 0 (.ref it) .none cenv) (.pure (.again (.compLoop (.GeneratorExp elt [⟨tg, iter, ifs, 0⟩] scope pos) 0 (.ref it) .none cenv))) [] s' := fun {ys' n' os' s₀' s' H'} hn' ho' I' nx hcr' hok' => by
        obtain ⟨m', hm, w'⟩ := hNx ys' H' nx
        have pin' : ∀ b ∈ fp, ∀ o, s2.heap.get? b = some o → s'.heap.get? b = some o ∧ H' b = none := fun b hb o e =>
          let z := I'.pin (b, o) (List.mem_append_right _ (List.mem_append_right _ (mem_pinsAt hb e)))
          ⟨z.1, z.2.1⟩
        have hl : (wipe σ vs).length = σ3.length := by rw [← hw3, wipe_length]
        refine seg_again rfl (ih m' hm n' (i + 1) ys' H' os' s₀' s' hn' ho' ((I'.unpinned).weak hl fun j v e => ?_) (T.keep _ _ _ st2 fun b hb o e => (pin' b hb o e).1) (fun b hb => ?_) w' hcr' hok')
        · rw [← hw3] at e
          exact (wipe_some e).1
        · obtain ⟨o, e, _⟩ := T.obj _ _ st2 b hb
          exact (pin' b hb o e).2
      cases b with
      | false =>
        simp only [Bool.false_eq_true, if_false] at q4 ⊢
        exact fin hn o4 I4 q4 (CF.frame ys _ _ hcr (ownK ho o4)) fun b hb ob e => ownK ho o4 b hb ob (hok b hb ob e)
      | true =>
        simp only [if_true] at q4 ⊢
        have hy : ∀ v, yieldOut cenv v = yieldValue v := fun v => by simp only [yieldOut, hco, Bool.false_eq_true, if_false]
        simp only [hy]
        rw [Sem.bind_eq_wrap', Sem.bind_eq_wrap', Sem.wrap_wrap, Sem.wrap_wrap]
        refine seg_wrap ?_
        rw [over_comp]
        refine wpAny_mono (pe.run _ s4 σ3 H4 _ I4 q4) (fun v s5 h5 => ?_) fun _ _ z => z.elim
        obtain ⟨y, H5, I5, r5, hlt, q5⟩ := h5
        have o5 : Owns S os s5.heap := ownI (σ' := σ) (H' := H) (s' := s) ho I5
        obtain ⟨n, rfl⟩ : ∃ k, n = k + 1 := ⟨n - 1, by omega⟩
        refine seg_at (seg_yield rfl rfl rfl ⟨fun b hb ob e => ownK ho o5 b hb ob (hok b hb ob e), ys, y, H5, hn, r5, out o5 I5, CF.frame ys _ _ hcr (ownK ho o5), ?_⟩)
        refine hmono ys y H5 _ _ (fun nx s' z hcr' => ?_) q5
        have ap : ApartX (X.gen A s0 H0 cenv fp) S ([(a, go)] ++ pinsAt fp s2.heap) := fun b hb => ⟨(hAp b hb).1, (hAp b hb).2.1, (hAp b hb).2.2.1, (hAp b hb).2.2.2.1, fun p hp => by
          have hp : p ∈ [(a, go)] ++ pinsAt fp s2.heap := hp
          rcases List.mem_append.mp hp with hp | hp
          · exact (hAp b hb).2.2.2.2 p hp
          · exact fun zz => (hfp _ (of_pinsAt hp).1).1 (by rw [zz]; exact hb)⟩
        obtain ⟨os', o', I'⟩ := Inv.woken (ip := [(a, go)] ++ pinsAt fp s2.heap) ap o5 (by rw [← List.append_assoc]; exact I5) z
        refine fin ?_ o' (by rw [List.append_assoc]; exact I') nx hcr' fun b hb ob e => e
        rw [List.length_append, List.length_singleton]; omega
end
end L2
end
section
set_option Elab.async false
set_option linter.all false
set_option maxRecDepth 100000
set_option maxHeartbeats 2000000
namespace L2
open PySem PySem.Spec PyProof.Rows GenW

/-- the objects at fp may turn amid a run that we began -/
def FpX (X : Cx) (pins : List (Addr × Obj)) (H : Hp) (s : Shared) (fp : List Addr) : Prop := ∀ b ∈ fp, FpOk X pins H b ∧ b < s.heap.objs.size
/-- a generator expression that has not begun: s0, H0 its making -/
def GMadeX (X : Cx) (s0 : Shared) (H0 : Hp) (fp : List Addr) (Out : OutX) (Fin : List V → Hp → Prop) (k : Nat) (u : Value) (s' : Shared) : Prop :=
  ∃ (a : Addr) (g : Nat) (c : Code), u = .ref a ∧ s0.heap.objs.size < a ∧ a < s'.heap.objs.size ∧ s'.heap.IsGen a g ∧ s'.gens[g]? = some (.fresh c) ∧ s'.os = s0.os ∧ AllBare s'.gens ∧ s'.heap.NoLimit ∧ (∀ b o, s0.heap.get? b = some o → s'.heap.get? b = some o) ∧
    ∀ (A : Around) (S : List Addr) (CR : CRelX) (s2 : Shared), RoomG (k + 1) A → A.frames = some X.stack → (∀ b ∈ S, s'.heap.objs.size ≤ b) → CFrame S CR → CR [] s2.heap → (∀ b o, s'.heap.get? b = some o → s2.heap.get? b = some o) → (∃ os, Owns S os s2.heap) → s2.os = s0.os → AllBare s2.gens →
      Seg (model X.prog X.w) A (RX X s0 H0 fp S CR a g Fin) (YX X s0 H0 fp S CR a g Out) sizeLine s2 c ((model X.prog X.w).den c) [] s2
/-- the reading of a generator expression with its consumer -/
def tGenW (P : Addr) (wi : TI) (gT : TG) (tt : TT) (te : TE) (vs : List Nat) (Out : Hp → OutX) (Fin : Hp → List V → Hp → Prop) : St → Hp → Prop := fun σ H =>
  wi σ H fun J H1 => GxR.TabG H1 P ∧ ∀ H2, GxR.Tabbed P H1 H2 → ∃ W, (∃ m, W 0 [] m H2) ∧ GWalk J gT tt te vs σ (Out H2) (Fin H2) W

/-- the element, the tests, the target of a generator expression in its own context, whatever it is -/
structure GParts (X : Cx) (k : Nat) (scope : Scope) (elt tg : Expr) (ifs : List Expr) (gT : TG) (tt : TT) (te : TE) : Prop where
  g : ∀ (A : Around) (s : Shared) (H : Hp) (C : Addr) (cl : List (Str × Addr)) (code : Value) (fp : List Addr), RoomG k (A.deeper (genEnv scope cl C code builtinsNs X.env)) → PG (X.gen A s H (genEnv scope cl C code builtinsNs X.env) fp) tg gT
  t : ∀ (A : Around) (s : Shared) (H : Hp) (C : Addr) (cl : List (Str × Addr)) (code : Value) (fp : List Addr), RoomG k (A.deeper (genEnv scope cl C code builtinsNs X.env)) → PTs (X.gen A s H (genEnv scope cl C code builtinsNs X.env) fp) ifs tt
  e : ∀ (A : Around) (s : Shared) (H : Hp) (C : Addr) (cl : List (Str × Addr)) (code : Value) (fp : List Addr), RoomG k (A.deeper (genEnv scope cl C code builtinsNs X.env)) → PE (X.gen A s H (genEnv scope cl C code builtinsNs X.env) fp) elt te

section
variable {X : Cx} {pins : List (Addr × Obj)} {σ : St} {H : Hp} {s : Shared}
theorem gen_make {c P : Addr} {elt tg iter : Expr} {ifs : List Expr} {scope : Scope} {own : List (Str × Nat)} {gpos : Pos} {wi : TI} {gT : TG} {tt : TT} {te : TE} {k kk : Nat} {Out : Hp → OutX} {Fin : Hp → List V → Hp → Prop} {Q' : Value → Shared → Prop}
    (hr : RoomG kk X.A) (hc : X.calm = true) (hN : X.N.Nodup) (TB : GxR.TabB X.base X.mg c P) (hcode : X.env.code = .ref c) (ok : GenOk X.N X.env.scope scope own) (hi : PI X tg iter wi) (G : GParts X k scope elt tg ifs gT tt te)
    (hmono : ∀ H2 ys y H N N', (N → N') → Out H2 ys y H N → Out H2 ys y H N')
    (hs : ∀ v, genFold iter X.env v = pure v) (I : Inv X pins σ H s) (h : tGenW P wi gT tt te (own.map (·.2)) Out Fin σ H)
    (hQ : ∀ u s' s0 H0 fp, Inv X pins σ H0 s0 → FpX X pins H0 s0 fp → (∃ ps : Array Value, H0 P = some (.tbl ps)) → GMadeX X s0 H0 fp (Out H0) (Fin H0) k u s' → Q' u s') :
    wpAny (model X.prog X.w) X.A (eval (.GeneratorExp elt [⟨tg, iter, ifs, 0⟩] scope gpos) X.env) Q' X.xe s := by
  have hfree : ∀ y ∈ scope.names, y.2 = .free → ∃ c, X.env.cells.lookup y.1 = some c := fun y hy e => by
    rcases ok.free y hy e with k | k
    · exact I.ok.has _ (.inl k)
    · exact I.ok.has _ (.inr k)
  refine wpAny_GeneratorExp_make ok.co (closure_ok hfree) ok.cell ok.dot ok.kind (by have := hr.dp; omega) ?_ hs
  refine thn (hi.run pins s σ H _ I h) fun xv s1 hx => thn hx fun itv s2 h2 => ?_
  obtain ⟨it, fp, tn, J, H2, rfl, I2, T, st2, f2, ⟨ps, hP, ht⟩, q⟩ := h2
  refine ⟨I2.nolimit, ?_⟩
  have hPs : s2.heap.get? P = some { cls := .none, data := .fields ps } := I2.hok P _ hP
  have hPlt : P < s2.heap.objs.size := Heap.lt_size hPs
  have cd : PySem.W.CodeHd s2.heap c P := TB.code.keeps fun b u e => I2.bk b u e
  have cont : ∀ (code : Value) (h3 : Heap) (tk : Nat) (ps' : Array Value), Heap.ExtBut P s2.heap h3 → s2.heap.objs.size ≤ h3.objs.size → h3.get? P = some { cls := .none, data := .fields ps' } → (∃ more, ps' = ps ++ more) → TriplesOk ps'.toList →
      wpAny (model X.prog X.w) X.A (builtinsFor X.env.globals X.env.builtins) (fun bi s₄ =>
        ∀ h', h'.Ns s₄.heap.objs.size (fun y => if y = ".0" then some (.ref it) else none) → Heap.SameBut s₄.heap.objs.size (s₄.heap.push { cls := .type "frame", data := .dict #[] }) h' →
          Q' (.ref h'.objs.size) { s₄ with
            gens := s₄.gens.push (.fresh (.compStart (.GeneratorExp elt [⟨tg, iter, ifs, 0⟩] scope gpos) 0 (.ref it) .none (genEnv scope (cloFrom X.env.cells scope.names []) s₄.heap.objs.size code bi X.env))),
            toks := s₄.toks + 1 + 1 + 1,
            heap := h'.push { cls := .type "generator", data := .fields #[.int s₄.gens.size 0, .str "<genexpr>" (s₄.toks + 1), .str (X.env.qual ++ "<genexpr>") (s₄.toks + 1 + 1)] } }) X.xe { s2 with heap := h3, toks := tk } := by
    intro code h3 tk ps' hx hsz hP3 hmore ht3
    obtain ⟨bm, ob, e1, e2, e3, e4, e5, e6, e7, e8⟩ := TB.bm
    have keep3 : ∀ b u, b ≠ P → s2.heap.get? b = some u → h3.get? b = some u := fun b u hb e => hx b u hb e
    obtain ⟨more, em⟩ := hmore
    have I3 := GxR.inv_tab (more := more) (h' := h3) (g' := s2.gens) (d' := s2.drawn) (t' := tk) I2 hP keep3 (by rw [← em]; exact hP3) I2.bare
    refine wpAny_builtinsFor (m := X.mg) (by rw [I2.ok.glob]; exact (I2.mod.glob.keeps I2.bk).extBut hx TB.gP) e1 e2 (keep3 _ _ e4 (I2.bk _ _ e5)) e6 e7 e8 ?_
    intro h' hn' hs'
    have hsz' : h'.objs.size = h3.objs.size + 1 := by
      have := hs'.1
      rw [Heap.size_push] at this
      exact this
    have keep' : ∀ b o, h3.get? b = some o → h'.get? b = some o := fun b o e => hs'.extBut b o (Nat.ne_of_lt (Heap.lt_size e)) (Heap.get?_push_of_some _ e)
    have f3 : FpX X pins (upd H2 P (.tbl (ps ++ more))) { s2 with heap := h3, gens := s2.gens, drawn := s2.drawn, toks := tk } fp := fun b hb => by
      obtain ⟨o, e, _⟩ := T.obj _ _ st2 b hb
      have nP : b ≠ P := fun z => by
        have := (f2 b hb).1
        rw [z, hP] at this; cases this
      exact ⟨⟨by rw [upd_ne nP]; exact (f2 b hb).1, (f2 b hb).2⟩, Heap.lt_size (keep3 b o nP e)⟩
    have I3 : Inv X pins σ (upd H2 P (.tbl (ps ++ more))) { s2 with heap := h3, toks := tk } := I3
    obtain ⟨W, ⟨m0, w0⟩, turn⟩ := q (upd H2 P (.tbl (ps ++ more))) ⟨⟨ps ++ more, upd_same, by rw [← em]; exact ht3⟩, fun b hb => upd_ne hb⟩
    refine hQ _ _ { s2 with heap := h3, toks := tk } (upd H2 P (.tbl (ps ++ more))) fp I3 f3 ⟨_, upd_same⟩ ?_
    generalize hgo : ({ cls := .type "generator", data := .fields #[.int s2.gens.size 0, .str "<genexpr>" (tk + 1), .str (X.env.qual ++ "<genexpr>") (tk + 1 + 1)] } : Obj) = go
    have hpush : (h'.push go).get? h'.objs.size = some go := by
      rw [← hgo]; exact Heap.get?_push_size _ rfl
    have hgen : ∀ h : Heap, h.get? h'.objs.size = some go → h.IsGen h'.objs.size s2.gens.size := fun h e => ⟨go, _, _, e, by rw [← hgo], by rw [← hgo], by rw [← hgo]⟩
    have hgoc : ∀ v, go.data ≠ .cell v := fun v => by rw [← hgo]; exact fun z => by cases z
    have kp5 : ∀ b o, h3.get? b = some o → (h'.push go).get? b = some o := fun b o e => Heap.get?_push_of_some _ (keep' b o e)
    refine ⟨h'.objs.size, s2.gens.size, _, rfl, (by show h3.objs.size < _; omega), (by show _ < (h'.push go).objs.size; rw [Heap.size_push]; exact Nat.lt_succ_self _), hgen _ hpush, Array.getElem?_push_size .., rfl, I2.bare.push rfl, I3.nolimit.keeps kp5, kp5, ?_⟩
    intro A S CR sw hrA hfA hS CF hcr hk hos hso hba
    have hS : ∀ b ∈ S, (h'.push go).objs.size ≤ b := hS
    have hk : ∀ b o, (h'.push go).get? b = some o → sw.heap.get? b = some o := hk
    obtain ⟨os, hos⟩ := hos
    have cL : (genEnv scope (cloFrom X.env.cells scope.names []) h3.objs.size code builtinsNs X.env).locals = h3.objs.size := rfl
    have I4 := gen_start (A := A) (code := code) (bi := builtinsNs) (h' := h'.push go) I3 ok hN hfA hrA.hd rfl f3 (hn'.push _) kp5
    have I4 : Inv (X.gen A { s2 with heap := h3, toks := tk } (upd H2 P (.tbl (ps ++ more))) (genEnv scope (cloFrom X.env.cells scope.names []) h3.objs.size code builtinsNs X.env) fp) [] (wipe σ (own.map (·.2))) (upd H2 P (.tbl (ps ++ more))) { s2 with heap := h'.push go, toks := tk } := I4
    have I5 : Inv (X.gen A { s2 with heap := h3, toks := tk } (upd H2 P (.tbl (ps ++ more))) (genEnv scope (cloFrom X.env.cells scope.names []) h3.objs.size code builtinsNs X.env) fp) [] (wipe σ (own.map (·.2))) (upd H2 P (.tbl (ps ++ more))) sw :=
      I4.call' (ch := []) hso (Un.kept hk) (I4.hok.kept hk) hba fun b z => by simp at z
    have szg : (h'.push go).objs.size = h3.objs.size + 2 := by rw [Heap.size_push, hsz']
    have cm : ∀ y c, (cloFrom X.env.cells scope.names []).lookup y = some c → c < h3.objs.size := fun y c e => by
      rcases cloFrom_mem (PySem.mem_of_lookup e) with hm | ⟨h1, rfl⟩
      · cases hm
      · obtain ⟨c, hc⟩ := hfree _ h1 rfl
        rw [hc]
        obtain ⟨w, z⟩ := I3.cell _ _ hc
        exact z.lt
    have young : ∀ b, h3.objs.size < b → (upd H2 P (.tbl (ps ++ more))) b = none ∧ b ≠ h3.objs.size ∧ b ∉ frs X.stack ∧ h3.objs.size ≤ b ∧ ∀ y c, (cloFrom X.env.cells scope.names []).lookup y = some c → c ≠ b := fun b hb => by
      refine ⟨I3.hok.fresh (Nat.le_of_lt hb), Nat.ne_of_gt hb, fun z => ?_, Nat.le_of_lt hb, fun y c e z => ?_⟩
      · rcases List.mem_cons.mp (I3.stkSub b z) with z | z
        · have := I3.lt
          rw [← z] at this
          exact absurd (Nat.lt_trans this hb) (Nat.lt_irrefl _)
        · exact I3.nofs (Nat.le_of_lt hb) z
      · have := cm y c e
        rw [z] at this
        exact absurd (Nat.lt_trans this hb) (Nat.lt_irrefl _)
    have hSy : ∀ b ∈ S, h'.objs.size < b := fun b hb => by
      have := hS b hb
      rw [Heap.size_push] at this
      exact this
    have haC : h3.objs.size < h'.objs.size := by rw [hsz']; exact Nat.lt_succ_self _
    have I6 : Inv (X.gen A { s2 with heap := h3, toks := tk } (upd H2 P (.tbl (ps ++ more))) (genEnv scope (cloFrom X.env.cells scope.names []) h3.objs.size code builtinsNs X.env) fp) (os ++ [(h'.objs.size, go)]) (wipe σ (own.map (·.2))) (upd H2 P (.tbl (ps ++ more))) sw := by
      refine I5.pins_of fun p hp => ?_
      rcases List.mem_append.mp hp with hp | hp
      · have hb := hos.of hp
        obtain ⟨y1, y2, y3, _⟩ := young p.1 (Nat.lt_trans haC (hSy _ hb))
        exact ⟨(hos.is_ p hp).1, y1, y2, y3, (hos.is_ p hp).2⟩
      · rw [List.mem_singleton.mp hp]
        obtain ⟨y1, y2, y3, _⟩ := young h'.objs.size haC
        exact ⟨hk _ _ hpush, y1, y2, y3, hgoc⟩
    have ap : ApartX (X.gen A { s2 with heap := h3, toks := tk } (upd H2 P (.tbl (ps ++ more))) (genEnv scope (cloFrom X.env.cells scope.names []) h3.objs.size code builtinsNs X.env) fp) S [(h'.objs.size, go)] := fun b hb => by
      obtain ⟨_, y2, y3, y4, y5⟩ := young b (Nat.lt_trans haC (hSy b hb))
      refine ⟨.inr y4, y2, y3, y5, fun p hp => ?_⟩
      rw [List.mem_singleton.mp (show p ∈ [(h'.objs.size, go)] from hp)]
      exact Nat.ne_of_lt (hSy b hb)
    have hfpS : ∀ b ∈ fp, b ∉ S ∧ b ≠ h'.objs.size := fun b hb => by
      have h1 : b < h3.objs.size := (f3 b hb).2
      exact ⟨fun z => absurd (Nat.lt_trans (Nat.lt_trans h1 haC) (hSy b z)) (Nat.lt_irrefl _), Nat.ne_of_lt (Nat.lt_trans h1 haC)⟩
    have stw : tn 0 sw.heap := T.keep _ _ _ st2 fun b hb o e => by
      have nP : b ≠ P := fun z => by
        have := (f2 b hb).1
        rw [z, hP] at this; cases this
      exact hk b o (kp5 b o (keep3 b o nP e))
    have rA : RoomG k (A.deeper (genEnv scope (cloFrom X.env.cells scope.names []) h3.objs.size code builtinsNs X.env)) := hrA.deeper _
    have loop := seg_gx (tg := tg) (iter := iter) (ifs := ifs) (scope := scope) (pos := gpos) hrA.hd hc hgen hgoc ok.co ap CF (fun ys y H N N' => hmono (upd H2 P (.tbl (ps ++ more))) ys y H N N') T (G.g A _ _ _ _ _ _ rA) (G.t A _ _ _ _ _ _ rA) (G.e A _ _ _ _ _ _ rA) turn hfpS m0 sizeLine 0 [] _ os sw sw (Nat.add_zero _) hos I6 stw (fun b hb => (f3 b hb).1.1) w0 hcr (fun b hb o e => e)
    show Seg _ A _ _ _ sw _ ((compStart (.GeneratorExp elt [⟨tg, iter, ifs, 0⟩] scope gpos) 0 (.ref it) .none (genEnv scope (cloFrom X.env.cells scope.names []) h3.objs.size code builtinsNs X.env)).onRaise (leaving _)) [] sw
    unfold compStart
    rw [Sem.onRaise_eq_wrap]
    show Seg _ A _ _ _ sw _ ((ask >>= _).wrap _ _ _ _) [] sw
    refine seg_bind_wrap (wpAny_askSetting ?_)
    split
    · exact seg_again rfl loop
    · first
        | exact seg_bind_wrap (wpAny_rule (seg_bind_wrap (wpAny_standAt (seg_bind_wrap (T.self _ 0 sw _ _ stw (seg_again rfl loop))))))
        | (refine seg_bind_wrap (wpAny_rule ?_); show Seg _ A _ _ _ sw _ ((standAt iter.pos >>= _).wrap _ _ _ _) [] sw; exact seg_bind_wrap (wpAny_standAt (seg_bind_wrap (T.self _ 0 sw _ _ stw (seg_again rfl loop)))))
  cases hf : codeAmong gpos ps.toList with
  | none =>
    refine wpAny_genexprCodeX hcode (cd.code hPs ht) (cd.tab hPs) hf fun c' h' tk hx hge hlt hco' _ htab' _ => ?_
    obtain ⟨o1, vs, f1, tf, fl, tg, inF, tx, tt, op, _, _, _, _, _, _, _, _, _, htr, _⟩ := hco'
    exact cont _ h' tk _ hx (Nat.le_trans hge (Nat.le_of_lt hlt)) htab'.2 ⟨_, rfl⟩ htr
  | some cv =>
    refine wpAny_genexprCode_hit hcode (cd.code hPs ht) hf ?_
    exact cont cv s2.heap s2.toks ps (Heap.ExtBut.refl _ _) (Nat.le_refl _) hPs ⟨#[], by simp⟩ ht
end
end L2
end
section
set_option Elab.async false
set_option linter.all false
set_option maxRecDepth 100000
set_option maxHeartbeats 2000000
namespace L2
open PySem PySem.Spec PyProof.Rows GenW

section
variable {X : Cx} {s0 : Shared} {H0 : Hp} {fp S : List Addr} {CR : CRelX} {a : Addr} {g : Nat} {Out : OutX} {Fin : List V → Hp → Prop}
theorem GOut.set {s1 : Shared} {H' : Hp} {gs : GenState} (o : GOut X s0 H0 fp S a g s1 H') (hb : gs.bare = true) : GOut X s0 H0 fp S a g (s1.setGen g gs) H' :=
  ⟨o.os, allBare_setGen o.bare hb, o.un, o.hok, o.free, o.lim, o.gen⟩
theorem GOut.kept {s1 : Shared} {H' : Hp} {h' : Heap} {t : Nat} (o : GOut X s0 H0 fp S a g s1 H') (k : ∀ b u, s1.heap.get? b = some u → h'.get? b = some u) : GOut X s0 H0 fp S a g { s1 with heap := h', toks := t } H' :=
  ⟨o.os, o.bare, o.un.trans (Un.kept k), o.hok.kept k, o.free, o.lim.keeps k, o.gen.keeps k⟩
theorem SleptX.of_set {s1 s' : Shared} {gs : GenState} (z : SleptX S (s1.setGen g gs) s') : SleptX S s1 s' := ⟨z.os, z.bare, z.keep, z.own⟩
/-- ready to be asked -/
def GRdy (X : Cx) (s0 : Shared) (H0 : Hp) (fp S : List Addr) (CR : CRelX) (a : Addr) (g : Nat) (Out : OutX) (Fin : List V → Hp → Prop) (A : Around) (m : Nat) (s : Shared) : Prop :=
  s.heap.IsGen a g ∧ s.heap.NoLimit ∧ ∃ gs, s.gens[g]? = some gs ∧ gs.Goes (model X.prog X.w) A.in1 (RX X s0 H0 fp S CR a g Fin) (YX X s0 H0 fp S CR a g Out) m (.send .none) (s.setGen g .running)
def NextX (X : Cx) (s0 : Shared) (H0 : Hp) (fp S : List Addr) (CR : CRelX) (a : Addr) (g : Nat) (Out : OutX) (Fin : List V → Hp → Prop) (A : Around) (m : Nat) (s : Shared) (r : Option Value) (s1 : Shared) : Prop :=
  match r with
  | some v => ∃ ys y H', RelV y v ∧ GOut X s0 H0 fp S a g s1 H' ∧ OwnKept S s.heap s1.heap ∧ CR ys s1.heap ∧ ys.length < sizeLine ∧
      Out ys y H' (∀ s', SleptX S s1 s' → CR (ys ++ [y]) s'.heap → s'.gens = s1.gens → a ∉ S → cStatics ∉ S → ∃ n, m = n + 1 ∧ GRdy X s0 H0 fp S CR a g Out Fin A n s')
  | none => ∃ ys H', GOut X s0 H0 fp S a g s1 H' ∧ OwnKept S s.heap s1.heap ∧ CR ys s1.heap ∧ ys.length ≤ sizeLine ∧ Fin ys H'
theorem next_gx {A : Around} {m : Nat} {s : Shared} {Q : Option Value → Shared → Prop} {E : Value → Shared → Prop} (hh : A.handled = none) (hroom : A.depth < recursionLimit) (CF : CFrame S CR)
    (hmono : ∀ ys y H N N', (N → N') → Out ys y H N → Out ys y H N')
    (R : GRdy X s0 H0 fp S CR a g Out Fin A m s) (hQ : ∀ r s1, NextX X s0 H0 fp S CR a g Out Fin A m s r s1 → Q r s1) :
    wpAny (model X.prog X.w) A (pyNext (.ref a)) Q E s := by
  obtain ⟨hg, hl, gs, hgs, hgo⟩ := R
  have hgl : g < s.gens.size := (Array.getElem?_eq_some_iff.mp hgs).1
  refine wpAny_gsz (n := g + 1) hgl (wpAny_pyNext_genexpQ (P := fun n s₀ s1 => OwnKept S s₀.heap s1.heap ∧ ∃ (ys : List V) (H' : Hp), n + ys.length = sizeLine ∧ GOut X s0 H0 fp S a g s1 H' ∧ CR ys s1.heap ∧ Fin ys H') hh hl hroom hg hgs hgo
    (fun v s1 gs' hb hv => ?_) (fun s1 hp h' hk => ?_))
  · intro hsz
    obtain ⟨k1, ys, y, H', hn, rv, go, hcr, ho⟩ := hv
    have hsz' : g < s1.gens.size := by
      have q : (s1.setGen g gs').gens.size = s1.gens.size := setGen_size _ _ _
      have hsz : g + 1 ≤ (s1.setGen g gs').gens.size := hsz
      omega
    refine hQ (some v) _ ⟨ys, y, H', rv, go.set hb, k1, hcr, by omega, hmono ys y H' _ _ (fun N s' z hcr' hge haS hcS => ?_) ho⟩
    have hN := N (s'.setGen g .running) ⟨z.os, allBare_setGen z.bare rfl, z.keep, z.own⟩ hcr'
    have gen' : s'.heap.IsGen a g := by
      obtain ⟨o, nm, qn, ho, r⟩ := go.gen
      exact ⟨o, nm, qn, z.keep a o haS ho, r⟩
    have lim' : s'.heap.NoLimit := by
      obtain ⟨mc, hns, hnn⟩ := go.lim
      exact ⟨mc, hns.at' fun o e => z.keep _ o hcS e, hnn⟩
    cases m with
    | zero => exact hN.elim
    | succ n => exact ⟨n, rfl, gen', lim', gs', by rw [hge]; exact setGen_at hsz', hN⟩
  · intro hsz
    obtain ⟨k1, ys, H', hn, go, hcr, hf⟩ := hp
    have o2 := (go.kept (t := s1.toks) hk).set (gs := .finished) rfl
    refine hQ none _ ⟨ys, H', o2, fun b hb o e => hk b o (k1 b hb o e), CF.frame ys _ _ hcr (fun b hb o e => hk b o e), by omega, hf⟩
/-- from a generator that was made to one that is ready -/
theorem rdy_of {k : Nat} {u : Value} {s' s2 : Shared} {A : Around} (G : GMadeX X s0 H0 fp Out Fin k u s') (hr : RoomG (k + 1) A.in1) (hf : A.frames = some X.stack) (hS : ∀ b ∈ S, s'.heap.objs.size ≤ b) (CF : CFrame S CR) (hcr : CR [] s2.heap)
    (hk : ∀ b o, s'.heap.get? b = some o → s2.heap.get? b = some o) (hos : ∃ os, Owns S os s2.heap) (ho : s2.os = s'.os) (hb : AllBare s2.gens) (hge : s2.gens = s'.gens) :
    ∃ a g, u = .ref a ∧ s2.TypeIs (.ref a) "generator" ∧ a ∉ S ∧ cStatics ∉ S ∧ GRdy X s0 H0 fp S CR a g Out Fin A sizeLine s2 := by
  obtain ⟨a, g, c, rfl, h0, h1, hg, hgs, ho', hb', hl, hkp, run⟩ := G
  have hg2 : s2.heap.IsGen a g := hg.keeps hk
  have hcl : cStatics < s'.heap.objs.size := let ⟨_, hn, _⟩ := hl; hn.lt
  refine ⟨a, g, rfl, hg2.typeIs, fun z => absurd (Nat.lt_of_lt_of_le h1 (hS a z)) (Nat.lt_irrefl _), fun z => absurd (Nat.lt_of_lt_of_le hcl (hS _ z)) (Nat.lt_irrefl _), hg2, hl.keeps hk, .fresh c, by rw [hge]; exact hgs, rfl, ?_⟩
  exact run A.in1 S CR (s2.setGen g .running) hr hf hS CF hcr hk hos (ho.trans ho') (allBare_setGen hb rfl)
end

/-! ### all, any -/
section
variable {X : Cx} {s0 : Shared} {H0 : Hp} {fp : List Addr} {a : Addr} {g : Nat} {Fin : List V → Hp → Prop}
def OutB (stop : Bool) (QB : Hp → Prop) : OutX := fun _ y H N => ∃ c, y = .bl c ∧ if c = stop then QB H else N
theorem outB_mono {stop : Bool} {QB : Hp → Prop} (ys : List V) (y : V) (H : Hp) (N N' : Prop) (h : N → N') (o : OutB stop QB ys y H N) : OutB stop QB ys y H N' := by
  obtain ⟨c, e, q⟩ := o
  refine ⟨c, e, ?_⟩
  split at q
  · rename_i z; rw [if_pos z]; exact q
  · rename_i z; rw [if_neg z]; exact h q
theorem cframe_true : CFrame [] (fun _ _ => True) := ⟨fun _ _ _ _ _ => trivial⟩
theorem slept_self {s : Shared} (hb : AllBare s.gens) : SleptX [] s s := ⟨rfl, hb, fun _ _ _ e => e, [], rfl, fun _ h => by simp at h⟩
theorem all_gx {A : Around} {R : Result → Shared → Prop} {QB : Hp → Prop} (hh : A.handled = none) (hd : A.depth < recursionLimit)
    (hend : ∀ s' H' ys, GOut X s0 H0 fp [] a g s' H' → Fin ys H' → R (.ok (.ret (.bool true))) s') (hstop : ∀ s' H', GOut X s0 H0 fp [] a g s' H' → QB H' → R (.ok (.ret (.bool false))) s') :
    ∀ (m : Nat) (s : Shared), GRdy X s0 H0 fp [] (fun _ _ => True) a g (OutB false QB) Fin A.in1 m s → codeAny (model X.prog X.w) A (.builtin "all.loop" ⟨[.ref a], []⟩) R s := by
  intro m
  induction m with
  | zero =>
    intro s hr
    refine codeAny_builtin F.entry_all_loop ?_
    rw [Around.under_plainId F.plain_all_loop _]
    show wpAny _ A.in1 (pyNext (.ref a) >>= _) _ _ s
    refine wpAny_bind (next_gx (A := A.in1) hh hd cframe_true outB_mono hr fun r s1 hn => ?_)
    cases r with
    | none =>
      obtain ⟨ys, H', go, _, _, _, hf⟩ := hn
      exact wpAny_bind (wpAny_rule (wpAny_pure (hend s1 H' ys go hf)))
    | some v =>
      obtain ⟨ys, y, H', rv, go, _, _, _, c, rfl, ho⟩ := hn
      cases rv
      refine wpAny_bind (wpAny_holding (wpAny_truthy_bool ?_))
      refine wpAny_bind (wpAny_letGo ?_)
      cases c with
      | false =>
        simp only [Bool.false_eq_true, if_false, if_true] at ho ⊢
        exact wpAny_bind (wpAny_rule (wpAny_pure (hstop s1 H' go ho)))
      | true =>
        simp only [Bool.true_eq_false, if_false] at ho
        obtain ⟨n, hn, _⟩ := ho s1 (slept_self go.bare) trivial rfl (by simp) (by simp)
        cases hn
  | succ m ih =>
    intro s hr
    refine codeAny_builtin F.entry_all_loop ?_
    rw [Around.under_plainId F.plain_all_loop _]
    show wpAny _ A.in1 (pyNext (.ref a) >>= _) _ _ s
    refine wpAny_bind (next_gx (A := A.in1) hh hd cframe_true outB_mono hr fun r s1 hn => ?_)
    cases r with
    | none =>
      obtain ⟨ys, H', go, _, _, _, hf⟩ := hn
      exact wpAny_bind (wpAny_rule (wpAny_pure (hend s1 H' ys go hf)))
    | some v =>
      obtain ⟨ys, y, H', rv, go, _, _, _, c, rfl, ho⟩ := hn
      cases rv
      refine wpAny_bind (wpAny_holding (wpAny_truthy_bool ?_))
      refine wpAny_bind (wpAny_letGo ?_)
      cases c with
      | false =>
        simp only [Bool.false_eq_true, if_false, if_true] at ho ⊢
        exact wpAny_bind (wpAny_rule (wpAny_pure (hstop s1 H' go ho)))
      | true =>
        simp only [Bool.true_eq_false, if_false, if_true] at ho ⊢
        obtain ⟨n, hn, hr'⟩ := ho s1 (slept_self go.bare) trivial rfl (by simp) (by simp)
        cases hn
        exact wpAny_pure ⟨plainId_quiet F.plain_all_loop _, ih s1 hr'⟩
end
end L2
end
section
set_option Elab.async false
set_option linter.all false
set_option maxRecDepth 100000
set_option maxHeartbeats 2000000
namespace L2
open PySem PySem.Spec PyProof.Rows GenW
section
variable {X : Cx} {s0 : Shared} {H0 H' : Hp} {fp S : List Addr} {a : Addr} {g : Nat} {pins : List (Addr × Obj)} {σ : St} {s1 : Shared}
theorem GOut.inv (go : GOut X s0 H0 fp S a g s1 H') (I : Inv X pins σ H0 s0) (f : FpX X pins H0 s0 fp) : Inv X pins σ H' s1 :=
  I.call' (ch := fp) go.os go.un go.hok go.bare fun b hb => ⟨(f b hb).1.2.2.2.1, (f b hb).1.2.1, (f b hb).1.2.2.2.2.1, (f b hb).1.2.2.2.2.2⟩
end
def tAllG (P : Addr) (wi : TI) (gT : TG) (tt : TT) (te : TE) (vs : List Nat) : TE := fun σ H Q =>
  tGenW P wi gT tt te vs (fun _ => OutB false (fun H' => Q (.bl false) H')) (fun _ _ H' => Q (.bl true) H') σ H
section
variable {X : Cx}
theorem pe_allG {c P : Addr} {elt tg iter : Expr} {ifs : List Expr} {scope : Scope} {own : List (Str × Nat)} {p pos gpos : Pos} {wi : TI} {gT : TG} {tt : TT} {te : TE} {k : Nat}
    (hr : RoomG (k + 3) X.A) (hc : X.calm = true) (hN : X.N.Nodup) (hg : Gl X "all") (hm : X.mg "all" = none) (TB : GxR.TabB X.base X.mg c P) (hcode : X.env.code = .ref c) (ok : GenOk X.N X.env.scope scope own) (hi : PI X tg iter wi) (G : GParts X k scope elt tg ifs gT tt te)
    (hs : ∀ v, genFold iter X.env v = pure v)
    (he : starEach [.GeneratorExp elt [⟨tg, iter, ifs, 0⟩] scope gpos] X.env = (false, eval (.GeneratorExp elt [⟨tg, iter, ifs, 0⟩] scope gpos) X.env) :: starEach [] X.env := by rfl) :
    PE X (.Call (.Name "all" p) [.GeneratorExp elt [⟨tg, iter, ifs, 0⟩] scope gpos] [] pos) (tAllG P wi gT tt te (own.map (·.2))) := by
  refine ⟨fun pins s σ H Q I h => ?_⟩
  refine wpAny_Call_Name_kw (ld_blt I hg hm boot_all ?_)
  refine PyProof.Rows.callWith_builtin1 ?_ he (by rfl)
  rw [he]
  show wpAny _ _ (spliced ((false, eval (.GeneratorExp elt [⟨tg, iter, ifs, 0⟩] scope gpos) X.env) :: backTo pos (starEach [] X.env))) _ _ s
  refine Calls.spliced_cons (gen_make hr hc hN TB hcode ok hi G (fun _ => outB_mono) hs I h fun u s' s0 H0 fp I0 f0 _ GM => ?_)
  refine Calls.spliced_nil ?_
  refine call_function_tree F.kind_all F.plain_all F.entry_all (F.args_all1 _) ?_
  unfold Builtin.«all»
  refine wpAny_bind (m := oneArg "all" _) (wpAny_pure ?_)
  obtain ⟨a, g, rfl, hty, _, _, hrd⟩ := rdy_of (S := []) (CR := fun _ _ => True) (s2 := s') (A := X.A.in1) GM ⟨⟨hr.hd, by have := hr.dp; show X.A.depth + 3 * (k + 1) + 5 < _; omega, by have := hr.un; show X.A.units + 1 + 1 + 16 * (k + 1) + 200 < _; omega⟩, hr.gd⟩ I0.ok.frames
    (fun b hb => by simp at hb) cframe_true trivial (fun _ _ e => e) ⟨[], rfl, fun _ h => by simp at h⟩ rfl (by obtain ⟨_, _, _, _, _, _, _, _, _, h, _⟩ := GM; exact h) rfl
  refine wpAny_bind (wpAny_pyIter_gen hrd.1 ?_)
  refine wpAny_pure ⟨plainId_quiet F.plain_all_loop _, all_gx hr.hd (by have := hr.dp; omega) (fun s2 H' ys go hf => ?_) (fun s2 H' go hf => ?_) sizeLine s' hrd⟩
  · exact ⟨.bl true, H', go.inv I0 f0, rfl, hf⟩
  · exact ⟨.bl false, H', go.inv I0 f0, rfl, hf⟩
end
end L2
end
section
set_option Elab.async false
set_option linter.all false
set_option maxRecDepth 100000
set_option maxHeartbeats 2000000
namespace L2
open PySem PySem.Spec PyProof.Rows GenW
/-! ### collecting -/
def CRList (S : Addr) : CRelX := fun ys h => ∃ (acc : Array Value) (c : Nat), h.get? S = some (lstObj acc c) ∧ Vals ys acc.toList
theorem cframe_list (S : Addr) : CFrame [S] (CRList S) := ⟨fun ys h h' ⟨acc, c, e, r⟩ k => ⟨acc, c, k S (List.mem_singleton.mpr rfl) _ e, r⟩⟩
def OutT : OutX := fun _ _ _ N => N
theorem outT_mono (ys : List V) (y : V) (H : Hp) (N N' : Prop) (h : N → N') (o : OutT ys y H N) : OutT ys y H N' := h o
section
variable {X : Cx} {s0 : Shared} {H0 : Hp} {fp : List Addr} {a : Addr} {g : Nat} {Fin : List V → Hp → Prop}
theorem drain_gx {A : Around} {R : Result → Shared → Prop} {S : Addr} {res : Value} (hh : A.handled = none) (hd : A.depth < recursionLimit) (haS : a ≠ S) (hcS : cStatics ≠ S)
    (hend : ∀ s' H' ys acc c, GOut X s0 H0 fp [S] a g s' H' → s'.heap.get? S = some (lstObj acc c) → Vals ys acc.toList → ys.length ≤ sizeLine → Fin ys H' → R (.ok (.ret res)) s') :
    ∀ (m : Nat) (s : Shared), GRdy X s0 H0 fp [S] (CRList S) a g OutT Fin A.in1 m s → codeAny (model X.prog X.w) A (.builtin "list.extend.loop" ⟨[.ref S, .ref a, res], []⟩) R s := by
  have haS' : a ∉ [S] := fun h => haS (List.mem_singleton.mp h)
  have hcS' : cStatics ∉ [S] := fun h => hcS (List.mem_singleton.mp h)
  have put : ∀ {s1 : Shared} {ys : List V} {y : V} {v : Value} {acc : Array Value} {c : Nat}, AllBare s1.gens → s1.heap.get? S = some (lstObj acc c) → Vals ys acc.toList → RelV y v →
      SleptX [S] s1 { s1 with heap := s1.heap.update S (Obj.mapSeq (·.push v)) } ∧ CRList S (ys ++ [y]) (s1.heap.update S (Obj.mapSeq (·.push v))) := fun {s1 ys y v acc c} hb e r rv => by
    obtain ⟨c', e'⟩ : ∃ c', (s1.heap.update S (Obj.mapSeq (·.push v))).get? S = some (lstObj (acc.push v) c') := ⟨_, Heap.get?_update_self _ e rfl⟩
    refine ⟨⟨rfl, hb, fun b o hbS q => (Heap.get?_update_other _ _ (fun z => hbS (by rw [z]; exact List.mem_singleton.mpr rfl))).trans q, [(S, lstObj (acc.push v) c')], rfl, fun p hp => ?_⟩, _, _, e', ?_⟩
    · rw [List.mem_singleton.mp hp]
      exact ⟨e', fun v z => by cases z⟩
    · rw [Array.toList_push]
      exact r.append (.cons rv .nil)
  intro m
  induction m with
  | zero =>
    intro s hr
    refine codeAny_builtin F.entry_extend_loop ?_
    rw [Around.under_plainId F.plain_extend_loop _]
    show wpAny _ A.in1 (pyNext (.ref a) >>= _) _ _ s
    refine wpAny_bind (next_gx (A := A.in1) hh hd (cframe_list S) outT_mono hr fun r s1 hn => ?_)
    cases r with
    | none =>
      obtain ⟨ys, H', go, _, ⟨acc, c, e, rv⟩, hl, hf⟩ := hn
      exact wpAny_pure (hend s1 H' ys acc c go e rv hl hf)
    | some v =>
      obtain ⟨ys, y, H', rv, go, _, ⟨acc, c, e, r⟩, _, ho⟩ := hn
      obtain ⟨z1, z2⟩ := put go.bare e r rv
      obtain ⟨n, hn, _⟩ := ho _ z1 z2 rfl haS' hcS'
      cases hn
  | succ m ih =>
    intro s hr
    refine codeAny_builtin F.entry_extend_loop ?_
    rw [Around.under_plainId F.plain_extend_loop _]
    show wpAny _ A.in1 (pyNext (.ref a) >>= _) _ _ s
    refine wpAny_bind (next_gx (A := A.in1) hh hd (cframe_list S) outT_mono hr fun r s1 hn => ?_)
    cases r with
    | none =>
      obtain ⟨ys, H', go, _, ⟨acc, c, e, rv⟩, hl, hf⟩ := hn
      exact wpAny_pure (hend s1 H' ys acc c go e rv hl hf)
    | some v =>
      obtain ⟨ys, y, H', rv, go, _, ⟨acc, c, e, r⟩, hlt, ho⟩ := hn
      obtain ⟨z1, z2⟩ := put go.bare e r rv
      obtain ⟨n, hn, hr'⟩ := ho _ z1 z2 rfl haS' hcS'
      cases hn
      have hasz : acc.size < sizeLine := by
        have e1 := r.length
        have e2 : acc.toList.length = acc.size := by simp
        omega
      show wpAny _ A.in1 (updateSeq S (·.push v) >>= _) _ _ _
      refine wpAny_bind ?_
      refine wpAny_updateSeq e rfl (wpAny_pure ⟨plainId_quiet F.plain_extend_loop _, ih _ hr'⟩) (Nat.le_of_lt hasz) (by show (acc.push v).size ≤ sizeLine + 1; rw [Array.size_push]; omega)

/-- what stands behind a collecting: the list S, and the world -/
theorem collect_gx {k : Nat} {u : Value} {s : Shared} {A : Around} {Q : List Value → Shared → Prop} {E : Value → Shared → Prop} (G : GMadeX X s0 H0 fp OutT Fin k u s) (hr : RoomG (k + 3) A) (hf : A.frames = some X.stack)
    (hQ : ∀ s' H' ys acc c S a g, GOut X s0 H0 fp [S] a g s' H' → s'.heap.get? S = some (lstObj acc c) → Vals ys acc.toList → ys.length ≤ sizeLine → Fin ys H' → Q acc.toList s') :
    wpAny (model X.prog X.w) A (collect u) Q E s := by
  have G0 := G
  obtain ⟨a, g, c, rfl, h0, h1, hg, hgs, ho', hb', hl, hkp, run⟩ := G
  have hTI : s.TypeIs (.ref a) "generator" := hg.typeIs
  have haS : a ≠ s.heap.objs.size := Nat.ne_of_lt h1
  have hcl : cStatics < s.heap.objs.size := let ⟨_, hn, _⟩ := hl; hn.lt
  unfold collect
  refine wpAny_bind (wpAny_runValue (codeAny_builtin F.entry_proto_collect ?_))
  rw [Around.under_plainId F.plain_proto_collect _]
  show wpAny _ A.in1 (newList [] >>= fun l => again (.builtin "list.__iadd__" ⟨[l, .ref a], []⟩)) _ _ s
  refine wpAny_bind (wpAny_newObj_type ?_)
  refine wpAny_pure ⟨plainId_quiet F.plain_list_iadd _, codeAny_builtin F.entry_list_iadd ?_⟩
  rw [Around.under_plainId F.plain_list_iadd _]
  show wpAny _ A.in1 (Builtin.List.listExtendWith (.ref s.heap.objs.size) (.ref a) (.ref s.heap.objs.size)) _ _ _
  unfold Builtin.List.listExtendWith
  have kp1 : ∀ b o, s.heap.get? b = some o → (s.heap.push { cls := .type "list", data := .seq ([] : List Value).toArray }).get? b = some o := fun b o e => Heap.get?_push_of_some _ e
  refine wpAny_bind (wpAny_typeOf (Heap.IsGen.typeIs (s := { s with heap := _ }) (hg.keeps kp1)) ?_)
  have h1' : Builtin.List.listSameRef (.ref s.heap.objs.size) (.ref a) = false := by simp [Builtin.List.listSameRef, Ne.symm haS]
  have h2 : (Value.type "generator" == Value.type "list") = false := by decide
  have h3 : (Value.type "generator" == Value.type "tuple") = false := by decide
  simp only [h1', h2, h3, Bool.or_false, Bool.false_eq_true, if_false]
  refine wpAny_bind (wpAny_pyIter_gen (s := { s with heap := _ }) (hg.keeps kp1) ?_)
  refine wpAny_bind (wpAny_holding ?_)
  unfold Builtin.List.listLengthHint
  refine wpAny_bind (wpAny_specialOf (Heap.IsGen.typeIs (s := { s with heap := _ }) (hg.keeps kp1)) F.gen_no_len ?_)
  show wpAny _ A.in1 (specialOf (Value.ref a) (Str.ofString "__length_hint__") >>= _) _ _ _
  refine wpAny_bind (wpAny_specialOf (Heap.IsGen.typeIs (s := { s with heap := _ }) (hg.keeps kp1)) F.gen_no_hint ?_)
  refine wpAny_pure ?_
  show wpAny _ A.in1 (rule "list.extend.makes-room" >>= fun _ => Builtin.List.listTouch (.ref s.heap.objs.size) >>= fun _ =>
    again (.builtin "list.extend.loop" ⟨[.ref s.heap.objs.size, .ref a, .ref s.heap.objs.size], []⟩)) _ _ _
  refine wpAny_bind (wpAny_rule ?_)
  have hS1 : (s.heap.push { cls := .type "list", data := .seq ([] : List Value).toArray }).get? s.heap.objs.size = some { cls := .type "list", data := .seq ([] : List Value).toArray } := Heap.get?_push_size _ rfl
  refine wpAny_bind ?_
  show wpAny _ A.in1 (updateSeq s.heap.objs.size (·.push .none) >>= fun _ => updateSeq s.heap.objs.size (·.pop)) _ _ _
  refine wpAny_bind (wpAny_updateSeq hS1 rfl ?_)
  have hS2 := Heap.get?_update_self (Obj.mapSeq (·.push Value.none)) hS1 rfl
  refine wpAny_updateSeq hS2 rfl ?_
  have hS3 := Heap.get?_update_self (Obj.mapSeq (·.pop)) hS2 rfl
  have oth : ∀ b o, b ≠ s.heap.objs.size → (s.heap.push { cls := .type "list", data := .seq ([] : List Value).toArray }).get? b = some o →
      (((s.heap.push { cls := .type "list", data := .seq ([] : List Value).toArray }).update s.heap.objs.size (Obj.mapSeq (·.push Value.none))).update s.heap.objs.size (Obj.mapSeq (·.pop))).get? b = some o :=
    fun b o hb e => (Heap.get?_update_other _ _ (Ne.symm hb)).trans ((Heap.get?_update_other _ _ (Ne.symm hb)).trans e)
  have kp2 : ∀ b o, s.heap.get? b = some o → (((s.heap.push { cls := .type "list", data := .seq ([] : List Value).toArray }).update s.heap.objs.size (Obj.mapSeq (·.push Value.none))).update s.heap.objs.size (Obj.mapSeq (·.pop))).get? b = some o :=
    fun b o e => oth b o (Nat.ne_of_lt (Heap.lt_size e)) (kp1 b o e)
  obtain ⟨a', g', ea, _, _, _, hrd⟩ := rdy_of (S := [s.heap.objs.size]) (CR := CRList s.heap.objs.size) (A := A.in1) (s2 := { s with heap := (((s.heap.push { cls := .type "list", data := .seq ([] : List Value).toArray }).update s.heap.objs.size (Obj.mapSeq (·.push Value.none))).update s.heap.objs.size (Obj.mapSeq (·.pop))) }) G0
    ⟨⟨hr.hd, by have := hr.dp; show A.depth + 3 * (k + 1) + 5 < _; omega, by have := hr.un; show A.units + 1 + 1 + 16 * (k + 1) + 200 < _; omega⟩, hr.gd⟩ hf
    (fun b hb => by rw [List.mem_singleton.mp hb]; exact Nat.le_refl _) (cframe_list _) ⟨#[], _, hS3, .nil⟩ kp2 ⟨[(s.heap.objs.size, _)], rfl, fun p hp => by rw [List.mem_singleton.mp hp]; exact ⟨hS3, fun v z => by cases z⟩⟩ rfl hb' rfl
  have ea' : a = a' := by cases ea; rfl
  subst ea'
  refine wpAny_pure ⟨plainId_quiet F.plain_extend_loop _, drain_gx hr.hd (by have := hr.dp; omega) haS (Nat.ne_of_lt hcl) (fun s' H' ys acc c go e r hle hf => ?_) sizeLine _ hrd⟩
  show wpAny _ A (load s.heap.objs.size >>= _) _ _ s'
  refine wpAny_bind (wpAny_load e ?_)
  exact wpAny_pure (hQ s' H' ys acc c _ a g' go e r hle hf)
end

/-! ### tuple(..) -/
def tTupG (P : Addr) (wi : TI) (gT : TG) (tt : TT) (te : TE) (vs : List Nat) : TE := fun σ H Q =>
  tGenW P wi gT tt te vs (fun _ => OutT) (fun _ ys H' => ∀ p, H' p = none → Q (.ref p) (upd H' p (.tup ys))) σ H
section
variable {X : Cx}
theorem pe_tupG {c P : Addr} {elt tg iter : Expr} {ifs : List Expr} {scope : Scope} {own : List (Str × Nat)} {p pos gpos : Pos} {wi : TI} {gT : TG} {tt : TT} {te : TE} {k : Nat}
    (hr : RoomG (k + 4) X.A) (hc : X.calm = true) (hN : X.N.Nodup) (hg : Gl X "tuple") (hm : X.mg "tuple" = none) (TB : GxR.TabB X.base X.mg c P) (hcode : X.env.code = .ref c) (ok : GenOk X.N X.env.scope scope own) (hi : PI X tg iter wi) (G : GParts X k scope elt tg ifs gT tt te)
    (hs : ∀ v, genFold iter X.env v = pure v)
    (he : starEach [.GeneratorExp elt [⟨tg, iter, ifs, 0⟩] scope gpos] X.env = (false, eval (.GeneratorExp elt [⟨tg, iter, ifs, 0⟩] scope gpos) X.env) :: starEach [] X.env := by rfl) :
    PE X (.Call (.Name "tuple" p) [.GeneratorExp elt [⟨tg, iter, ifs, 0⟩] scope gpos] [] pos) (tTupG P wi gT tt te (own.map (·.2))) := by
  refine ⟨fun pins s σ H Q I h => ?_⟩
  refine wpAny_Call_Name_kw (ld_blt I hg hm (by decide +kernel : bootBuiltins "tuple" = some (.type "tuple")) ?_)
  refine PyProof.Rows.callWith_type1 ?_ he rfl
  rw [he]
  show wpAny _ _ (spliced ((false, eval (.GeneratorExp elt [⟨tg, iter, ifs, 0⟩] scope gpos) X.env) :: backTo pos (starEach [] X.env))) _ _ s
  refine Calls.spliced_cons (gen_make hr hc hN TB hcode ok hi G (fun _ => outT_mono) hs I h fun u s' s0 H0 fp I0 f0 _ GM => ?_)
  refine Calls.spliced_nil ?_
  have hty : s'.TypeIs u "generator" := by
    obtain ⟨a, g, c, rfl, _, _, hg, _⟩ := GM
    exact hg.typeIs
  refine callType_codes (Q₁ := fun obj s₁ => s₁.TypeIs obj "tuple" ∧ EP X pins σ Q obj s₁) F.called_tuple (F.typeCall_tuple_1 _) F.entry_object_init ?_ fun obj s₁ h₁ =>
    ⟨h₁.1, F.args_object_init_2 obj _, object_init_meets F.called_tuple.init.lookup F.called_tuple.made (by decide) X.prog X.w X.A.in1 _ s₁ ⟨h₁.1, rfl, h₁.2⟩⟩
  refine codeAny_of_tree ?_
  show wpAny _ X.A.in1.in1 (do checkBuiltinCall "tuple.__new__" ⟨[.type "tuple", u], []⟩; again (.builtin "tuple.__new__" ⟨[.type "tuple", u], []⟩)) _ _ s'
  refine wpAny_bind (wpAny_of_eq (F.newCall_tuple_1 _) (wpAny_pure ⟨plainId_quiet F.plain_tuple_new _, codeAny_builtin F.entry_tuple_new ?_⟩))
  rw [Around.under_plainId F.plain_tuple_new _]
  have hsub := sub_tuple_self
  have hinit := init_tuple_lookup
  have hmh := madeHere_tuple
  have hA2 : RoomG (k + 3) X.A.in1.in1 := ⟨⟨hr.hd, by have := hr.dp; show X.A.depth + 3 * (k + 3) + 5 < _; omega, by have := hr.un; show X.A.units + 1 + 1 + 16 * (k + 3) + 200 < _; omega⟩, hr.gd⟩
  wp_walk using wpAny_typeOf hty, collect_gx (A := X.A.in1.in1) GM hA2 I0.ok.frames
  intro s2 H' ys acc cc S a g go e r hle hf
  show wpAny _ _ (Builtin.Tuple.tupleExact acc.toList.toArray >>= fun v => ret v) _ _ _
  unfold Builtin.Tuple.tupleExact
  have hsz : acc.size ≤ sizeLine := by
    have e1 := r.length
    have e2 : acc.toList.length = acc.size := by simp
    omega
  refine wpAny_bind (wpAny_newObj_type ?_ (by show acc.toList.toArray.size ≤ sizeLine; simp only [Array.toArray_toList]; exact hsz))
  refine wpAny_pure ?_
  have I2 := go.inv I0 f0
  refine ⟨⟨_, Heap.get?_push_size _ rfl, rfl⟩, .ref s2.heap.objs.size, upd H' s2.heap.objs.size (.tup ys), I2.laid (t' := s2.toks) (fun b o e => Heap.get?_push_of_some _ e) (Nat.le_refl _) ⟨hle, acc.toList, r, ?_⟩, rfl, hf _ (I2.hok.fresh (Nat.le_refl _))⟩
  exact ⟨_, Heap.get?_push_size _ rfl, rfl, _, rfl⟩
end
end L2
end
section
set_option Elab.async false
set_option linter.all false
set_option maxRecDepth 100000
set_option maxHeartbeats 1000000
namespace Pd
open PySem PySem.Spec PyProof.Rows L2

/-! ### the deck, the slots, the ghosts -/
structure Dk where
  cells : List Int
  mixed : Int
  draws : Int
/-- an object of one's own: a list; a dict whose keys are ints and texts; one whose keys are tuples of such -/
inductive OD where
  | l (ds : List PyData) | k (kvs : List (Key × PyData)) | t (kvs : List (List Key × PyData))
inductive Sl where
  | un | val (d : PyData) | obj (o : OD) | dck
abbrev Sl.own (ds : List PyData) : Sl := .obj (.l ds)
structure Ab where
  ρ : List Sl
  δ : Option Dk
structure Gh where
  ad : Nat → Addr
  dk : Addr
  dc : Addr
  O : Addr → Prop
def ownAt (ρ : List Sl) (i : Nat) : Prop := ∃ o, ρ[i]? = some (.obj o)
def Hid (α : Ab) (g : Gh) (a : Addr) : Prop := g.O a ∨ (∃ i, ownAt α.ρ i ∧ g.ad i = a) ∨ (α.δ ≠ none ∧ (a = g.dk ∨ a = g.dc))
open Classical in
noncomputable def vw (α : Ab) (g : Gh) (H : Hp) : Hp := fun a => if Hid α g a then none else H a
theorem vw_some {α : Ab} {g : Gh} {H : Hp} {a : Addr} {o : HO} (h : vw α g H a = some o) : H a = some o ∧ ¬ Hid α g a := by
  unfold vw at h
  split at h
  · cases h
  · rename_i n; exact ⟨h, n⟩
theorem vw_of {α : Ab} {g : Gh} {H : Hp} {a : Addr} {o : HO} (h : H a = some o) (n : ¬ Hid α g a) : vw α g H a = some o := by
  unfold vw; rw [if_neg n]; exact h
/-! ### data in the tracked heap -/
mutual
inductive Rp (K : PySem.W.Frag) (H : Hp) : V → PyData → Prop
  | non : Rp K H .non .none
  | bl (b : Bool) : Rp K H (.bl b) (.bool b)
  | int (i : Int) : Rp K H (.int i) (.int i)
  | str (x : Str) : Rp K H (.str x) (.str x)
  | lst {a : Addr} {xs : List V} {ds : List PyData} : H a = some (.lst xs) → RpA K H xs ds → Rp K H (.ref a) (.list ds)
  | tup {a : Addr} {xs : List V} {ds : List PyData} : H a = some (.tup xs) → RpA K H xs ds → Rp K H (.ref a) (.tuple ds)
inductive RpA (K : PySem.W.Frag) (H : Hp) : List V → List PyData → Prop
  | nil : RpA K H [] []
  | cons {v : V} {vs : List V} {d : PyData} {ds : List PyData} : Rp K H v d → RpA K H vs ds → RpA K H (v :: vs) (d :: ds)
end
/-- what can be read stays so -/
def Ext (V V' : Hp) : Prop := ∀ a, (∀ xs, V a = some (.lst xs) → V' a = some (.lst xs)) ∧ ∀ xs, V a = some (.tup xs) → V' a = some (.tup xs)
theorem Ext.L {V V' : Hp} {a : Addr} {xs : List L2.V} (E : Ext V V') (q : V a = some (.lst xs)) : V' a = some (.lst xs) := (E a).1 xs q
theorem Ext.T {V V' : Hp} {a : Addr} {xs : List L2.V} (E : Ext V V') (q : V a = some (.tup xs)) : V' a = some (.tup xs) := (E a).2 xs q
theorem Ext.refl (V : Hp) : Ext V V := fun _ => ⟨fun _ h => h, fun _ h => h⟩
theorem Ext.trans {V V1 V2 : Hp} (h : Ext V V1) (k : Ext V1 V2) : Ext V V2 := fun a => ⟨fun xs q => (k a).1 xs ((h a).1 xs q), fun xs q => (k a).2 xs ((h a).2 xs q)⟩
theorem Ext.of {V V' : Hp} (h : ∀ a o, V a = some o → V' a = some o) : Ext V V' := fun a => ⟨fun xs q => h a _ q, fun xs q => h a _ q⟩
section
variable {K : PySem.W.Frag} {V V' : Hp}
mutual
theorem rp_dp : ∀ (d : PyData) (v : L2.V), Rp K V v d → Dp K V v d
  | .none, _, h => by cases h; exact .non
  | .bool b, _, h => by cases h; exact .bl b
  | .int i, _, h => by cases h; exact .int i
  | .str x, _, h => by cases h; exact .str x
  | .list ds, _, h => by
    cases h with
    | lst q r => exact .lst (SqL.of q) (rpa_dp ds _ r)
  | .tuple ds, _, h => by
    cases h with
    | tup q r => exact .tup (SqT.of q) (rpa_dp ds _ r)
  | .dict _, _, h => nomatch h
theorem rpa_dp : ∀ (ds : List PyData) (vs : List L2.V), RpA K V vs ds → DpAll K V vs ds
  | [], _, h => by cases h; exact .nil
  | d :: ds, _, h => by
    cases h with
    | cons q r => exact .cons (rp_dp d _ q) (rpa_dp ds _ r)
end
mutual
theorem dp_ext (E : Ext V V') : ∀ (d : PyData) (v : L2.V), Rp K V v d → Rp K V' v d
  | .none, _, h => by cases h; exact .non
  | .bool b, _, h => by cases h; exact .bl b
  | .int i, _, h => by cases h; exact .int i
  | .str x, _, h => by cases h; exact .str x
  | .list ds, _, h => by
    cases h with
    | lst q r => exact .lst (E.L q) (dpa_ext E ds _ r)
  | .tuple ds, _, h => by
    cases h with
    | tup q r => exact .tup (E.T q) (dpa_ext E ds _ r)
  | .dict _, _, h => nomatch h
theorem dpa_ext (E : Ext V V') : ∀ (ds : List PyData) (vs : List L2.V), RpA K V vs ds → RpA K V' vs ds
  | [], _, h => by cases h; exact .nil
  | d :: ds, _, h => by
    cases h with
    | cons q r => exact .cons (dp_ext E d _ q) (dpa_ext E ds _ r)
end
theorem dpa_len : ∀ {ds : List PyData} {vs : List L2.V}, RpA K V vs ds → vs.length = ds.length
  | [], _, h => by cases h; rfl
  | d :: ds, _, h => by
    cases h with
    | cons q r => rw [List.length_cons, List.length_cons, dpa_len r]
theorem dpa_get : ∀ {ds : List PyData} {vs : List L2.V} {i : Nat} {d : PyData}, RpA K V vs ds → ds[i]? = some d → ∃ v, vs[i]? = some v ∧ Rp K V v d
  | [], _, _, _, _, e => by simp at e
  | _ :: _, _, 0, _, h, e => by
    cases h with
    | cons q r => simp at e; subst e; exact ⟨_, rfl, q⟩
  | _ :: _, _, i + 1, d, h, e => by
    cases h with
    | cons q r =>
      obtain ⟨v, h1, h2⟩ := dpa_get (i := i) (d := d) r (by simpa using e)
      exact ⟨v, by simpa using h1, h2⟩
theorem dpa_app : ∀ {ds es : List PyData} {vs us : List L2.V}, RpA K V vs ds → RpA K V us es → RpA K V (vs ++ us) (ds ++ es)
  | [], _, _, _, h, k => by cases h; exact k
  | _ :: _, _, _, _, h, k => by
    cases h with
    | cons q r => exact .cons q (dpa_app r k)
theorem dpa_take : ∀ {ds : List PyData} {vs : List L2.V} (n : Nat), RpA K V vs ds → RpA K V (vs.take n) (ds.take n)
  | [], _, n, h => by cases h; rw [List.take_nil, List.take_nil]; exact .nil
  | _ :: _, _, 0, h => .nil
  | _ :: _, _, n + 1, h => by
    cases h with
    | cons q r => exact .cons q (dpa_take n r)
theorem dpa_drop : ∀ {ds : List PyData} {vs : List L2.V} (n : Nat), RpA K V vs ds → RpA K V (vs.drop n) (ds.drop n)
  | [], _, n, h => by cases h; rw [List.drop_nil, List.drop_nil]; exact .nil
  | _ :: _, _, 0, h => h
  | _ :: _, _, n + 1, h => by
    cases h with
    | cons q r => exact dpa_drop n r
theorem dpa_set : ∀ {ds : List PyData} {vs : List L2.V} {v : L2.V} {d : PyData} (i : Nat), RpA K V vs ds → Rp K V v d → RpA K V (vs.set i v) (ds.set i d)
  | [], _, _, _, i, h, _ => by cases h; exact .nil
  | _ :: _, _, _, _, 0, h, k => by
    cases h with
    | cons q r => exact .cons k r
  | _ :: _, _, _, _, i + 1, h, k => by
    cases h with
    | cons q r => exact .cons q (dpa_set i r k)
theorem dpa_rev {ds : List PyData} {vs : List L2.V} (h : RpA K V vs ds) : RpA K V vs.reverse ds.reverse := by
  induction ds generalizing vs with
  | nil => cases h; exact .nil
  | cons d ds ih =>
    cases h with
    | cons q r =>
      rw [List.reverse_cons, List.reverse_cons]
      exact dpa_app (ih r) (.cons q .nil)
theorem dpa_ints {ns : List Int} : RpA K V (ns.map L2.V.int) (ns.map PyData.int) := by
  induction ns with
  | nil => exact .nil
  | cons n ns ih => exact .cons (.int n) ih
theorem dpa_ints_inv : ∀ {ns : List Int} {vs : List L2.V}, RpA K V vs (ns.map PyData.int) → vs = ns.map L2.V.int
  | [], _, h => by cases h; rfl
  | n :: ns, _, h => by
    cases h with
    | cons q r =>
      cases q
      rw [dpa_ints_inv r]; rfl
theorem dpa_mem : ∀ {ds : List PyData} {vs : List L2.V} {v : L2.V}, RpA K V vs ds → v ∈ vs → ∃ d ∈ ds, Rp K V v d
  | [], _, _, h, m => by cases h; simp at m
  | d :: ds, _, _, h, m => by
    cases h with
    | cons q r =>
      rcases List.mem_cons.mp m with e | m
      · subst e; exact ⟨d, List.mem_cons_self, q⟩
      · obtain ⟨d', h1, h2⟩ := dpa_mem r m
        exact ⟨d', List.mem_cons_of_mem _ h1, h2⟩
end

/-- the object that is told -/
def OdIs (K : PySem.W.Frag) (V : Hp) (ho : HO) : OD → Prop
  | .l ds => ∃ xs, ho = .lst xs ∧ RpA K V xs ds
  | .k es => ∃ kvs, ho = .dK kvs ∧ kvs.map (·.1) = es.map (·.1) ∧ RpA K V (kvs.map (·.2)) (es.map (·.2))
  | .t es => ∃ kvs, ho = .dT kvs ∧ kvs.map (·.1) = es.map (·.1) ∧ RpA K V (kvs.map (·.2)) (es.map (·.2))
theorem od_ext {K : PySem.W.Frag} {V V' : Hp} (E : Ext V V') {ho : HO} : ∀ {o : OD}, OdIs K V ho o → OdIs K V' ho o
  | .l _, ⟨xs, h1, h2⟩ => ⟨xs, h1, dpa_ext E _ _ h2⟩
  | .k _, ⟨xs, h1, h2, h3⟩ => ⟨xs, h1, h2, dpa_ext E _ _ h3⟩
  | .t _, ⟨xs, h1, h2, h3⟩ => ⟨xs, h1, h2, dpa_ext E _ _ h3⟩
theorem OdIs.ntbl {K : PySem.W.Frag} {V : Hp} {ho : HO} : ∀ {o : OD}, OdIs K V ho o → ∀ q, ho ≠ .tbl q
  | .l _, ⟨_, h1, _⟩, _ => by rw [h1]; intro z; cases z
  | .k _, ⟨_, h1, _⟩, _ => by rw [h1]; intro z; cases z
  | .t _, ⟨_, h1, _⟩, _ => by rw [h1]; intro z; cases z
def DeckAt (H : Hp) (dk dc : Addr) (δ : Dk) : Prop :=
  H dk = some (.dK [(.inr "cells", .ref dc), (.inr "mixed", .int δ.mixed), (.inr "draws", .int δ.draws)]) ∧ H dc = some (.lst (δ.cells.map V.int))
theorem DeckAt.ne {H : Hp} {dk dc : Addr} {δ : Dk} (h : DeckAt H dk dc δ) : dk ≠ dc := ne_of h.1 h.2 (by intro z; cases z)

theorem OdIs.ntup {K : PySem.W.Frag} {V : Hp} {ho : HO} : ∀ {o : OD}, OdIs K V ho o → ∀ q, ho ≠ .tup q
  | .l _, ⟨_, h1, _⟩, _ => by rw [h1]; intro z; cases z
  | .k _, ⟨_, h1, _⟩, _ => by rw [h1]; intro z; cases z
  | .t _, ⟨_, h1, _⟩, _ => by rw [h1]; intro z; cases z
/-- something is there that is no tuple -/
abbrev Kept (H : Hp) (a : Addr) : Prop := H a ≠ none ∧ ∀ xs, H a ≠ some (.tup xs)
theorem Kept.of {H : Hp} {a : Addr} {o : HO} (h : H a = some o) (n : ∀ xs, o ≠ .tup xs) : Kept H a := ⟨by rw [h]; simp, fun xs z => n xs (by rw [h] at z; exact Option.some.inj z)⟩
theorem Kept.eq {H H' : Hp} {a : Addr} (e : H' a = H a) (k : Kept H a) : Kept H' a := ⟨by rw [e]; exact k.1, fun xs => by rw [e]; exact k.2 xs⟩
/-! ### a state that is told -/
structure St (K : PySem.W.Frag) (tabs : List (Addr × Addr)) (α : Ab) (g : Gh) (σ : L2.St) (H : Hp) : Prop where
  len : σ.length = α.ρ.length
  val : ∀ (i : Nat) (d : PyData), α.ρ[i]? = some (Sl.val d) → ∃ v, σ[i]? = some (some v) ∧ Rp K (vw α g H) v d
  own : ∀ (i : Nat) (o : OD), α.ρ[i]? = some (Sl.obj o) → σ[i]? = some (some (V.ref (g.ad i))) ∧ ¬ g.O (g.ad i) ∧ ∃ ho, H (g.ad i) = some ho ∧ OdIs K (vw α g H) ho o
  inj : ∀ (i j : Nat), ownAt α.ρ i → ownAt α.ρ j → g.ad i = g.ad j → i = j
  dck : ∀ (i : Nat), α.ρ[i]? = some Sl.dck → σ[i]? = some (some (V.ref g.dk)) ∧ α.δ ≠ none
  dk : ∀ δ, α.δ = some δ → DeckAt H g.dk g.dc δ ∧ ¬ g.O g.dk ∧ ¬ g.O g.dc ∧ ∀ i, ownAt α.ρ i → g.ad i ≠ g.dk ∧ g.ad i ≠ g.dc
  oin : ∀ a, g.O a → Kept H a
  tab : ∀ p ∈ tabs, GxR.TabG H p.2
  otab : ∀ p ∈ tabs, ¬ g.O p.2
structure Mv (α α' : Ab) (g : Gh) (H H' : Hp) : Prop where
  ext : Ext (vw α g H) (vw α' g H')
  out : ∀ a, g.O a → H' a = H a
theorem Mv.refl (α : Ab) (g : Gh) (H : Hp) : Mv α α g H H := ⟨Ext.refl _, fun _ _ => rfl⟩
theorem Mv.trans {α α1 α2 : Ab} {g : Gh} {H H1 H2 : Hp} (a : Mv α α1 g H H1) (b : Mv α1 α2 g H1 H2) : Mv α α2 g H H2 := ⟨a.ext.trans b.ext, fun x h => (b.out x h).trans (a.out x h)⟩

section
variable {K : PySem.W.Frag} {tabs : List (Addr × Addr)} {α : Ab} {g : Gh} {σ : L2.St} {H : Hp}
theorem St.ownL (S : St K tabs α g σ H) (i : Nat) (ds : List PyData) (h : α.ρ[i]? = some (Sl.own ds)) : σ[i]? = some (some (V.ref (g.ad i))) ∧ ¬ g.O (g.ad i) ∧ ∃ xs, H (g.ad i) = some (HO.lst xs) ∧ RpA K (vw α g H) xs ds := by
  obtain ⟨h1, h2, ho, h3, xs, h4, h5⟩ := S.own i _ h
  exact ⟨h1, h2, xs, by rw [h3, h4], h5⟩
/-- all that is hidden is there -/
theorem St.hidK (S : St K tabs α g σ H) {a : Addr} (h : Hid α g a) : Kept H a := by
  rcases h with h | ⟨i, ⟨ds, h⟩, e⟩ | ⟨h, e⟩
  · exact S.oin a h
  · obtain ⟨_, _, xs, h1, h2⟩ := S.own i ds h
    exact .of (by rw [← e]; exact h1) h2.ntup
  · obtain ⟨δ, hδ⟩ := Option.ne_none_iff_exists'.mp h
    obtain ⟨⟨h1, h2⟩, _⟩ := S.dk δ hδ
    rcases e with e | e
    · exact .of (by rw [e]; exact h1) fun xs z => by cases z
    · exact .of (by rw [e]; exact h2) fun xs z => by cases z
theorem St.hid (S : St K tabs α g σ H) {a : Addr} (h : Hid α g a) : H a ≠ none := (S.hidK h).1
/-- tuples are in sight -/
theorem St.vis (S : St K tabs α g σ H) {a : Addr} {xs : List V} (h : H a = some (.tup xs)) : vw α g H a = some (.tup xs) := vw_of h fun z => (S.hidK z).2 xs h
theorem vw_upd {p : Addr} {o : HO} (n : ¬ Hid α g p) (a : Addr) : vw α g (upd H p o) a = if a = p then some o else vw α g H a := by
  unfold vw
  by_cases e : a = p
  · subst e
    rw [if_neg n, if_pos rfl, upd_same]
  · rw [if_neg e]
    split
    · rfl
    · rw [upd_ne e]
/-- a new object -/
theorem St.new {p : Addr} {o : HO} (S : St K tabs α g σ H) (hp : H p = none) : St K tabs α g σ (upd H p o) ∧ Mv α α g H (upd H p o) ∧ vw α g (upd H p o) p = some o := by
  have n : ¬ Hid α g p := fun h => S.hid h hp
  have E : Ext (vw α g H) (vw α g (upd H p o)) := Ext.of fun a u h => by
    rw [vw_upd n]
    by_cases e : a = p
    · subst e
      rw [(vw_some h).1] at hp; cases hp
    · rw [if_neg e]; exact h
  have ne : ∀ {a : Addr} {u : HO}, H a = some u → a ≠ p := fun {a u} h => ne_of_none h hp
  refine ⟨⟨S.len, fun i d h => ?_, fun i ds h => ?_, S.inj, S.dck, fun δ h => ?_, fun a h => ?_, fun q hq => ?_, S.otab⟩, ⟨E, fun a h => ?_⟩, ?_⟩
  · obtain ⟨v, h1, h2⟩ := S.val i d h
    exact ⟨v, h1, dp_ext E d v h2⟩
  · obtain ⟨h1, h2, xs, h3, h4⟩ := S.own i ds h
    exact ⟨h1, h2, xs, by rw [upd_ne (ne h3)]; exact h3, od_ext E h4⟩
  · obtain ⟨⟨h1, h2⟩, h3⟩ := S.dk δ h
    exact ⟨⟨by rw [upd_ne (ne h1)]; exact h1, by rw [upd_ne (ne h2)]; exact h2⟩, h3⟩
  · exact .eq (upd_ne fun z => (S.oin a h).1 (by rw [z]; exact hp)) (S.oin a h)
  · obtain ⟨ps, h1, h2⟩ := S.tab q hq
    exact ⟨ps, by rw [upd_ne (ne h1)]; exact h1, h2⟩
  · rw [upd_ne]
    rintro rfl
    exact (S.oin a h).1 hp
  · rw [vw_upd n, if_pos rfl]
theorem St.tup {p : Addr} {xs : List V} {ds : List PyData} (S : St K tabs α g σ H) (hp : H p = none) (h : RpA K (vw α g H) xs ds) :
    St K tabs α g σ (upd H p (.tup xs)) ∧ Mv α α g H (upd H p (.tup xs)) ∧ Rp K (vw α g (upd H p (.tup xs))) (.ref p) (.tuple ds) := by
  obtain ⟨S1, m, e⟩ := S.new (o := .tup xs) hp
  exact ⟨S1, m, .tup e (dpa_ext m.ext ds xs h)⟩
theorem St.lst {p : Addr} {xs : List V} {ds : List PyData} (S : St K tabs α g σ H) (hp : H p = none) (h : RpA K (vw α g H) xs ds) :
    St K tabs α g σ (upd H p (.lst xs)) ∧ Mv α α g H (upd H p (.lst xs)) ∧ Rp K (vw α g (upd H p (.lst xs))) (.ref p) (.list ds) := by
  obtain ⟨S1, m, e⟩ := S.new (o := .lst xs) hp
  exact ⟨S1, m, .lst e (dpa_ext m.ext ds xs h)⟩
/-- one of the tables has grown -/
theorem St.grown {P : Addr} {H' : Hp} (S : St K tabs α g σ H) (c : Addr) (hP : (c, P) ∈ tabs) (h : GxR.Tabbed P H H') : St K tabs α g σ H' ∧ Mv α α g H H' := by
  obtain ⟨⟨ps, h1, h2⟩, h3⟩ := h
  obtain ⟨ps0, h4, _⟩ := S.tab _ hP
  have nP : ∀ {a : Addr} {u : HO}, H a = some u → (∀ q, u ≠ .tbl q) → a ≠ P := fun {a u} e n z => by
    rw [z, h4] at e
    cases e
    exact n _ rfl
  have kpE : ∀ {a : Addr} {u : HO}, (∀ q, u ≠ .tbl q) → vw α g H a = some u → vw α g H' a = some u := fun {a u} n q => by
    obtain ⟨k1, k2⟩ := vw_some q
    exact vw_of ((h3 a (nP k1 n)).trans k1) k2
  have E : Ext (vw α g H) (vw α g H') := fun a => ⟨fun xs q => kpE (fun q z => by cases z) q, fun xs q => kpE (fun q z => by cases z) q⟩
  refine ⟨⟨S.len, fun i d h => ?_, fun i ds h => ?_, S.inj, S.dck, fun δ h => ?_, fun a h => ?_, fun q hq => ?_, S.otab⟩, ⟨E, fun a h => ?_⟩⟩
  · obtain ⟨v, h1, h2⟩ := S.val i d h
    exact ⟨v, h1, dp_ext E d v h2⟩
  · obtain ⟨k1, k2, xs, k3, k4⟩ := S.own i ds h
    exact ⟨k1, k2, xs, by rw [h3 _ (nP k3 k4.ntbl)]; exact k3, od_ext E k4⟩
  · obtain ⟨⟨k1, k2⟩, k3⟩ := S.dk δ h
    exact ⟨⟨by rw [h3 _ (nP k1 fun q z => by cases z)]; exact k1, by rw [h3 _ (nP k2 fun q z => by cases z)]; exact k2⟩, k3⟩
  · have : a ≠ P := fun z => S.otab _ hP (by rw [← z]; exact h)
    exact .eq (h3 a this) (S.oin a h)
  · by_cases e : q.2 = P
    · rw [e]; exact ⟨ps, h1, h2⟩
    · obtain ⟨qs, k1, k2⟩ := S.tab q hq
      exact ⟨qs, by rw [h3 _ e]; exact k1, k2⟩
  · exact h3 a fun z => S.otab _ hP (by rw [← z]; exact h)
end
end Pd
end
section
set_option Elab.async false
set_option linter.all false
set_option maxRecDepth 100000
set_option maxHeartbeats 1000000
namespace Pd
open PySem PySem.Spec PyProof.Rows L2
abbrev Tabs := List (Addr × Addr)

abbrev Ab.set (α : Ab) (i : Nat) (s : Sl) : Ab := ⟨α.ρ.set i s, α.δ⟩
abbrev Gh.add (g : Gh) (p : Addr) : Gh := { g with O := fun a => g.O a ∨ a = p }
abbrev Gh.at (g : Gh) (i : Nat) (p : Addr) : Gh := { g with ad := fun j => if j = i then p else g.ad j }

section
variable {K : PySem.W.Frag} {tb : Tabs} {α β : Ab} {g : Gh} {σ σ' : L2.St} {H H' : Hp}
theorem ext_hid {α β : Ab} {g g' : Gh} {H : Hp} (h : ∀ a, Hid β g' a → Hid α g a) : Ext (vw α g H) (vw β g' H) := Ext.of fun a o q => by
  obtain ⟨q1, q2⟩ := vw_some q
  exact vw_of q1 fun z => q2 (h a z)
/-- slots forgotten, or given another datum -/
theorem St.chg (S : St K tb α g σ H) (hδ : β.δ = α.δ) (hlen : σ'.length = β.ρ.length)
    (h : ∀ (j : Nat) (s : Sl), β.ρ[j]? = some s → (α.ρ[j]? = some s ∧ σ'[j]? = σ[j]?) ∨ s = .un ∨ ∃ d v, s = .val d ∧ σ'[j]? = some (some v) ∧ Rp K (vw α g H) v d) : St K tb β g σ' H ∧ Ext (vw α g H) (vw β g H) := by
  have ow : ∀ j, ownAt β.ρ j → ownAt α.ρ j := fun j ⟨ds, e⟩ => by
    rcases h j _ e with ⟨h1, _⟩ | h1 | ⟨d, v, h1, _⟩
    · exact ⟨ds, h1⟩
    · cases h1
    · cases h1
  have E : Ext (vw α g H) (vw β g H) := ext_hid fun a z => by
    rcases z with z | ⟨j, z1, z2⟩ | ⟨z1, z2⟩
    · exact .inl z
    · exact .inr (.inl ⟨j, ow j z1, z2⟩)
    · exact .inr (.inr ⟨by rw [← hδ]; exact z1, z2⟩)
  refine ⟨⟨hlen, fun j d e => ?_, fun j ds e => ?_, fun j k a b => S.inj j k (ow j a) (ow k b), fun j e => ?_, fun δ e => ?_, S.oin, S.tab, S.otab⟩, E⟩
  · rcases h j _ e with ⟨h1, h2⟩ | h1 | ⟨d', v, h1, h2, h3⟩
    · obtain ⟨v, k1, k2⟩ := S.val j d h1
      exact ⟨v, h2.trans k1, dp_ext E d v k2⟩
    · cases h1
    · cases h1
      exact ⟨v, h2, dp_ext E d v h3⟩
  · rcases h j _ e with ⟨h1, h2⟩ | h1 | ⟨d', v, h1, h2, h3⟩
    · obtain ⟨k1, k2, xs, k3, k4⟩ := S.own j ds h1
      exact ⟨h2.trans k1, k2, xs, k3, od_ext E k4⟩
    · cases h1
    · cases h1
  · rcases h j _ e with ⟨h1, h2⟩ | h1 | ⟨d', v, h1, h2, h3⟩
    · obtain ⟨k1, k2⟩ := S.dck j h1
      exact ⟨h2.trans k1, by rw [hδ]; exact k2⟩
    · cases h1
    · cases h1
  · obtain ⟨k1, k2, k3, k4⟩ := S.dk δ (hδ.symm.trans e)
    exact ⟨k1, k2, k3, fun j z => k4 j (ow j z)⟩
theorem St.setVal {i : Nat} {v : V} {d : PyData} (S : St K tb α g σ H) (q : Rp K (vw α g H) v d) (hi : i < α.ρ.length) : St K tb (α.set i (.val d)) g (σ.set i (some v)) H ∧ Ext (vw α g H) (vw (α.set i (.val d)) g H) := by
  refine S.chg rfl (by rw [List.length_set, List.length_set]; exact S.len) fun j s e => ?_
  by_cases hj : i = j
  · subst hj
    have e : (α.ρ.set i (.val d))[i]? = some s := e
    rw [List.getElem?_set_self hi] at e
    cases e
    exact .inr (.inr ⟨d, v, rfl, List.getElem?_set_self (by rw [S.len]; exact hi), q⟩)
  · have e : (α.ρ.set i (.val d))[j]? = some s := e
    rw [List.getElem?_set_ne hj] at e
    exact .inl ⟨e, List.getElem?_set_ne hj⟩
/-- forgetting -/
inductive FGl : List Sl → List Sl → Prop
  | nil : FGl [] []
  | keep {s : Sl} {l m : List Sl} : FGl l m → FGl (s :: l) (s :: m)
  | drop {s : Sl} {l m : List Sl} : FGl l m → FGl (s :: l) (.un :: m)
theorem FGl.refl : ∀ l : List Sl, FGl l l
  | [] => .nil
  | _ :: l => .keep (FGl.refl l)
theorem FGl.len {l m : List Sl} (h : FGl l m) : l.length = m.length := by
  induction h with
  | nil => rfl
  | keep _ ih => rw [List.length_cons, List.length_cons, ih]
  | drop _ ih => rw [List.length_cons, List.length_cons, ih]
theorem FGl.get {l m : List Sl} (h : FGl l m) : ∀ (j : Nat) (s : Sl), m[j]? = some s → l[j]? = some s ∨ s = .un := by
  induction h with
  | nil => intro j s e; simp at e
  | keep _ ih =>
    intro j s e
    cases j with
    | zero => exact .inl e
    | succ j => simpa using ih j s (by simpa using e)
  | drop _ ih =>
    intro j s e
    cases j with
    | zero => simp at e; exact .inr e.symm
    | succ j => simpa using ih j s (by simpa using e)
theorem St.forget (S : St K tb α g σ H) (hδ : β.δ = α.δ) (h : FGl α.ρ β.ρ) : St K tb β g σ H ∧ Ext (vw α g H) (vw β g H) :=
  S.chg hδ (S.len.trans h.len) fun j s e => (h.get j s e).imp (fun q => ⟨q, rfl⟩) .inl
/-- an object of one's own is written -/
theorem St.writeO {i : Nat} {ds ds' : OD} {xs' : HO} (S : St K tb α g σ H) (hi : α.ρ[i]? = some (.obj ds)) (q : OdIs K (vw α g H) xs' ds') :
    St K tb (α.set i (.obj ds')) g σ (upd H (g.ad i) xs') ∧ Mv α (α.set i (.obj ds')) g H (upd H (g.ad i) xs') := by
  have hl : i < α.ρ.length := (List.getElem?_eq_some_iff.mp hi).1
  obtain ⟨k1, k2, xs, k3, k4⟩ := S.own i ds hi
  have oi : ownAt α.ρ i := ⟨ds, hi⟩
  have at_ : ∀ (j : Nat) (s : Sl), (α.ρ.set i (.obj ds'))[j]? = some s → (j = i ∧ s = .obj ds') ∨ (j ≠ i ∧ α.ρ[j]? = some s) := fun j s e => by
    by_cases hj : i = j
    · subst hj
      rw [List.getElem?_set_self hl] at e
      exact .inl ⟨rfl, (Option.some.inj e).symm⟩
    · rw [List.getElem?_set_ne hj] at e
      exact .inr ⟨Ne.symm hj, e⟩
  have ow : ∀ j, ownAt (α.ρ.set i (.obj ds')) j ↔ ownAt α.ρ j := fun j => by
    constructor
    · rintro ⟨es, e⟩
      rcases at_ j _ e with ⟨h1, _⟩ | ⟨_, h2⟩
      · subst h1; exact oi
      · exact ⟨es, h2⟩
    · rintro ⟨es, e⟩
      by_cases hj : i = j
      · subst hj; exact ⟨ds', List.getElem?_set_self hl⟩
      · exact ⟨es, by rw [List.getElem?_set_ne hj]; exact e⟩
  have hidi : Hid α g (g.ad i) := .inr (.inl ⟨i, oi, rfl⟩)
  have hid : ∀ a, Hid (α.set i (.obj ds')) g a ↔ Hid α g a := fun a => by
    constructor
    · rintro (z | ⟨j, z1, z2⟩ | z)
      · exact .inl z
      · exact .inr (.inl ⟨j, (ow j).mp z1, z2⟩)
      · exact .inr (.inr z)
    · rintro (z | ⟨j, z1, z2⟩ | z)
      · exact .inl z
      · exact .inr (.inl ⟨j, (ow j).mpr z1, z2⟩)
      · exact .inr (.inr z)
  have E : Ext (vw α g H) (vw (α.set i (.obj ds')) g (upd H (g.ad i) xs')) := Ext.of fun a o h => by
    obtain ⟨h1, h2⟩ := vw_some h
    refine vw_of ?_ fun z => h2 ((hid a).mp z)
    rw [upd_ne]
    · exact h1
    · rintro rfl; exact h2 hidi
  have nT : ∀ {a : Addr} {ps : Array Value}, H a = some (.tbl ps) → a ≠ g.ad i := fun {a ps} e => ne_of e k3 (fun z => k4.ntbl _ z.symm)
  refine ⟨⟨by rw [List.length_set]; exact S.len, fun j d e => ?_, fun j es e => ?_, fun j k a b => S.inj j k ((ow j).mp a) ((ow k).mp b), fun j e => ?_, fun δ e => ?_, fun a z => ?_, fun p hp => ?_, S.otab⟩, E, fun a z => ?_⟩
  · rcases at_ j _ e with ⟨_, h2⟩ | ⟨_, h2⟩
    · cases h2
    · obtain ⟨v, q1, q2⟩ := S.val j d h2
      exact ⟨v, q1, dp_ext E d v q2⟩
  · rcases at_ j _ e with ⟨h1, h2⟩ | ⟨h1, h2⟩
    · cases h2
      subst h1
      exact ⟨k1, k2, xs', upd_same, od_ext E q⟩
    · obtain ⟨q1, q2, ys, q3, q4⟩ := S.own j es h2
      refine ⟨q1, q2, ys, ?_, od_ext E q4⟩
      rw [upd_ne fun z => h1 (S.inj j i ⟨es, h2⟩ oi z)]
      exact q3
  · rcases at_ j _ e with ⟨_, h2⟩ | ⟨_, h2⟩
    · cases h2
    · exact S.dck j h2
  · obtain ⟨⟨q1, q2⟩, q3, q4, q5⟩ := S.dk δ e
    obtain ⟨n1, n2⟩ := q5 i oi
    exact ⟨⟨by rw [upd_ne (Ne.symm n1)]; exact q1, by rw [upd_ne (Ne.symm n2)]; exact q2⟩, q3, q4, fun j z => q5 j ((ow j).mp z)⟩
  · exact .eq (upd_ne fun y => k2 (by rw [← y]; exact z)) (S.oin a z)
  · obtain ⟨ps, q1, q2⟩ := S.tab p hp
    exact ⟨ps, by rw [upd_ne (nT q1)]; exact q1, q2⟩
  · rw [upd_ne]
    rintro rfl
    exact k2 z
/-- an own list is written -/
theorem St.write {i : Nat} {ds ds' : List PyData} {xs' : List V} (S : St K tb α g σ H) (hi : α.ρ[i]? = some (.own ds)) (q : RpA K (vw α g H) xs' ds') :
    St K tb (α.set i (.own ds')) g σ (upd H (g.ad i) (.lst xs')) ∧ Mv α (α.set i (.own ds')) g H (upd H (g.ad i) (.lst xs')) := S.writeO hi ⟨xs', rfl, q⟩
/-- an own list is given away -/
theorem St.frz {i : Nat} {ds : List PyData} (S : St K tb α g σ H) (hi : α.ρ[i]? = some (.own ds)) :
    St K tb (α.set i (.val (.list ds))) g σ H ∧ Ext (vw α g H) (vw (α.set i (.val (.list ds))) g H) ∧ σ[i]? = some (some (.ref (g.ad i))) ∧ Rp K (vw (α.set i (.val (.list ds))) g H) (.ref (g.ad i)) (.list ds) := by
  have hl : i < α.ρ.length := (List.getElem?_eq_some_iff.mp hi).1
  obtain ⟨k1, k2, xs, k3, k4⟩ := S.ownL i ds hi
  have oi : ownAt α.ρ i := ⟨_, hi⟩
  have at_ : ∀ (j : Nat) (s : Sl), (α.ρ.set i (.val (.list ds)))[j]? = some s → (j = i ∧ s = .val (.list ds)) ∨ (j ≠ i ∧ α.ρ[j]? = some s) := fun j s e => by
    by_cases hj : i = j
    · subst hj
      rw [List.getElem?_set_self hl] at e
      exact .inl ⟨rfl, (Option.some.inj e).symm⟩
    · rw [List.getElem?_set_ne hj] at e
      exact .inr ⟨Ne.symm hj, e⟩
  have ow : ∀ j, ownAt (α.ρ.set i (.val (.list ds))) j → j ≠ i ∧ ownAt α.ρ j := fun j ⟨es, e⟩ => by
    rcases at_ j _ e with ⟨_, h2⟩ | ⟨h1, h2⟩
    · cases h2
    · exact ⟨h1, es, h2⟩
  have E : Ext (vw α g H) (vw (α.set i (.val (.list ds))) g H) := ext_hid fun a z => by
    rcases z with z | ⟨j, z1, z2⟩ | z
    · exact .inl z
    · exact .inr (.inl ⟨j, (ow j z1).2, z2⟩)
    · exact .inr (.inr z)
  have nh : ¬ Hid (α.set i (.val (.list ds))) g (g.ad i) := by
    rintro (z | ⟨j, z1, z2⟩ | ⟨z1, z2⟩)
    · exact k2 z
    · obtain ⟨h1, h2⟩ := ow j z1
      exact h1 (S.inj j i h2 oi z2)
    · obtain ⟨δ, hδ⟩ := Option.ne_none_iff_exists'.mp z1
      obtain ⟨_, _, _, q5⟩ := S.dk δ hδ
      obtain ⟨n1, n2⟩ := q5 i oi
      exact z2.elim n1 n2
  have R : Rp K (vw (α.set i (.val (.list ds))) g H) (.ref (g.ad i)) (.list ds) := .lst (vw_of k3 nh) (dpa_ext E _ _ k4)
  refine ⟨⟨by rw [List.length_set]; exact S.len, fun j d e => ?_, fun j es e => ?_, fun j k a b => S.inj j k (ow j a).2 (ow k b).2, fun j e => ?_, fun δ e => ?_, S.oin, S.tab, S.otab⟩, E, k1, R⟩
  · rcases at_ j _ e with ⟨h1, h2⟩ | ⟨_, h2⟩
    · cases h2
      subst h1
      exact ⟨_, k1, R⟩
    · obtain ⟨v, q1, q2⟩ := S.val j d h2
      exact ⟨v, q1, dp_ext E d v q2⟩
  · rcases at_ j _ e with ⟨_, h2⟩ | ⟨_, h2⟩
    · cases h2
    · obtain ⟨q1, q2, ys, q3, q4⟩ := S.own j es h2
      exact ⟨q1, q2, ys, q3, od_ext E q4⟩
  · rcases at_ j _ e with ⟨_, h2⟩ | ⟨_, h2⟩
    · cases h2
    · exact S.dck j h2
  · obtain ⟨q1, q3, q4, q5⟩ := S.dk δ e
    exact ⟨q1, q3, q4, fun j z => q5 j (ow j z).2⟩
/-- a fresh list is told apart from all else -/
structure FreshO (K : PySem.W.Frag) (tb : Tabs) (α α' : Ab) (g : Gh) (σ : L2.St) (H H' : Hp) (p : Addr) (ds : OD) : Prop where
  st : St K tb α' (g.add p) σ H'
  np : ¬ g.O p
  out : ∀ a, g.O a → H' a = H a
  ext : Ext (vw α g H) (vw α' (g.add p) H')
  isO : ∃ ho, H' p = some ho ∧ OdIs K (vw α' (g.add p) H') ho ds
abbrev Fresh (K : PySem.W.Frag) (tb : Tabs) (α α' : Ab) (g : Gh) (σ : L2.St) (H H' : Hp) (p : Addr) (ds : List PyData) : Prop := FreshO K tb α α' g σ H H' p (.l ds)
theorem FreshO.is_ {α' : Ab} {p : Addr} {ds : List PyData} (F : Fresh K tb α α' g σ H H' p ds) : ∃ xs, H' p = some (.lst xs) ∧ RpA K (vw α' (g.add p) H') xs ds := by
  obtain ⟨ho, h1, xs, h2, h3⟩ := F.isO
  exact ⟨xs, by rw [h1, h2], h3⟩
theorem hid_add {p a : Addr} : Hid α (g.add p) a ↔ Hid α g a ∨ a = p := by
  constructor
  · rintro ((z | z) | z | z)
    · exact .inl (.inl z)
    · exact .inr z
    · exact .inl (.inr (.inl z))
    · exact .inl (.inr (.inr z))
  · rintro ((z | z | z) | z)
    · exact .inl (.inl z)
    · exact .inr (.inl z)
    · exact .inr (.inr z)
    · exact .inl (.inr z)
theorem St.own_ne {i : Nat} {p : Addr} (S : St K tb α (g.add p) σ H) (h : ownAt α.ρ i) : g.ad i ≠ p := fun z => by
  obtain ⟨ds, h⟩ := h
  exact (S.own i ds h).2.1 (.inr z)
theorem FreshO.nh {α' : Ab} {p : Addr} {ds : OD} (F : FreshO K tb α α' g σ H H' p ds) : ¬ Hid α' g p := by
  rintro (z | ⟨j, z1, z2⟩ | ⟨z1, z2⟩)
  · exact F.np z
  · exact F.st.own_ne z1 z2
  · obtain ⟨δ, hδ⟩ := Option.ne_none_iff_exists'.mp z1
    obtain ⟨_, n1, n2, _⟩ := F.st.dk δ hδ
    rcases z2 with z2 | z2
    · exact n1 (.inr z2.symm)
    · exact n2 (.inr z2.symm)
theorem FreshO.ext2 {α' : Ab} {p : Addr} {ds : OD} (F : FreshO K tb α α' g σ H H' p ds) : Ext (vw α' (g.add p) H') (vw α' g H') := ext_hid fun a z => hid_add.mpr (.inl z)
/-- given away at once -/
theorem FreshO.val {α' : Ab} {p : Addr} {ds : List PyData} (F : Fresh K tb α α' g σ H H' p ds) : St K tb α' g σ H' ∧ Mv α α' g H H' ∧ Rp K (vw α' g H') (.ref p) (.list ds) := by
  obtain ⟨xs, e, q⟩ := F.is_
  have E := F.ext2
  have S := F.st
  refine ⟨⟨S.len, fun j d e => ?_, fun j es e => ?_, S.inj, S.dck, fun δ e => ?_, fun a z => S.oin a (.inl z), S.tab, fun p hp z => S.otab p hp (.inl z)⟩, ⟨F.ext.trans E, F.out⟩, .lst (vw_of e F.nh) (dpa_ext E _ _ q)⟩
  · obtain ⟨v, q1, q2⟩ := S.val j d e
    exact ⟨v, q1, dp_ext E d v q2⟩
  · obtain ⟨q1, q2, ys, q3, q4⟩ := S.own j es e
    exact ⟨q1, fun z => q2 (.inl z), ys, q3, od_ext E q4⟩
  · obtain ⟨q1, q3, q4, q5⟩ := S.dk δ e
    exact ⟨q1, fun z => q3 (.inl z), fun z => q4 (.inl z), q5⟩
/-- kept as one's own -/
theorem St.takeO {α' : Ab} {p : Addr} {ds : OD} {xs : HO} {i : Nat} (S : St K tb α' (g.add p) σ H') (np : ¬ g.O p) (e0 : H' p = some xs) (q : OdIs K (vw α' (g.add p) H') xs ds) (hi : i < α'.ρ.length) :
    St K tb (α'.set i (.obj ds)) (g.at i p) (σ.set i (some (.ref p))) H' ∧ Ext (vw α' (g.add p) H') (vw (α'.set i (.obj ds)) (g.at i p) H') := by
  have at_ : ∀ (j : Nat) (s : Sl), (α'.ρ.set i (.obj ds))[j]? = some s → (j = i ∧ s = .obj ds) ∨ (j ≠ i ∧ α'.ρ[j]? = some s) := fun j s e => by
    by_cases hj : i = j
    · subst hj
      rw [List.getElem?_set_self hi] at e
      exact .inl ⟨rfl, (Option.some.inj e).symm⟩
    · rw [List.getElem?_set_ne hj] at e
      exact .inr ⟨Ne.symm hj, e⟩
  have adi : (g.at i p).ad i = p := if_pos rfl
  have adj : ∀ j, j ≠ i → (g.at i p).ad j = g.ad j := fun j h => if_neg h
  have ow : ∀ j, ownAt (α'.ρ.set i (.obj ds)) j → j = i ∨ (j ≠ i ∧ ownAt α'.ρ j) := fun j ⟨es, e⟩ => by
    rcases at_ j _ e with ⟨h1, _⟩ | ⟨h1, h2⟩
    · exact .inl h1
    · exact .inr ⟨h1, es, h2⟩
  have E : Ext (vw α' (g.add p) H') (vw (α'.set i (.obj ds)) (g.at i p) H') := ext_hid fun a z => by
    rcases z with z | ⟨j, z1, z2⟩ | z
    · exact .inl (.inl z)
    · rcases ow j z1 with h | ⟨h1, h2⟩
      · subst h
        rw [adi] at z2
        exact .inl (.inr z2.symm)
      · rw [adj j h1] at z2
        exact .inr (.inl ⟨j, h2, z2⟩)
    · exact .inr (.inr z)
  have sg : ∀ j, j ≠ i → (σ.set i (some (.ref p)))[j]? = σ[j]? := fun j h => List.getElem?_set_ne (Ne.symm h)
  refine ⟨⟨by rw [List.length_set, List.length_set]; exact S.len, fun j d e => ?_, fun j es e => ?_, fun j k a b z => ?_, fun j e => ?_, fun δ e => ?_, fun a z => S.oin a (.inl z), S.tab, fun p hp z => S.otab p hp (.inl z)⟩, E⟩
  · rcases at_ j _ e with ⟨_, h2⟩ | ⟨h1, h2⟩
    · cases h2
    · obtain ⟨v, q1, q2⟩ := S.val j d h2
      exact ⟨v, (sg j h1).trans q1, dp_ext E d v q2⟩
  · rcases at_ j _ e with ⟨h1, h2⟩ | ⟨h1, h2⟩
    · cases h2
      subst h1
      exact ⟨by rw [adi]; exact List.getElem?_set_self (by rw [S.len]; exact hi), by rw [adi]; exact np, xs, by rw [adi]; assumption, od_ext E q⟩
    · obtain ⟨q1, q2, ys, q3, q4⟩ := S.own j es h2
      exact ⟨by rw [adj j h1]; exact (sg j h1).trans q1, by rw [adj j h1]; exact fun z => q2 (.inl z), ys, by rw [adj j h1]; exact q3, od_ext E q4⟩
  · rcases ow j a with hj | ⟨hj, aj⟩
    · rcases ow k b with hk | ⟨hk, ak⟩
      · rw [hj, hk]
      · rw [hj, adi, adj k hk] at z
        exact absurd z.symm (S.own_ne ak)
    · rcases ow k b with hk | ⟨hk, ak⟩
      · rw [hk, adi, adj j hj] at z
        exact absurd z (S.own_ne aj)
      · rw [adj j hj, adj k hk] at z
        exact S.inj j k aj ak z
  · rcases at_ j _ e with ⟨_, h2⟩ | ⟨h1, h2⟩
    · cases h2
    · obtain ⟨q1, q2⟩ := S.dck j h2
      exact ⟨(sg j h1).trans q1, q2⟩
  · obtain ⟨q1, q3, q4, q5⟩ := S.dk δ e
    refine ⟨q1, fun z => q3 (.inl z), fun z => q4 (.inl z), fun j z => ?_⟩
    rcases ow j z with hj | ⟨hj, aj⟩
    · rw [hj, adi]
      exact ⟨fun z => q3 (.inr z.symm), fun z => q4 (.inr z.symm)⟩
    · rw [adj j hj]
      exact q5 j aj
theorem St.take {α' : Ab} {p : Addr} {ds : List PyData} {xs : List V} {i : Nat} (S : St K tb α' (g.add p) σ H') (np : ¬ g.O p) (e0 : H' p = some (.lst xs)) (q : RpA K (vw α' (g.add p) H') xs ds) (hi : i < α'.ρ.length) :
    St K tb (α'.set i (.own ds)) (g.at i p) (σ.set i (some (.ref p))) H' ∧ Ext (vw α' (g.add p) H') (vw (α'.set i (.own ds)) (g.at i p) H') := S.takeO np e0 ⟨xs, rfl, q⟩ hi
theorem FreshO.own {α' : Ab} {p : Addr} {ds : OD} {i : Nat} (F : FreshO K tb α α' g σ H H' p ds) (hi : i < α'.ρ.length) :
    St K tb (α'.set i (.obj ds)) (g.at i p) (σ.set i (some (.ref p))) H' ∧ Ext (vw α g H) (vw (α'.set i (.obj ds)) (g.at i p) H') := by
  obtain ⟨xs, e, q⟩ := F.isO
  obtain ⟨S, E⟩ := F.st.takeO F.np e q hi
  exact ⟨S, F.ext.trans E⟩
/-- a list that is laid at a free place -/
theorem St.freshO {p : Addr} {xs : HO} {ds : OD} (S : St K tb α g σ H) (hp : H p = none) (q : OdIs K (vw α g H) xs ds) : FreshO K tb α α g σ H (upd H p xs) p ds := by
  have nh : ¬ Hid α g p := fun z => S.hid z hp
  have V0 : vw α (g.add p) (upd H p xs) = vw α g H := by
    funext a
    by_cases ea : a = p
    · subst ea
      have h1 : vw α (g.add a) (upd H a xs) a = none := by unfold vw; rw [if_pos (hid_add.mpr (.inr rfl))]
      rw [h1]
      unfold vw; rw [if_neg nh]; exact hp.symm
    · unfold vw
      by_cases z : Hid α g a
      · rw [if_pos (hid_add.mpr (.inl z)), if_pos z]
      · rw [if_neg (fun y => (hid_add.mp y).elim z ea), if_neg z, upd_ne ea]
  have ne : ∀ {a : Addr} {u : HO}, H a = some u → a ≠ p := fun {a u} h => ne_of_none h hp
  refine ⟨⟨S.len, fun j d e => ?_, fun j es e => ?_, S.inj, S.dck, fun δ e => ?_, fun a z => ?_, fun t ht => ?_, fun t ht z => ?_⟩, fun z => nh (.inl z), fun a z => ?_, by rw [V0]; exact Ext.refl _, xs, upd_same, by rw [V0]; exact q⟩
  · rw [V0]; exact S.val j d e
  · obtain ⟨q1, q2, ys, q3, q4⟩ := S.own j es e
    exact ⟨q1, fun z => z.elim q2 fun z => ne q3 z, ys, by rw [upd_ne (ne q3)]; exact q3, by rw [V0]; exact q4⟩
  · obtain ⟨⟨q1, q2⟩, q3, q4, q5⟩ := S.dk δ e
    exact ⟨⟨by rw [upd_ne (ne q1)]; exact q1, by rw [upd_ne (ne q2)]; exact q2⟩, fun z => z.elim q3 fun z => ne q1 z, fun z => z.elim q4 fun z => ne q2 z, q5⟩
  · by_cases ea : a = p
    · exact .of (by rw [ea, upd_same]) q.ntup
    · exact .eq (upd_ne ea) (S.oin a (z.resolve_right ea))
  · obtain ⟨ps, q1, q2⟩ := S.tab t ht
    exact ⟨ps, by rw [upd_ne (ne q1)]; exact q1, q2⟩
  · rcases z with z | z
    · exact S.otab t ht z
    · obtain ⟨ps, q1, _⟩ := S.tab t ht
      exact ne q1 z
  · rw [upd_ne]
    rintro rfl
    exact nh (.inl z)
theorem St.fresh {p : Addr} {xs : List V} {ds : List PyData} (S : St K tb α g σ H) (hp : H p = none) (q : RpA K (vw α g H) xs ds) : Fresh K tb α α g σ H (upd H p (.lst xs)) p ds := S.freshO hp ⟨xs, rfl, q⟩
theorem FreshO.trans {α1 α2 : Ab} {H1 H2 : Hp} {p : Addr} {ds : OD} (m : Mv α α1 g H H1) (F : FreshO K tb α1 α2 g σ H1 H2 p ds) : FreshO K tb α α2 g σ H H2 p ds :=
  ⟨F.st, F.np, fun a z => (F.out a z).trans (m.out a z), m.ext.trans F.ext, F.isO⟩
end
end Pd
end
section
set_option Elab.async false
set_option linter.all false
set_option maxRecDepth 100000
set_option maxHeartbeats 1000000
namespace Pd
open PySem PySem.Spec PyProof.Rows L2

/-! ### the strongest readings -/
def U (X : Cx) (e : Expr) : TE := fun σ H Q => ∀ (pins : List (Addr × Obj)) (s : Shared), Inv X pins σ H s → wpAny (model X.prog X.w) X.A (eval e X.env) (EP X pins σ Q) X.xe s
def UT (X : Cx) (e : Expr) : TT := fun σ H Q => ∀ (pins : List (Addr × Obj)) (s : Shared), Inv X pins σ H s → wpAny (model X.prog X.w) X.A (isTrue e X.env (eval e X.env)) (TP X pins σ Q) X.xe s
def UW (X : Cx) (e : Expr) : TT := fun σ H Q => ∀ (whole : Sem Value) (pins : List (Addr × Obj)) (s : Shared), Inv X pins σ H s → wpAny (model X.prog X.w) X.A (isTrue e X.env whole) (TP X pins σ Q) X.xe s
def US (X : Cx) (st : Stmt) : TS := fun D σ H => ∀ (pins : List (Addr × Obj)) (s : Shared), Inv X pins σ H s → wpAny (model X.prog X.w) X.A (exec st X.env) (SP X pins D) X.xe s
def USs (X : Cx) (st : List Stmt) : TS := fun D σ H => ∀ (pins : List (Addr × Obj)) (s : Shared), Inv X pins σ H s → wpAny (model X.prog X.w) X.A (execs st X.env) (SP X pins D) X.xe s
def UA (X : Cx) (es : List Expr) : TA := fun σ H Q => ∀ (pos : Pos) (pins : List (Addr × Obj)) (s : Shared), Inv X pins σ H s → wpAny (model X.prog X.w) X.A (spliced (backTo pos (starEach es X.env))) (AP X pins σ Q) X.xe s
section
variable {X : Cx} {e : Expr} {st : Stmt} {sts : List Stmt} {es : List Expr} {σ : L2.St} {H : Hp} {Q : VK}
theorem pe_U : PE X e (U X e) := ⟨fun pins s σ H Q I h => h pins s I⟩
theorem pt_U : PT X e (UT X e) := ⟨fun pins s σ H Q I h => h pins s I⟩
theorem pw_U : PW X e (UW X e) := ⟨fun wh pins s σ H Q I h => h wh pins s I⟩
theorem ps_U : PS X st (US X st) := ⟨fun pins s σ H Q I h => h pins s I⟩
theorem pss_U : PSs X sts (USs X sts) := ⟨fun pins s σ H Q I h => h pins s I⟩
theorem pa_U : PA X es (UA X es) := ⟨fun pos pins s σ H Q I h => h pos pins s I⟩
theorem U_of {t : TE} (h : PE X e t) (q : t σ H Q) : U X e σ H Q := fun pins s I => h.run pins s σ H Q I q
theorem UT_of {t : TT} {Q : Bool → Hp → Prop} (h : PT X e t) (q : t σ H Q) : UT X e σ H Q := fun pins s I => h.run pins s σ H Q I q
theorem UW_of {t : TT} {Q : Bool → Hp → Prop} (h : PW X e t) (q : t σ H Q) : UW X e σ H Q := fun wh pins s I => h.run wh pins s σ H Q I q
theorem US_of {t : TS} {D : Ends} (h : PS X st t) (q : t D σ H) : US X st D σ H := fun pins s I => h.run pins s σ H D I q
theorem USs_of {t : TS} {D : Ends} (h : PSs X sts t) (q : t D σ H) : USs X sts D σ H := fun pins s I => h.run pins s σ H D I q
theorem UA_of {t : TA} {Q : List V → Hp → Prop} (h : PA X es t) (q : t σ H Q) : UA X es σ H Q := fun pos pins s I => h.run pos pins s σ H Q I q
end
theorem rp_un {K : PySem.W.Frag} {α : Ab} {g : Gh} {H : Hp} {v : V} {d : PyData} (q : Rp K (vw α g H) v d) : Rp K H v d := dp_ext (Ext.of fun a o h => (vw_some h).1) d v q
theorem rpa_un {K : PySem.W.Frag} {α : Ab} {g : Gh} {H : Hp} {v : List V} {d : List PyData} (q : RpA K (vw α g H) v d) : RpA K H v d := dpa_ext (Ext.of fun a o h => (vw_some h).1) d v q
theorem vw_sub {α : Ab} {g : Gh} {H : Hp} {a : Addr} {o : HO} (q : vw α g H a = some o) : H a = some o := (vw_some q).1

/-! ### what a piece of text tells: a partial map of the states -/
abbrev M (τ : Type) := Ab → Option (τ × Ab)
def mb {τ υ : Type} (t : M τ) (f : τ → M υ) : M υ := fun α => match t α with | none => none | some r => f r.1 r.2
def mo {τ : Type} (o : Option τ) : M τ := fun α => match o with | none => none | some x => some (x, α)
abbrev mr {τ : Type} (x : τ) : M τ := mo (some x)
theorem mb_some {τ υ : Type} {t : M τ} {f : τ → M υ} {α : Ab} {r : υ × Ab} (h : mb t f α = some r) : ∃ x α1, t α = some (x, α1) ∧ f x α1 = some r := by
  unfold mb at h
  cases e : t α with
  | none => rw [e] at h; cases h
  | some p => rw [e] at h; exact ⟨p.1, p.2, rfl, h⟩
theorem mo_some {τ : Type} {o : Option τ} {α : Ab} {x : τ} {α' : Ab} (h : mo o α = some (x, α')) : o = some x ∧ α' = α := by
  unfold mo at h
  cases o with
  | none => cases h
  | some y => cases h; exact ⟨rfl, rfl⟩

section
variable (X : Cx) (tb : List (Addr × Addr))
def EE (e : Expr) (α : Ab) (d : PyData) (α' : Ab) : Prop := ∀ (σ : L2.St) (H : Hp) (g : Gh) (Q : VK), St X.K tb α g σ H →
  (∀ v H', St X.K tb α' g σ H' → Mv α α' g H H' → Rp X.K (vw α' g H') v d → Q v H') → U X e σ H Q
def EF (e : Expr) (α : Ab) (ds : List PyData) (α' : Ab) : Prop := ∀ (σ : L2.St) (H : Hp) (g : Gh) (Q : VK), St X.K tb α g σ H →
  (∀ p H', Fresh X.K tb α α' g σ H H' p ds → Q (.ref p) H') → U X e σ H Q
def ET (e : Expr) (α : Ab) (b : Bool) (α' : Ab) : Prop := ∀ (σ : L2.St) (H : Hp) (g : Gh) (Q : Bool → Hp → Prop), St X.K tb α g σ H →
  (∀ H', St X.K tb α' g σ H' → Mv α α' g H H' → Q b H') → UT X e σ H Q
def EW (e : Expr) (α : Ab) (b : Bool) (α' : Ab) : Prop := ∀ (σ : L2.St) (H : Hp) (g : Gh) (Q : Bool → Hp → Prop), St X.K tb α g σ H →
  (∀ H', St X.K tb α' g σ H' → Mv α α' g H H' → Q b H') → UW X e σ H Q
def EA (es : List Expr) (α : Ab) (ds : List PyData) (α' : Ab) : Prop := ∀ (σ : L2.St) (H : Hp) (g : Gh) (Q : List V → Hp → Prop), St X.K tb α g σ H →
  (∀ vs H', St X.K tb α' g σ H' → Mv α α' g H H' → RpA X.K (vw α' g H') vs ds → Q vs H') → UA X es σ H Q
/-- e is told by t: a datum; a fresh list; a test; a test in a chain; the data of a row -/
def RE (e : Expr) (t : M PyData) : Prop := ∀ α d α', t α = some (d, α') → EE X tb e α d α'
def RF (e : Expr) (t : M (List PyData)) : Prop := ∀ α d α', t α = some (d, α') → EF X tb e α d α'
def RT (e : Expr) (t : M Bool) : Prop := ∀ α d α', t α = some (d, α') → ET X tb e α d α'
def RW (e : Expr) (t : M Bool) : Prop := ∀ α d α', t α = some (d, α') → EW X tb e α d α'
def RA (es : List Expr) (t : M (List PyData)) : Prop := ∀ α d α', t α = some (d, α') → EA X tb es α d α'
/-- operations by data -/
def OpD (op : Value → Value → Sem Value) (f : PyData → PyData → Option PyData) : Prop := ∀ d1 d2 d, f d1 d2 = some d → ∃ r : R2, OpR X op r ∧
  ∀ (α : Ab) (g : Gh) (σ : L2.St) (H : Hp) (v1 v2 : V) (Q : VK), St X.K tb α g σ H → Rp X.K (vw α g H) v1 d1 → Rp X.K (vw α g H) v2 d2 →
    (∀ v H', St X.K tb α g σ H' → Mv α α g H H' → Rp X.K (vw α g H') v d → Q v H') → r v1 v2 H Q
def OpB (op : Value → Value → Sem Value) (f : PyData → PyData → Option Bool) : Prop := ∀ d1 d2 b, f d1 d2 = some b → ∃ r : R2, OpR X op r ∧
  ∀ (H : Hp) (v1 v2 : V) (Q : VK), Rp X.K H v1 d1 → Rp X.K H v2 d2 → Q (.bl b) H → r v1 v2 H Q
def UnD (op : Value → Sem Value) (f : PyData → Option PyData) : Prop := ∀ d1 d, f d1 = some d → ∃ r, UnR X op r ∧ ∀ (H : Hp) (v1 : V) (Q : VK), Rp X.K H v1 d1 → (∀ v, (∀ H', Rp X.K H' v d) → Q v H) → r v1 H Q
def CallD (c : Value) (f : List PyData → Option PyData) : Prop := ∀ ds d, f ds = some d → ∃ r, CallR X c r ∧
  ∀ (α : Ab) (g : Gh) (σ : L2.St) (H : Hp) (vs : List V) (Q : VK), St X.K tb α g σ H → RpA X.K (vw α g H) vs ds →
    (∀ v H', St X.K tb α g σ H' → Mv α α g H H' → Rp X.K (vw α g H') v d → Q v H') → r vs H Q
def CallF (c : Value) (f : List PyData → Option (List PyData)) : Prop := ∀ ds d, f ds = some d → ∃ r, CallR X c r ∧
  ∀ (α : Ab) (g : Gh) (σ : L2.St) (H : Hp) (vs : List V) (Q : VK), St X.K tb α g σ H → RpA X.K (vw α g H) vs ds →
    (∀ p H', Fresh X.K tb α α g σ H H' p d → Q (.ref p) H') → r vs H Q
end

/-- what is at a slot, seen without a change -/
def peek (i : Nat) (α : Ab) : Option PyData := match α.ρ[i]? with | some (.val d) => some d | some (.obj (.l ds)) => some (.list ds) | _ => none
def mVar (i : Nat) : M PyData := fun α => match α.ρ[i]? with | some (.val d) => some (d, α) | some (.obj (.l ds)) => some (.list ds, α.set i (.val (.list ds))) | _ => none
def m2 (f : PyData → PyData → Option PyData) (t1 t2 : M PyData) : M PyData := mb t1 fun d1 => mb t2 fun d2 => mo (f d1 d2)
def m2b (f : PyData → PyData → Option Bool) (t1 t2 : M PyData) : M Bool := mb t1 fun d1 => mb t2 fun d2 => mo (f d1 d2)
def m1 (f : PyData → Option PyData) (t : M PyData) : M PyData := mb t fun d => mo (f d)
def m1b (f : PyData → Option Bool) (t : M PyData) : M Bool := mb t fun d => mo (f d)
def mB (t : M Bool) : M PyData := mb t fun b => mr (.bool b)
def mL (t : M (List PyData)) : M PyData := mb t fun ds => mr (.list ds)
def mIf (c : M Bool) (a b : M PyData) : M PyData := mb c fun k => bif k then a else b
def mAnd (a b : M Bool) : M Bool := mb a fun k => bif k then b else mr false
def mOr (a b : M Bool) : M Bool := mb a fun k => bif k then mr true else b
def mNot (a : M Bool) : M Bool := mb a fun k => mr !k
/-- the truth of a datum -/
def tr : PyData → Option Bool
  | .none => some false
  | .bool b => some b
  | .int i => some (i != 0)
  | .list ds => some !ds.isEmpty
  | .tuple ds => some !ds.isEmpty
  | _ => none
def mAndV (a b : M PyData) : M PyData := mb a fun d => mb (mo (tr d)) fun k => bif k then b else mr d
def mOrV (a b : M PyData) : M PyData := mb a fun d => mb (mo (tr d)) fun k => bif k then mr d else b
def mNil : M (List PyData) := mr []
def mCons (t : M PyData) (ts : M (List PyData)) : M (List PyData) := mb t fun d => mb ts fun ds => mr (d :: ds)
def mTup (ts : M (List PyData)) : M PyData := mb ts fun ds => mo (if ds.length ≤ 16777216 then some (.tuple ds) else none)
def mLst (ts : M (List PyData)) : M (List PyData) := mb ts fun ds => mo (if ds.length ≤ 16777216 then some ds else none)
def mCall (f : List PyData → Option PyData) (ts : M (List PyData)) : M PyData := mb ts fun ds => mo (f ds)
def mCallF (f : List PyData → Option (List PyData)) (ts : M (List PyData)) : M (List PyData) := mb ts fun ds => mo (f ds)

theorem tr_ok {K : PySem.W.Frag} {H : Hp} {v : V} {d : PyData} {k : Bool} (q : Rp K H v d) (h : tr d = some k) : TruV K v H k := by
  cases q with
  | non => exact (Option.some.inj h).symm
  | bl b => exact (Option.some.inj h).symm
  | int i => exact (Option.some.inj h).symm
  | str x => cases h
  | lst q r =>
    refine .inl ⟨_, .of q, (Option.some.inj h).symm.trans ?_⟩
    cases r <;> rfl
  | tup q r =>
    refine .inr (.inl ⟨_, .of q, (Option.some.inj h).symm.trans ?_⟩)
    cases r <;> rfl

section
variable {X : Cx} {tb : List (Addr × Addr)} {e e1 e2 e3 : Expr} {es : List Expr} {t t1 t2 t3 : M PyData} {ts : M (List PyData)} {c c1 c2 : M Bool} {pos p p1 p2 p3 : Pos} {x : Str}

/-! names -/
theorem St.peek {K : PySem.W.Frag} {α : Ab} {g : Gh} {σ : L2.St} {H : Hp} {i : Nat} {d : PyData} (S : St K tb α g σ H) (h : Pd.peek i α = some d) : ∃ v, σ[i]? = some (some v) ∧ Rp K H v d := by
  unfold Pd.peek at h
  split at h
  · rename_i d' e
    cases h
    obtain ⟨v, h1, h2⟩ := S.val i _ e
    exact ⟨v, h1, rp_un h2⟩
  · rename_i ds e
    cases h
    obtain ⟨h1, _, xs, h2, h3⟩ := S.ownL i _ e
    exact ⟨_, h1, .lst h2 (rpa_un h3)⟩
  · cases h
theorem re_var (i : Nat) (hN : X.N[i]? = some x := by rfl) (hv : Vis X.env.scope x := by first | exact Or.inl rfl | exact Or.inr (Or.inl rfl) | exact Or.inr (Or.inr rfl)) (hd : (x == ("__debug__" : Str)) = false := by decide)
    (hcd : (x == ("__classdict__" : Str)) = false := by decide) : RE X tb (.Name x p) (mVar i) := fun α d α' h σ H g Q S k => by
  unfold mVar at h
  split at h
  · rename_i d' e
    cases h
    obtain ⟨v, h1, h2⟩ := S.val i _ e
    exact U_of (pe_var hN hv hd hcd) ⟨v, h1, k v H S (Mv.refl _ g H) h2⟩
  · rename_i ds e
    cases h
    obtain ⟨S', E, h1, h2⟩ := S.frz e
    exact U_of (pe_var hN hv hd hcd) ⟨_, h1, k _ H S' ⟨E, fun _ _ => rfl⟩ h2⟩
  · cases h
/-! constants -/
theorem re_int {i : Int} {j : Nat} : RE X tb (.Constant (.int i) j p) (mr (.int i)) := fun α d α' h σ H g Q S k => by cases h; exact U_of pe_int (k _ H S (Mv.refl _ g H) (.int i))
theorem re_bool {b : Bool} {j : Nat} : RE X tb (.Constant (.bool b) j p) (mr (.bool b)) := fun α d α' h σ H g Q S k => by cases h; exact U_of pe_bl (k _ H S (Mv.refl _ g H) (.bl b))
theorem re_str {x : Str} {j : Nat} : RE X tb (.Constant (.str x) j p) (mr (.str x)) := fun α d α' h σ H g Q S k => by cases h; exact U_of pe_str (k _ H S (Mv.refl _ g H) (.str x))
theorem re_none {j : Nat} : RE X tb (.Constant .none j p) (mr .none) := fun α d α' h σ H g Q S k => by cases h; exact U_of pe_non (k _ H S (Mv.refl _ g H) .non)
theorem re_glob {d : PyData} {v : V} {u : Value} (hm : X.mg x = some u) (r : RelV v u) (hD : ∀ (V' : Hp), Rp X.K V' v d) (hg : Gl X x := by rfl) (hd : (x == ("__debug__" : Str)) = false := by decide) : RE X tb (.Name x p) (mr d) := fun α d' α' h σ H g Q S k => by
  cases h; exact U_of (pe_glob hg hm r hd) (k v H S (Mv.refl _ g H) (hD _))
/-! operators -/
theorem re_bin {op : Operator} {f : PyData → PyData → Option PyData} (ho : OpD X tb (binaryOp op) f) (h1 : RE X tb e1 t1) (h2 : RE X tb e2 t2) : RE X tb (.BinOp e1 op e2 p) (m2 f t1 t2) := fun α d α' h σ H g Q S k => by
  obtain ⟨d1, α1, k1, h⟩ := mb_some h
  obtain ⟨d2, α2, k2, h⟩ := mb_some h
  obtain ⟨hf, rfl⟩ := mo_some h
  obtain ⟨r, hr, hq⟩ := ho d1 d2 d hf
  refine U_of (pe_op hr pe_U pe_U) ?_
  refine h1 _ _ _ k1 σ H g _ S fun v H1 S1 w1 q1 => h2 _ _ _ k2 σ H1 g _ S1 fun u H2 S2 w2 q2 => ?_
  exact hq _ g σ H2 v u Q S2 (dp_ext w2.ext _ _ q1) q2 fun v H3 S3 w3 q3 => k v H3 S3 ((w1.trans w2).trans w3) q3
theorem re_un {op : UnaryOp} {f : PyData → Option PyData} (ho : UnD X (unaryOp op) f) (h1 : RE X tb e1 t1) : RE X tb (.UnaryOp op e1 p) (m1 f t1) := fun α d α' h σ H g Q S k => by
  obtain ⟨d1, α1, k1, h⟩ := mb_some h
  obtain ⟨hf, rfl⟩ := mo_some h
  obtain ⟨r, hr, hq⟩ := ho d1 d hf
  refine U_of (pe_un hr pe_U) ?_
  refine h1 _ _ _ k1 σ H g _ S fun v H1 S1 w1 q1 => ?_
  exact hq H1 v _ (rp_un q1) fun v hv => k v H1 S1 w1 (hv _)
theorem rt_cmp {op : CmpOp} {f : PyData → PyData → Option Bool} (ho : OpB X (compareOp op) f) (h1 : RE X tb e1 t1) (h2 : RE X tb e2 t2) (hm : behindInMarks op e2 = false := by first | exact nobehind _ (by decide) (by decide) | rfl) :
    RT X tb (.Compare e1 [op] [e2] p) (m2b f t1 t2) := fun α d α' h σ H g Q S k => by
  obtain ⟨d1, α1, k1, h⟩ := mb_some h
  obtain ⟨d2, α2, k2, h⟩ := mb_some h
  obtain ⟨hf, rfl⟩ := mo_some h
  obtain ⟨r, hr, hq⟩ := ho d1 d2 d hf
  refine UT_of (pt_cmpR hr pe_U pe_U hm) ?_
  refine h1 _ _ _ k1 σ H g _ S fun v H1 S1 w1 q1 => h2 _ _ _ k2 σ H1 g _ S1 fun u H2 S2 w2 q2 => ?_
  exact hq H2 v u _ (rp_un (dp_ext w2.ext _ _ q1)) (rp_un q2) ⟨d, rfl, k H2 S2 (w1.trans w2)⟩
theorem re_cmp {op : CmpOp} {f : PyData → PyData → Option Bool} (ho : OpB X (compareOp op) f) (h1 : RE X tb e1 t1) (h2 : RE X tb e2 t2) (hm : behindInMarks op e2 = false := by first | exact nobehind _ (by decide) (by decide) | rfl) :
    RE X tb (.Compare e1 [op] [e2] p) (mB (m2b f t1 t2)) := fun α d α' h σ H g Q S k => by
  obtain ⟨b, α3, h, h'⟩ := mb_some h
  cases h'
  obtain ⟨d1, α1, k1, h⟩ := mb_some h
  obtain ⟨d2, α2, k2, h⟩ := mb_some h
  obtain ⟨hf, rfl⟩ := mo_some h
  obtain ⟨r, hr, hq⟩ := ho d1 d2 b hf
  refine U_of (pe_cmpR hr pe_U pe_U hm) ?_
  refine h1 _ _ _ k1 σ H g _ S fun v H1 S1 w1 q1 => h2 _ _ _ k2 σ H1 g _ S1 fun u H2 S2 w2 q2 => ?_
  exact hq H2 v u _ (rp_un (dp_ext w2.ext _ _ q1)) (rp_un q2) (k _ H2 S2 (w1.trans w2) (.bl _))
/-- with a name to the left, looked at when the right side is there -/
def m2bP (f : PyData → PyData → Option Bool) (i : Nat) (t2 : M PyData) : M Bool := fun α => match peek i α with
  | none => none
  | some _ => mb t2 (fun d2 => fun α2 => match peek i α2 with | none => none | some d1 => mo (f d1 d2) α2) α
theorem rt_cmpP {op : CmpOp} {f : PyData → PyData → Option Bool} (ho : OpB X (compareOp op) f) (i : Nat) (h2 : RE X tb e2 t2) (hm : behindInMarks op e2 = false := by first | exact nobehind _ (by decide) (by decide) | rfl)
    (hN : X.N[i]? = some x := by rfl) (hv : Vis X.env.scope x := by first | exact Or.inl rfl | exact Or.inr (Or.inl rfl) | exact Or.inr (Or.inr rfl)) (hd : (x == ("__debug__" : Str)) = false := by decide)
    (hcd : (x == ("__classdict__" : Str)) = false := by decide) : RT X tb (.Compare (.Name x p1) [op] [e2] p) (m2bP f i t2) := fun α d α' h σ H g Q S k => by
  unfold m2bP at h
  cases hp : peek i α with
  | none => rw [hp] at h; cases h
  | some d0 =>
    rw [hp] at h
    obtain ⟨d2, α2, k2, h⟩ := mb_some h
    cases hp2 : peek i α2 with
    | none => simp only [hp2] at h; cases h
    | some d1 =>
      simp only [hp2] at h
      obtain ⟨hf, rfl⟩ := mo_some h
      obtain ⟨r, hr, hq⟩ := ho d1 d2 d hf
      obtain ⟨v, e1, _⟩ := S.peek hp
      refine UT_of (pt_cmpR hr (pe_var hN hv hd hcd) pe_U hm) ?_
      refine ⟨v, e1, h2 _ _ _ k2 σ H g _ S fun u H2 S2 w2 q2 => ?_⟩
      obtain ⟨v', e2, q1⟩ := S2.peek hp2
      cases e1.symm.trans e2
      exact hq H2 v u _ q1 (rp_un q2) ⟨d, rfl, k H2 S2 w2⟩
/-! tests -/
theorem rt_val (h1 : RE X tb e t) (he : ∀ whole, isTrue e X.env whole = (do let v ← whole; standAt e.pos; holding [v] (truthy v)) := by intro _; rfl) : RT X tb e (m1b tr t) := fun α d α' h σ H g Q S k => by
  obtain ⟨d1, α1, k1, h⟩ := mb_some h
  obtain ⟨hf, rfl⟩ := mo_some h
  refine UT_of (pt_truth pe_U he) ?_
  exact h1 _ _ _ k1 σ H g _ S fun v H1 S1 w1 q1 => ⟨d, tr_ok (rp_un q1) hf, k H1 S1 w1⟩
/-- a name's truth, seen -/
def mTruP (i : Nat) : M Bool := fun α => match peek i α with | none => none | some d => mo (tr d) α
theorem rt_varP (i : Nat) (hN : X.N[i]? = some x := by rfl) (hv : Vis X.env.scope x := by first | exact Or.inl rfl | exact Or.inr (Or.inl rfl) | exact Or.inr (Or.inr rfl)) (hd : (x == ("__debug__" : Str)) = false := by decide)
    (hcd : (x == ("__classdict__" : Str)) = false := by decide) : RT X tb (.Name x p) (mTruP i) := fun α d α' h σ H g Q S k => by
  unfold mTruP at h
  cases hp : peek i α with
  | none => rw [hp] at h; cases h
  | some d0 =>
    simp only [hp] at h
    obtain ⟨hf, rfl⟩ := mo_some h
    obtain ⟨v, e1, q1⟩ := S.peek hp
    refine UT_of (pt_truth (pe_var hN hv hd hcd) (by intro _; rfl)) ?_
    exact ⟨v, e1, d, tr_ok q1 hf, k H S (Mv.refl _ g H)⟩
theorem rt_not (h1 : RT X tb e c) : RT X tb (.UnaryOp .Not e p) (mNot c) := fun α d α' h σ H g Q S k => by
  obtain ⟨d1, α1, k1, h⟩ := mb_some h
  cases h
  refine UT_of (pt_not pt_U) ?_
  exact h1 _ _ _ k1 σ H g _ S fun H1 S1 w1 => k H1 S1 w1
theorem rt_w (h1 : RW X tb e c) : RT X tb e c := fun α d α' h σ H g Q S k => fun pins s I => h1 _ _ _ h σ H g Q S k _ pins s I
theorem rw_and1 (h1 : RT X tb e c) : RW X tb (.BoolOp .And [e] p) c := fun α d α' h σ H g Q S k => UW_of (pw_and1 pt_U) (h1 _ _ _ h σ H g Q S k)
theorem rw_or1 (h1 : RT X tb e c) : RW X tb (.BoolOp .Or [e] p) c := fun α d α' h σ H g Q S k => UW_of (pw_or1 pt_U) (h1 _ _ _ h σ H g Q S k)
theorem rw_and (h1 : RT X tb e1 c1) (h2 : RW X tb (.BoolOp .And (e2 :: es) p) c2) : RW X tb (.BoolOp .And (e1 :: e2 :: es) p) (mAnd c1 c2) := fun α d α' h σ H g Q S k => by
  obtain ⟨d1, α1, k1, h⟩ := mb_some h
  refine UW_of (pw_and pt_U pw_U) ?_
  refine h1 _ _ _ k1 σ H g _ S fun H1 S1 w1 => ?_
  cases d1 with
  | true => exact h2 _ _ _ h σ H1 g _ S1 fun H2 S2 w2 => k H2 S2 (w1.trans w2)
  | false => cases h; exact k H1 S1 w1
theorem rw_or (h1 : RT X tb e1 c1) (h2 : RW X tb (.BoolOp .Or (e2 :: es) p) c2) : RW X tb (.BoolOp .Or (e1 :: e2 :: es) p) (mOr c1 c2) := fun α d α' h σ H g Q S k => by
  obtain ⟨d1, α1, k1, h⟩ := mb_some h
  refine UW_of (pw_or pt_U pw_U) ?_
  refine h1 _ _ _ k1 σ H g _ S fun H1 S1 w1 => ?_
  cases d1 with
  | false => exact h2 _ _ _ h σ H1 g _ S1 fun H2 S2 w2 => k H2 S2 (w1.trans w2)
  | true => cases h; exact k H1 S1 w1
/-! values by tests -/
theorem re_if (h0 : RT X tb e c) (h1 : RE X tb e1 t1) (h2 : RE X tb e2 t2) : RE X tb (.IfExp e e1 e2 p) (mIf c t1 t2) := fun α d α' h σ H g Q S k => by
  obtain ⟨d1, α1, k1, h⟩ := mb_some h
  refine U_of (pe_ifExp pt_U pe_U pe_U) ?_
  refine h0 _ _ _ k1 σ H g _ S fun H1 S1 w1 => ?_
  cases d1 with
  | true => exact h1 _ _ _ h σ H1 g _ S1 fun v H2 S2 w2 => k v H2 S2 (w1.trans w2)
  | false => exact h2 _ _ _ h σ H1 g _ S1 fun v H2 S2 w2 => k v H2 S2 (w1.trans w2)
theorem re_one {op} (h1 : RE X tb e t) : RE X tb (.BoolOp op [e] p) t := fun α d α' h σ H g Q S k => U_of (pe_one pe_U) (h1 _ _ _ h σ H g Q S k)
theorem re_and (h1 : RE X tb e1 t1) (h2 : RE X tb (.BoolOp .And (e2 :: es) p) t2) : RE X tb (.BoolOp .And (e1 :: e2 :: es) p) (mAndV t1 t2) := fun α d α' h σ H g Q S k => by
  obtain ⟨d1, α1, k1, h⟩ := mb_some h
  obtain ⟨b, α2, k2, h⟩ := mb_some h
  obtain ⟨hf, rfl⟩ := mo_some k2
  refine U_of (pe_andT pe_U pe_U) ?_
  refine h1 _ _ _ k1 σ H g _ S fun v H1 S1 w1 q1 => ⟨b, tr_ok (rp_un q1) hf, ?_⟩
  cases b with
  | true => exact h2 _ _ _ h σ H1 g _ S1 fun v H2 S2 w2 => k v H2 S2 (w1.trans w2)
  | false => cases h; exact k v H1 S1 w1 q1
theorem re_or (h1 : RE X tb e1 t1) (h2 : RE X tb (.BoolOp .Or (e2 :: es) p) t2) : RE X tb (.BoolOp .Or (e1 :: e2 :: es) p) (mOrV t1 t2) := fun α d α' h σ H g Q S k => by
  obtain ⟨d1, α1, k1, h⟩ := mb_some h
  obtain ⟨b, α2, k2, h⟩ := mb_some h
  obtain ⟨hf, rfl⟩ := mo_some k2
  refine U_of (pe_orT pe_U pe_U) ?_
  refine h1 _ _ _ k1 σ H g _ S fun v H1 S1 w1 q1 => ⟨b, tr_ok (rp_un q1) hf, ?_⟩
  cases b with
  | false => exact h2 _ _ _ h σ H1 g _ S1 fun v H2 S2 w2 => k v H2 S2 (w1.trans w2)
  | true => cases h; exact k v H1 S1 w1 q1
def mNotV (t : M PyData) : M PyData := mb t fun d => mo ((tr d).map fun b => .bool !b)
theorem re_not (h1 : RE X tb e t) : RE X tb (.UnaryOp .Not e p) (mNotV t) := fun α d α' h σ H g Q S k => by
  obtain ⟨d1, α1, k1, h⟩ := mb_some h
  obtain ⟨hf, rfl⟩ := mo_some h
  obtain ⟨b, hb, rfl⟩ := Option.map_eq_some_iff.mp hf
  refine U_of (pe_notT pe_U) ?_
  exact h1 _ _ _ k1 σ H g _ S fun v H1 S1 w1 q1 => ⟨b, tr_ok (rp_un q1) hb, k _ H1 S1 w1 (.bl _)⟩
/-! rows -/
theorem ra_nil : RA X tb [] mNil := fun α d α' h σ H g Q S k => by cases h; exact UA_of pa_nil (k [] H S (Mv.refl _ g H) .nil)
theorem ra_cons (h1 : RE X tb e t) (h2 : RA X tb es ts) (hs : starEach (e :: es) X.env = (false, eval e X.env) :: starEach es X.env := by rfl) : RA X tb (e :: es) (mCons t ts) := fun α d α' h σ H g Q S k => by
  obtain ⟨d1, α1, k1, h⟩ := mb_some h
  obtain ⟨ds, α2, k2, h⟩ := mb_some h
  cases h
  refine UA_of (pa_cons pe_U pa_U hs) ?_
  refine h1 _ _ _ k1 σ H g _ S fun v H1 S1 w1 q1 => h2 _ _ _ k2 σ H1 g _ S1 fun vs H2 S2 w2 q2 => ?_
  exact k _ H2 S2 (w1.trans w2) (.cons (dp_ext w2.ext _ _ q1) q2)
theorem re_tup {x1} (h1 : RA X tb es ts) : RE X tb (.Tuple es x1 p) (mTup ts) := fun α d α' h σ H g Q S k => by
  obtain ⟨ds, α1, k1, h⟩ := mb_some h
  obtain ⟨hf, rfl⟩ := mo_some h
  split at hf
  · rename_i hl
    cases hf
    refine U_of (pe_tup pa_U) ?_
    refine h1 _ _ _ k1 σ H g _ S fun vs H1 S1 w1 q1 => ⟨by rw [dpa_len q1, sizeLine_eq]; exact hl, fun p hp => ?_⟩
    obtain ⟨S2, w2, q2⟩ := S1.tup hp q1
    exact k _ _ S2 (w1.trans w2) q2
  · cases hf
theorem rf_lst (h1 : RA X tb es ts) : RF X tb (.List es p) (mLst ts) := fun α d α' h σ H g Q S k => by
  obtain ⟨ds, α1, k1, h⟩ := mb_some h
  obtain ⟨hf, rfl⟩ := mo_some h
  split at hf
  · rename_i hl
    cases hf
    refine U_of (pe_lst pa_U) ?_
    refine h1 _ _ _ k1 σ H g _ S fun vs H1 S1 w1 q1 => ⟨by rw [dpa_len q1, sizeLine_eq]; exact hl, fun p hp => ?_⟩
    exact k _ _ (.trans w1 (S1.fresh hp q1))
  · cases hf
theorem re_fresh (h1 : RF X tb e ts) : RE X tb e (mL ts) := fun α d α' h σ H g Q S k => by
  obtain ⟨ds, α1, k1, h⟩ := mb_some h
  cases h
  refine h1 _ _ _ k1 σ H g _ S fun p H1 F => ?_
  obtain ⟨S1, w1, q1⟩ := F.val
  exact k _ _ S1 w1 q1
/-! calls of what is built in -/
theorem re_callB {id : String} {f : List PyData → Option PyData} (hc : CallD X tb (.builtin id) f) (hg : Gl X x) (hm : X.mg x = none) (hv : bootBuiltins x = some (.builtin id)) (ha : RA X tb (e :: es) ts) (hn : x ≠ "__name__" := by decide) (hdb : (x == ("__debug__" : Str)) = false := by decide)
    (he : starEach (e :: es) X.env = (false, eval e X.env) :: starEach es X.env := by rfl) (hpl : (backTo pos (starEach es X.env)).any (·.1) = false := by rfl) : RE X tb (.Call (.Name x p) (e :: es) [] pos) (mCall f ts) := fun α d α' h σ H g Q S k => by
  obtain ⟨ds, α1, k1, h⟩ := mb_some h
  obtain ⟨hf, rfl⟩ := mo_some h
  obtain ⟨r, hr, hq⟩ := hc ds d hf
  refine U_of (pe_callB hr hg hm hv pa_U hn hdb he hpl) ?_
  refine ha _ _ _ k1 σ H g _ S fun vs H1 S1 w1 q1 => ?_
  exact hq _ g σ H1 vs Q S1 q1 fun v H2 S2 w2 q2 => k v H2 S2 (w1.trans w2) q2
theorem re_callTy {T : String} {f : List PyData → Option PyData} (hc : CallD X tb (.type T) f) (hg : Gl X x) (hm : X.mg x = none) (hv : bootBuiltins x = some (.type T)) (ha : RA X tb (e :: es) ts) (hn : x ≠ "__name__" := by decide) (hdb : (x == ("__debug__" : Str)) = false := by decide)
    (he : starEach (e :: es) X.env = (false, eval e X.env) :: starEach es X.env := by rfl) (hpl : (backTo pos (starEach es X.env)).any (·.1) = false := by rfl) : RE X tb (.Call (.Name x p) (e :: es) [] pos) (mCall f ts) := fun α d α' h σ H g Q S k => by
  obtain ⟨ds, α1, k1, h⟩ := mb_some h
  obtain ⟨hf, rfl⟩ := mo_some h
  obtain ⟨r, hr, hq⟩ := hc ds d hf
  refine U_of (pe_callTy hr hg hm hv pa_U hn hdb he hpl) ?_
  refine ha _ _ _ k1 σ H g _ S fun vs H1 S1 w1 q1 => ?_
  exact hq _ g σ H1 vs Q S1 q1 fun v H2 S2 w2 q2 => k v H2 S2 (w1.trans w2) q2
theorem rf_callTy {T : String} {f : List PyData → Option (List PyData)} (hc : CallF X tb (.type T) f) (hg : Gl X x) (hm : X.mg x = none) (hv : bootBuiltins x = some (.type T)) (ha : RA X tb (e :: es) ts) (hn : x ≠ "__name__" := by decide) (hdb : (x == ("__debug__" : Str)) = false := by decide)
    (he : starEach (e :: es) X.env = (false, eval e X.env) :: starEach es X.env := by rfl) (hpl : (backTo pos (starEach es X.env)).any (·.1) = false := by rfl) : RF X tb (.Call (.Name x p) (e :: es) [] pos) (mCallF f ts) := fun α d α' h σ H g Q S k => by
  obtain ⟨ds, α1, k1, h⟩ := mb_some h
  obtain ⟨hf, rfl⟩ := mo_some h
  obtain ⟨r, hr, hq⟩ := hc ds d hf
  refine U_of (pe_callTy hr hg hm hv pa_U hn hdb he hpl) ?_
  refine ha _ _ _ k1 σ H g _ S fun vs H1 S1 w1 q1 => ?_
  exact hq _ g σ H1 vs Q S1 q1 fun p H2 F => k p H2 (.trans w1 F)
theorem rf_callB {id : String} {f : List PyData → Option (List PyData)} (hc : CallF X tb (.builtin id) f) (hg : Gl X x) (hm : X.mg x = none) (hv : bootBuiltins x = some (.builtin id)) (ha : RA X tb (e :: es) ts) (hn : x ≠ "__name__" := by decide) (hdb : (x == ("__debug__" : Str)) = false := by decide)
    (he : starEach (e :: es) X.env = (false, eval e X.env) :: starEach es X.env := by rfl) (hpl : (backTo pos (starEach es X.env)).any (·.1) = false := by rfl) : RF X tb (.Call (.Name x p) (e :: es) [] pos) (mCallF f ts) := fun α d α' h σ H g Q S k => by
  obtain ⟨ds, α1, k1, h⟩ := mb_some h
  obtain ⟨hf, rfl⟩ := mo_some h
  obtain ⟨r, hr, hq⟩ := hc ds d hf
  refine U_of (pe_callB hr hg hm hv pa_U hn hdb he hpl) ?_
  refine ha _ _ _ k1 σ H g _ S fun vs H1 S1 w1 q1 => ?_
  exact hq _ g σ H1 vs Q S1 q1 fun p H2 F => k p H2 (.trans w1 F)
end
end Pd
end
section
set_option Elab.async false
set_option linter.all false
set_option maxRecDepth 100000
set_option maxHeartbeats 1000000
namespace Pd
open PySem PySem.Spec PyProof.Rows L2

theorem dpa_at {K : PySem.W.Frag} {V : Hp} {ds : List PyData} {vs : List L2.V} {i : Int} {d : PyData} (h : RpA K V vs ds) (e : atI ds i = some d) : ∃ v, atI vs i = some v ∧ Rp K V v d := by
  unfold atI at e ⊢
  rw [dpa_len h]
  cases q : ixN ds.length i with
  | none => rw [q] at e; cases e
  | some j =>
    rw [q] at e
    exact dpa_get h e
theorem dpa_ints' {K : PySem.W.Frag} {V : Hp} {ns : List Int} {vs : List L2.V} (h : RpA K V vs (ns.map PyData.int)) : vs = ns.map L2.V.int := dpa_ints_inv h
theorem dpa_rep {K : PySem.W.Frag} {V : Hp} {ds : List PyData} {vs : List L2.V} (n : Nat) (h : RpA K V vs ds) : RpA K V (List.replicate n vs).flatten (List.replicate n ds).flatten := by
  induction n with
  | zero => exact .nil
  | succ n ih => rw [List.replicate_succ, List.replicate_succ, List.flatten_cons, List.flatten_cons]; exact dpa_app h ih

/-! ### what the operators do to data -/
def dI (f : Int → Int → Option Int) : PyData → PyData → Option PyData
  | .int i, .int j => (f i j).map .int
  | _, _ => none
def dAdd : PyData → PyData → Option PyData
  | .int i, .int j => some (.int (i + j))
  | .tuple a, .tuple b => if a.length + b.length ≤ 16777216 then some (.tuple (a ++ b)) else none
  | _, _ => none
def dMul : PyData → PyData → Option PyData
  | .int i, .int j => if i.natAbs.log2 + j.natAbs.log2 < 1000000 then some (.int (i * j)) else none
  | .tuple a, .int k => if a ≠ [] ∧ 2 ≤ k ∧ k ≤ 1000 ∧ a.length ≤ 1000 then some (.tuple (List.replicate k.toNat a).flatten) else none
  | _, _ => none
def dSub := dI fun i j => some (i - j)
def dDiv := dI fun i j => if 0 < j ∧ j.natAbs.log2 < 9000 then some (i / j) else none
def dMod := dI fun i j => if 0 < j then some (i % j) else none
def dPow := dI fun i j => if 0 ≤ j ∧ j ≤ 1000000 ∧ i.natAbs < 2 ^ 64 then some (i ^ j.toNat) else none
def dShl := dI fun i j => if 0 ≤ j ∧ (Builtin.Int.intBits i : Int) + j ≤ 2 ^ 27 then some (i * 2 ^ j.toNat) else none
def dShr := dI fun i j => if 0 ≤ j then some (i / 2 ^ j.toNat) else none
def dAnd := dI fun i j => some (Builtin.bitAnd i j)
def dOr := dI fun i j => some (Builtin.bitOr i j)
def dXor := dI fun i j => some (Builtin.bitXor i j)
def dInv : PyData → Option PyData
  | .int i => some (.int (Builtin.bitNot i))
  | _ => none
def dNeg : PyData → Option PyData
  | .int i => some (.int (-i))
  | _ => none
def toInts : List PyData → Option (List Int)
  | [] => some []
  | .int i :: r => (toInts r).map (i :: ·)
  | _ => none
theorem toInts_some : ∀ {ds : List PyData} {ns : List Int}, toInts ds = some ns → ds = ns.map PyData.int
  | [], ns, h => by cases h; rfl
  | .int i :: r, ns, h => by
    obtain ⟨m, h1, h2⟩ := Option.map_eq_some_iff.mp h
    subst h2
    rw [toInts_some h1]; rfl
  | .none :: _, _, h => by cases h
  | .bool _ :: _, _, h => by cases h
  | .str _ :: _, _, h => by cases h
  | .list _ :: _, _, h => by cases h
  | .tuple _ :: _, _, h => by cases h
  | .dict _ :: _, _, h => by cases h
def dC (f : Int → Int → Bool) : PyData → PyData → Option Bool
  | .int i, .int j => some (f i j)
  | _, _ => none
def dLt : PyData → PyData → Option Bool
  | .int i, .int j => some (decide (i < j))
  | .tuple a, .tuple b => match toInts a, toInts b with
    | some ns, some ms => some (HT.lexLt ns ms)
    | _, _ => none
  | _, _ => none
def dLe := dC fun i j => decide (i ≤ j)
def dGt := dC fun i j => decide (j < i)
def dGe := dC fun i j => decide (j ≤ i)
def dEq (a b : PyData) : Option Bool := if SeqAt.shaped a = true ∧ SeqAt.shaped b = true then some (PyData.eqv a b) else none
def dNe (a b : PyData) : Option Bool := if SeqAt.shaped a = true ∧ SeqAt.shaped b = true then some (!PyData.eqv a b) else none
def dIn (a : PyData) : PyData → Option Bool
  | .list ds => if SeqAt.shaped a = true ∧ SeqAt.shaped (.list ds) = true then some (ds.any fun z => PyData.eqv z a) else none
  | .tuple ds => if SeqAt.shaped a = true ∧ SeqAt.shaped (.list ds) = true then some (ds.any fun z => PyData.eqv z a) else none
  | _ => none
def dNotIn (a b : PyData) : Option Bool := (dIn a b).map (!·)
def dIs : PyData → PyData → Option Bool
  | .bool a, .bool b => some (decide (a = b))
  | a, .none => some (match a with | .none => true | _ => false)
  | _, _ => none
def dIsNot (a b : PyData) : Option Bool := (dIs a b).map (!·)
def dIx : PyData → PyData → Option PyData
  | .list ds, .int i => atI ds i
  | .tuple ds, .int i => atI ds i
  | _, _ => none

section
variable {X : Cx} {tb : List (Addr × Addr)}
theorem opd_I {op : Value → Value → Sem Value} {f : Int → Int → Option Int} {C : Int → Int → Prop} {h : Int → Int → Int} (ho : OpR X op (rI C fun i j => .int (h i j))) (hf : ∀ i j k, f i j = some k → C i j ∧ k = h i j) : OpD X tb op (dI f) := by
  intro d1 d2 d e
  cases d1 with
  | int i =>
    cases d2 with
    | int j =>
      obtain ⟨k, e1, e2⟩ := Option.map_eq_some_iff.mp e
      obtain ⟨c, rfl⟩ := hf i j k e1
      subst e2
      refine ⟨_, ho, fun α g σ H v1 v2 Q S q1 q2 k => ?_⟩
      cases q1; cases q2
      exact ⟨i, j, rfl, rfl, c, k _ H S (Mv.refl _ g H) (.int _)⟩
    | none => cases e
    | bool => cases e
    | str => cases e
    | list => cases e
    | tuple => cases e
    | dict => cases e
  | none => cases e
  | bool => cases e
  | str => cases e
  | list => cases e
  | tuple => cases e
  | dict => cases e
theorem opd_I0 {op : Value → Value → Sem Value} {h : Int → Int → Int} (ho : OpR X op (rI0 fun i j => .int (h i j))) : OpD X tb op (dI fun i j => some (h i j)) := by
  refine opd_I (C := fun _ _ => True) (h := h) (fun pins s σ H x y v u Q I rx ry q => ?_) (fun i j k e => ⟨trivial, (Option.some.inj e).symm⟩)
  obtain ⟨i, j, e1, e2, _, q⟩ := q
  exact ho pins s σ H x y v u Q I rx ry ⟨i, j, e1, e2, q⟩
theorem opd_sub : OpD X tb (binaryOp .Sub) dSub := opd_I0 op_sub
theorem opd_and : OpD X tb (binaryOp .BitAnd) dAnd := opd_I0 op_and
theorem opd_or : OpD X tb (binaryOp .BitOr) dOr := opd_I0 op_or
theorem opd_xor : OpD X tb (binaryOp .BitXor) dXor := opd_I0 op_xor
theorem ite_some {c : Prop} [Decidable c] {x y : α} (h : (if c then some x else none) = some y) : c ∧ y = x := by
  split at h
  · rename_i hc; exact ⟨hc, (Option.some.inj h).symm⟩
  · cases h
theorem opd_div : OpD X tb (binaryOp .FloorDiv) dDiv := opd_I op_fdivW fun i j k e => by obtain ⟨c, r⟩ := ite_some e; exact ⟨c, r⟩
theorem opd_mod : OpD X tb (binaryOp .Mod) dMod := opd_I op_mod fun i j k e => ite_some e
theorem opd_pow : OpD X tb (binaryOp .Pow) dPow := opd_I op_pow fun i j k e => by obtain ⟨c, r⟩ := ite_some e; exact ⟨c, r⟩
theorem opd_shl : OpD X tb (binaryOp .LShift) dShl := opd_I op_shlW fun i j k e => by obtain ⟨c, r⟩ := ite_some e; exact ⟨c, r⟩
theorem opd_shr : OpD X tb (binaryOp .RShift) dShr := opd_I op_shr fun i j k e => ite_some e
theorem opd_add : OpD X tb (binaryOp .Add) dAdd := by
  intro d1 d2 d e
  cases d1 with
  | int i =>
    cases d2 with
    | int j =>
      cases e
      refine ⟨_, op_add, fun α g σ H v1 v2 Q S q1 q2 k => ?_⟩
      cases q1; cases q2
      exact ⟨i, j, rfl, rfl, k _ H S (Mv.refl _ g H) (.int _)⟩
    | none => cases e
    | bool => cases e
    | str => cases e
    | list => cases e
    | tuple => cases e
    | dict => cases e
  | tuple as =>
    cases d2 with
    | tuple bs =>
      obtain ⟨hl, rfl⟩ := ite_some e
      refine ⟨_, op_catA, fun α g σ H v1 v2 Q S q1 q2 k => ?_⟩
      cases q1 with
      | @tup a1 xs _ h1 r1 =>
      cases q2 with
      | @tup a2 ys _ h2 r2 =>
      have n1 := dpa_len r1
      have n2 := dpa_len r2
      refine ⟨a1, a2, xs, ys, rfl, rfl, .of (vw_some h1).1, .of (vw_some h2).1, by rw [n1, n2, sizeLine_eq]; exact hl, fun e1 => ?_, fun _ e2 => ?_, fun _ _ p hp => ?_⟩
      · subst e1
        cases r1
        exact k _ H S (Mv.refl _ g H) (.tup h2 r2)
      · subst e2
        cases r2
        rw [List.append_nil] at k
        exact k _ H S (Mv.refl _ g H) (.tup h1 r1)
      · obtain ⟨S2, w2, q⟩ := S.tup hp (dpa_app r1 r2)
        exact k _ _ S2 w2 q
    | none => cases e
    | bool => cases e
    | str => cases e
    | list => cases e
    | int => cases e
    | dict => cases e
  | none => cases e
  | bool => cases e
  | str => cases e
  | list => cases e
  | dict => cases e
theorem opd_mul : OpD X tb (binaryOp .Mult) dMul := by
  intro d1 d2 d e
  cases d1 with
  | int i =>
    cases d2 with
    | int j =>
      obtain ⟨hc, rfl⟩ := ite_some e
      refine ⟨_, op_mulW, fun α g σ H v1 v2 Q S q1 q2 k => ?_⟩
      cases q1; cases q2
      exact ⟨i, j, rfl, rfl, hc, k _ H S (Mv.refl _ g H) (.int _)⟩
    | none => cases e
    | bool => cases e
    | str => cases e
    | list => cases e
    | tuple => cases e
    | dict => cases e
  | tuple as =>
    cases d2 with
    | int j =>
      obtain ⟨⟨c1, c2, c3, c4⟩, rfl⟩ := ite_some e
      refine ⟨_, op_repT, fun α g σ H v1 v2 Q S q1 q2 k => ?_⟩
      cases q2
      cases q1 with
      | @tup a1 xs _ h1 r1 =>
      have n1 := dpa_len r1
      refine ⟨a1, j, xs, rfl, rfl, .of (vw_some h1).1, ?_, c2, c3, by rw [n1]; exact c4, fun p hp => ?_⟩
      · intro e1; subst e1; cases r1; exact c1 rfl
      · obtain ⟨S2, w2, q⟩ := S.tup hp (dpa_rep j.toNat r1)
        exact k _ _ S2 w2 q
    | none => cases e
    | bool => cases e
    | str => cases e
    | list => cases e
    | tuple => cases e
    | dict => cases e
  | none => cases e
  | bool => cases e
  | str => cases e
  | list => cases e
  | dict => cases e
theorem und_inv : UnD X (unaryOp .Invert) dInv := by
  intro d1 d e
  cases d1 <;> cases e
  refine ⟨_, un_inv, fun H v1 Q q k => ?_⟩
  cases q
  exact ⟨_, rfl, k _ fun H' => .int _⟩
theorem und_neg : UnD X (unaryOp .USub) dNeg := by
  intro d1 d e
  cases d1 <;> cases e
  refine ⟨_, un_neg, fun H v1 Q q k => ?_⟩
  cases q
  exact ⟨_, rfl, k _ fun H' => .int _⟩
/-! comparisons -/
theorem opb_C {op : Value → Value → Sem Value} {f : Int → Int → Bool} (ho : OpR X op (rI0 fun i j => .bl (f i j))) : OpB X op (dC f) := by
  intro d1 d2 d e
  cases d1 with
  | int i =>
    cases d2 with
    | int j =>
      cases e
      refine ⟨_, ho, fun H v1 v2 Q q1 q2 k => ?_⟩
      cases q1; cases q2
      exact ⟨i, j, rfl, rfl, k⟩
    | none => cases e
    | bool => cases e
    | str => cases e
    | list => cases e
    | tuple => cases e
    | dict => cases e
  | none => cases e
  | bool => cases e
  | str => cases e
  | list => cases e
  | tuple => cases e
  | dict => cases e
theorem opb_le : OpB X (compareOp .LtE) dLe := opb_C op_le
theorem opb_gt : OpB X (compareOp .Gt) dGt := opb_C op_gt
theorem opb_ge : OpB X (compareOp .GtE) dGe := opb_C op_ge
theorem opb_lt (hu : X.A.units < cLine) : OpB X (compareOp .Lt) dLt := by
  intro d1 d2 d e
  cases d1 with
  | int i =>
    cases d2 with
    | int j =>
      cases e
      refine ⟨_, op_lt, fun H v1 v2 Q q1 q2 k => ?_⟩
      cases q1; cases q2
      exact ⟨i, j, rfl, rfl, k⟩
    | none => cases e
    | bool => cases e
    | str => cases e
    | list => cases e
    | tuple => cases e
    | dict => cases e
  | tuple as =>
    cases d2 with
    | tuple bs =>
      have e : (match toInts as, toInts bs with | some ns, some ms => some (HT.lexLt ns ms) | _, _ => none) = some d := e
      split at e
      · rename_i ns ms e1 e2
        cases e
        refine ⟨_, op_ltT hu, fun H v1 v2 Q q1 q2 k => ?_⟩
        cases q1 with
        | tup h1 r1 =>
        cases q2 with
        | tup h2 r2 =>
        have i1 := toInts_some e1
        have i2 := toInts_some e2
        subst i1 i2
        cases dpa_ints_inv r1
        cases dpa_ints_inv r2
        exact ⟨_, _, ns, ms, rfl, rfl, .of h1, .of h2, k⟩
      · cases e
    | none => cases e
    | bool => cases e
    | str => cases e
    | list => cases e
    | int => cases e
    | dict => cases e
  | none => cases e
  | bool => cases e
  | str => cases e
  | list => cases e
  | dict => cases e
theorem opb_eq (hu : X.A.units + 65 < cLine) : OpB X (compareOp .Eq) dEq := by
  intro d1 d2 d e
  obtain ⟨⟨c1, c2⟩, rfl⟩ := ite_some e
  refine ⟨_, op_eqD (by omega), fun H v1 v2 Q q1 q2 k => ?_⟩
  exact ⟨d1, d2, rp_dp _ _ q1, rp_dp _ _ q2, c1, c2, k⟩
theorem opb_ne (hu : X.A.units + 65 < cLine) : OpB X (compareOp .NotEq) dNe := by
  intro d1 d2 d e
  obtain ⟨⟨c1, c2⟩, rfl⟩ := ite_some e
  refine ⟨_, op_neD (by omega), fun H v1 v2 Q q1 q2 k => ?_⟩
  exact ⟨d1, d2, rp_dp _ _ q1, rp_dp _ _ q2, c1, c2, k⟩
/-- x in t, t a tuple of data -/
def rInT (K : PySem.W.Frag) : R2 := fun x y H Q => ∃ d ds, Dp K H x d ∧ Dp K H y (.tuple ds) ∧ SeqAt.shaped d = true ∧ SeqAt.shaped (.list ds) = true ∧ Q (.bl (ds.any fun z => PyData.eqv z d)) H
def rNotInT (K : PySem.W.Frag) : R2 := fun x y H Q => ∃ d ds, Dp K H x d ∧ Dp K H y (.tuple ds) ∧ SeqAt.shaped d = true ∧ SeqAt.shaped (.list ds) = true ∧ Q (.bl (!ds.any fun z => PyData.eqv z d)) H
theorem op_inT (hu : X.A.units + 65 < cLine) : OpR X (compareOp .In) (rInT X.K) := by
  intro pins s σ H x y v u Q I rx ry h
  obtain ⟨d, ds, hd, he, sd, se, q⟩ := h
  obtain ⟨as, r1⟩ := Dp.reads I d x v hd rx
  obtain ⟨bs, r2⟩ := Dp.reads I (.tuple ds) y u he ry
  exact SeqAt.in_tuple_reads r2 r1 (SeqAt.canLay_of_shaped se) (SeqAt.canLay_of_shaped sd) (room_in_shaped sd hu) ⟨.bl _, H, I, rfl, q⟩
theorem op_notInT (hu : X.A.units + 65 < cLine) : OpR X (compareOp .NotIn) (rNotInT X.K) := by
  intro pins s σ H x y v u Q I rx ry h
  obtain ⟨d, ds, hd, he, sd, se, q⟩ := h
  obtain ⟨as, r1⟩ := Dp.reads I d x v hd rx
  obtain ⟨bs, r2⟩ := Dp.reads I (.tuple ds) y u he ry
  exact SeqAt.notIn_tuple_reads r2 r1 (SeqAt.canLay_of_shaped se) (SeqAt.canLay_of_shaped sd) (room_in_shaped sd hu) ⟨.bl _, H, I, rfl, q⟩
theorem opb_in (hu : X.A.units + 65 < cLine) : OpB X (compareOp .In) dIn := by
  intro d1 d2 d e
  cases d2 with
  | list ds =>
    obtain ⟨⟨c1, c2⟩, rfl⟩ := ite_some e
    exact ⟨_, op_inD hu, fun H v1 v2 Q q1 q2 k => ⟨d1, ds, rp_dp _ _ q1, rp_dp _ _ q2, c1, c2, k⟩⟩
  | tuple ds =>
    obtain ⟨⟨c1, c2⟩, rfl⟩ := ite_some e
    exact ⟨_, op_inT hu, fun H v1 v2 Q q1 q2 k => ⟨d1, ds, rp_dp _ _ q1, rp_dp _ _ q2, c1, c2, k⟩⟩
  | none => cases e
  | bool => cases e
  | str => cases e
  | int => cases e
  | dict => cases e
theorem opb_notIn (hu : X.A.units + 65 < cLine) : OpB X (compareOp .NotIn) dNotIn := by
  intro d1 d2 d e
  obtain ⟨b, e1, e2⟩ := Option.map_eq_some_iff.mp e
  subst e2
  clear e
  revert e1
  intro e
  cases d2 with
  | list ds =>
    obtain ⟨⟨c1, c2⟩, rfl⟩ := ite_some e
    exact ⟨_, op_notInD hu, fun H v1 v2 Q q1 q2 k => ⟨d1, ds, rp_dp _ _ q1, rp_dp _ _ q2, c1, c2, k⟩⟩
  | tuple ds =>
    obtain ⟨⟨c1, c2⟩, rfl⟩ := ite_some e
    exact ⟨_, op_notInT hu, fun H v1 v2 Q q1 q2 k => ⟨d1, ds, rp_dp _ _ q1, rp_dp _ _ q2, c1, c2, k⟩⟩
  | none => cases e
  | bool => cases e
  | str => cases e
  | int => cases e
  | dict => cases e
theorem opb_is : OpB X (compareOp .Is) dIs := by
  intro d1 d2 d e
  cases d2 with
  | bool b =>
    cases d1 <;> cases e
    refine ⟨_, op_is_bl, fun H v1 v2 Q q1 q2 k => ?_⟩
    cases q1; cases q2
    exact ⟨_, _, rfl, rfl, k⟩
  | none =>
    refine ⟨_, op_isN, fun H v1 v2 Q q1 q2 k => ?_⟩
    cases q2
    cases q1 <;> cases e <;> exact ⟨rfl, k⟩
  | list => cases d1 <;> cases e
  | tuple => cases d1 <;> cases e
  | str => cases d1 <;> cases e
  | int => cases d1 <;> cases e
  | dict => cases d1 <;> cases e
theorem opb_isNot : OpB X (compareOp .IsNot) dIsNot := by
  intro d1 d2 d e
  obtain ⟨b0, e1, e2⟩ := Option.map_eq_some_iff.mp e
  subst e2
  clear e
  revert e1
  intro e
  cases d2 with
  | bool b =>
    cases d1 <;> cases e
    refine ⟨_, op_isnot_bl, fun H v1 v2 Q q1 q2 k => ?_⟩
    cases q1; cases q2
    exact ⟨_, _, rfl, rfl, k⟩
  | none =>
    refine ⟨_, op_notN, fun H v1 v2 Q q1 q2 k => ?_⟩
    cases q2
    cases q1 <;> cases e <;> exact ⟨rfl, k⟩
  | list => cases d1 <;> cases e
  | tuple => cases d1 <;> cases e
  | str => cases d1 <;> cases e
  | int => cases d1 <;> cases e
  | dict => cases d1 <;> cases e
end
end Pd
end
section
set_option Elab.async false
set_option linter.all false
set_option maxRecDepth 100000
set_option maxHeartbeats 1000000
namespace Pd
open PySem PySem.Spec PyProof.Rows L2

/-! ### more of fresh lists -/
section
variable {K : PySem.W.Frag} {tb : Tabs} {α α1 α2 : Ab} {g : Gh} {σ : L2.St} {H H1 H2 : Hp} {p : Addr} {ds : List PyData}
/-- a fresh list while something else is done -/
theorem FreshO.after (F : Fresh K tb α α1 g σ H H1 p ds) (S : St K tb α2 (g.add p) σ H2) (m : Mv α1 α2 (g.add p) H1 H2) : Fresh K tb α α2 g σ H H2 p ds := by
  obtain ⟨xs, e, q⟩ := F.is_
  exact ⟨S, F.np, fun a h => (m.out a (.inl h)).trans (F.out a h), F.ext.trans m.ext, .lst xs, (m.out p (.inr rfl)).trans e, xs, rfl, dpa_ext m.ext _ _ q⟩
end

def mCat (t1 t2 : M (List PyData)) : M (List PyData) := mb t1 fun a => mb t2 fun b => mo (if a.length + b.length ≤ 16777216 then some (a ++ b) else none)
def dRep (a : List PyData) : PyData → Option (List PyData)
  | .int k => if -(2 ^ 63) ≤ k ∧ k < 2 ^ 63 ∧ a.length * k.toNat ≤ 16777216 then some (List.replicate k.toNat a).flatten else none
  | _ => none
def mRep (t1 : M (List PyData)) (t2 : M PyData) : M (List PyData) := mb t1 fun a => mb t2 fun d => mo (dRep a d)
def mIx (t1 t2 : M PyData) : M PyData := mb t1 fun d1 => mb t2 fun d2 => mo (dIx d1 d2)
/-- a name's item, seen when the index is there -/
def mIxP (i : Nat) (t2 : M PyData) : M PyData := fun α => match peek i α with
  | none => none
  | some _ => mb t2 (fun d2 => fun α2 => match peek i α2 with | none => none | some d1 => mo (dIx d1 d2) α2) α
def cutD (xs : List PyData) (lo hi : Option Int) : List PyData := (xs.drop (HT.sIx xs.length 0 lo)).take (HT.sIx xs.length xs.length hi - HT.sIx xs.length 0 lo)
def dCut (lo hi : Option Int) : PyData → Option PyData
  | .list ds => some (.list (cutD ds lo hi))
  | .tuple ds => if HT.sIx ds.length 0 lo = 0 ∧ HT.sIx ds.length ds.length hi = ds.length then some (.tuple ds) else some (.tuple (cutD ds lo hi))
  | _ => none
def mCutHi (t t2 : M PyData) : M PyData := mb t fun d => mb t2 fun d2 => mo (match d, d2 with | .list ds, .int h => some (.list (cutD ds none (some h))) | _, _ => none)
def mCutLo (t t2 : M PyData) : M PyData := mb t fun d => mb t2 fun d2 => mo (match d, d2 with | .list ds, .int l => some (.list (cutD ds (some l) none)) | _, _ => none)
def mRev (t : M (List PyData)) : M (List PyData) := mb t fun ds => mr ds.reverse
def dTupOf : PyData → Option PyData
  | .list ds => some (.tuple ds)
  | .tuple ds => some (.tuple ds)
  | _ => none
def dListOf : List PyData → Option (List PyData)
  | [.list ds] => some ds
  | [.tuple ds] => some ds
  | _ => none
def dLen : List PyData → Option PyData
  | [.list ds] => some (.int ds.length)
  | [.tuple ds] => some (.int ds.length)
  | _ => none
def dInt : List PyData → Option PyData
  | [.int i] => some (.int i)
  | [.bool b] => some (.int (if b then 1 else 0))
  | _ => none
def dMin : List PyData → Option PyData
  | [.int i, .int j] => some (.int (if j < i then j else i))
  | _ => none
def dMax : List PyData → Option PyData
  | [.int i, .int j] => some (.int (if j > i then j else i))
  | [.list ds] => match toInts ds with
    | some (n :: ns) => some (.int (ns.foldl max n))
    | _ => none
  | _ => none
def dBits : PyData → Option PyData
  | .int i => some (.int (Builtin.Int.intBits i : Nat))
  | _ => none
def rgD (a b : Int) : List PyData := (List.range (b - a).toNat).map fun i => .int (a + (i : Nat))
def dRg (a b : Int) : Option (List PyData) := if -(2 ^ 62) ≤ a ∧ a < 2 ^ 62 ∧ -(2 ^ 62) ≤ b ∧ b < 2 ^ 62 ∧ (b - a).toNat ≤ 2 ^ 24 then some (rgD a b) else none
def mRg1 (t : M PyData) : M (List PyData) := mb t fun d => mo (match d with | .int n => dRg 0 n | _ => none)
def mRg2 (t1 t2 : M PyData) : M (List PyData) := mb t1 fun d1 => mb t2 fun d2 => mo (match d1, d2 with | .int a, .int b => dRg a b | _, _ => none)
theorem rpa_rg {K : PySem.W.Frag} {V : Hp} {a b : Int} : RpA K V (rgV a b) (rgD a b) := by
  unfold rgV rgD
  generalize List.range _ = l
  induction l with
  | nil => exact .nil
  | cons i l ih => exact .cons (.int _) ih
theorem rgV_neg {a b : Int} (h : b < a) : rgV a b = rgV a a := by
  unfold rgV
  rw [show (b - a).toNat = 0 by omega, show (a - a).toNat = 0 by omega]
/-- whether a datum is of a built-in type -/
def isOf (T : String) : PyData → Option Bool
  | .none => if T = "int" ∨ T = "bool" ∨ T = "tuple" ∨ T = "list" ∨ T = "str" ∨ T = "dict" then some false else none
  | .bool _ => if T = "int" ∨ T = "bool" then some true else if T = "tuple" ∨ T = "list" ∨ T = "str" ∨ T = "dict" then some false else none
  | .int _ => if T = "int" then some true else if T = "tuple" ∨ T = "list" ∨ T = "str" ∨ T = "dict" ∨ T = "bool" then some false else none
  | .str _ => if T = "str" then some true else if T = "tuple" ∨ T = "list" ∨ T = "int" ∨ T = "dict" ∨ T = "bool" then some false else none
  | .tuple _ => if T = "tuple" then some true else if T = "str" ∨ T = "list" ∨ T = "int" ∨ T = "dict" ∨ T = "bool" then some false else none
  | .list _ => if T = "list" then some true else if T = "str" ∨ T = "tuple" ∨ T = "int" ∨ T = "dict" ∨ T = "bool" then some false else none
  | _ => none
section
variable {X : Cx} {tb : List (Addr × Addr)} {e e1 e2 e3 : Expr} {es : List Expr} {t t1 t2 t3 : M PyData} {ts u1 u2 : M (List PyData)} {pos p p1 p2 p3 : Pos} {x : Str}
theorem rf_cat (h1 : RF X tb e1 u1) (h2 : RF X tb e2 u2) : RF X tb (.BinOp e1 .Add e2 p) (mCat u1 u2) := fun α d α' h σ H g Q S k => by
  obtain ⟨d1, α1, k1, h⟩ := mb_some h
  obtain ⟨d2, α2, k2, h⟩ := mb_some h
  obtain ⟨hf, rfl⟩ := mo_some h
  obtain ⟨hl, rfl⟩ := ite_some hf
  refine U_of (pe_op op_cat pe_U pe_U) ?_
  refine h1 _ _ _ k1 σ H g _ S fun pa H1 F1 => h2 _ _ _ k2 σ H1 (g.add pa) _ F1.st fun pb H2 F2 => ?_
  obtain ⟨S2, w2, q2⟩ := F2.val
  have F3 := F1.after S2 w2
  obtain ⟨S3, w3, q3⟩ := F3.val
  obtain ⟨xs, ex, rx⟩ := F3.is_
  obtain ⟨ys, ey, ry⟩ := F2.is_
  refine ⟨pa, pb, xs, ys, rfl, rfl, ex, ey, by rw [dpa_len rx, dpa_len ry, sizeLine_eq]; exact hl, fun pc hp => ?_⟩
  exact k _ _ (.trans w3 (S3.fresh hp (dpa_app (dpa_ext F3.ext2 _ _ rx) (dpa_ext (F2.ext2.trans F3.ext2) _ _ ry))))
theorem rf_rep (h1 : RF X tb e1 u1) (h2 : RE X tb e2 t2) : RF X tb (.BinOp e1 .Mult e2 p) (mRep u1 t2) := fun α d α' h σ H g Q S k => by
  obtain ⟨d1, α1, k1, h⟩ := mb_some h
  obtain ⟨d2, α2, k2, h⟩ := mb_some h
  obtain ⟨hf, rfl⟩ := mo_some h
  refine U_of (pe_op op_rep pe_U pe_U) ?_
  refine h1 _ _ _ k1 σ H g _ S fun pa H1 F1 => h2 _ _ _ k2 σ H1 (g.add pa) _ F1.st fun v H2 S2 w2 q2 => ?_
  cases d2 with
  | int j =>
    obtain ⟨⟨c1, c2, c3⟩, rfl⟩ := ite_some hf
    have F3 := F1.after S2 w2
    obtain ⟨S3, w3, q3⟩ := F3.val
    obtain ⟨xs, ex, rx⟩ := F3.is_
    cases q2
    refine ⟨pa, j, xs, rfl, rfl, ex, c1, c2, by rw [dpa_len rx, sizeLine_eq]; exact c3, fun pc hp => ?_⟩
    exact k _ _ (.trans w3 (S3.fresh hp (dpa_rep _ (dpa_ext F3.ext2 _ _ rx))))
  | none => cases hf
  | bool => cases hf
  | str => cases hf
  | list => cases hf
  | tuple => cases hf
  | dict => cases hf
/-! subscripts -/
theorem ix_rd {H : Hp} {v : V} {i : Int} {d1 d : PyData} {Q : VK} (q1 : Rp X.K H v d1) (e : dIx d1 (.int i) = some d) (k : ∀ u, (∀ V', (∀ d v', Rp X.K H v' d → Rp X.K V' v' d) → Rp X.K V' u d) → Q u H) :
    (fun x y H Q => rIxL X.K x y H Q ∨ rIxT X.K x y H Q) v (V.int i) H Q := by
  cases q1 with
  | lst h r =>
    obtain ⟨u, e1, e2⟩ := dpa_at r e
    exact .inl ⟨_, _, i, u, rfl, rfl, .of h, e1, k u fun V' hV => hV _ _ e2⟩
  | tup h r =>
    obtain ⟨u, e1, e2⟩ := dpa_at r e
    exact .inr ⟨_, _, i, u, rfl, rfl, .of h, e1, k u fun V' hV => hV _ _ e2⟩
  | non => cases e
  | bl => cases e
  | int => cases e
  | str => cases e
theorem dIx_int {d1 d2 d : PyData} (e : dIx d1 d2 = some d) : ∃ i, d2 = .int i := by
  cases d1 <;> cases d2 <;> first | exact ⟨_, rfl⟩ | cases e
theorem ixs_seq : IxR X (fun x y H Q => rIxL X.K x y H Q ∨ rIxT X.K x y H Q) := IxR.or ix_list ix_tup
theorem re_ix (h1 : RE X tb e1 t1) (h2 : RE X tb e2 t2) (hs : PlainIx e2 := by intro _ _; rfl) : RE X tb (.Subscript e1 e2 p) (mIx t1 t2) := fun α d α' h σ H g Q S k => by
  obtain ⟨d1, α1, k1, h⟩ := mb_some h
  obtain ⟨d2, α2, k2, h⟩ := mb_some h
  obtain ⟨hf, rfl⟩ := mo_some h
  obtain ⟨i, rfl⟩ := dIx_int hf
  refine U_of (pe_ix ixs_seq pe_U pe_U hs) ?_
  refine h1 _ _ _ k1 σ H g _ S fun v H1 S1 w1 q1 => h2 _ _ _ k2 σ H1 g _ S1 fun u H2 S2 w2 q2 => ?_
  cases q2
  have q1' := dp_ext w2.ext _ _ q1
  -- the item is read in the view
  cases q1' with
  | lst hh r =>
    obtain ⟨u, e1, e2⟩ := dpa_at r hf
    exact .inl ⟨_, _, i, u, rfl, rfl, (.of (vw_sub hh)), e1, k u H2 S2 (w1.trans w2) e2⟩
  | tup hh r =>
    obtain ⟨u, e1, e2⟩ := dpa_at r hf
    exact .inr ⟨_, _, i, u, rfl, rfl, .of (vw_some hh).1, e1, k u H2 S2 (w1.trans w2) e2⟩
  | non => cases hf
  | bl => cases hf
  | int => cases hf
  | str => cases hf
theorem re_ixP (i : Nat) (h2 : RE X tb e2 t2) (hs : PlainIx e2 := by intro _ _; rfl)
    (hN : X.N[i]? = some x := by rfl) (hv : Vis X.env.scope x := by first | exact Or.inl rfl | exact Or.inr (Or.inl rfl) | exact Or.inr (Or.inr rfl)) (hd : (x == ("__debug__" : Str)) = false := by decide)
    (hcd : (x == ("__classdict__" : Str)) = false := by decide) : RE X tb (.Subscript (.Name x p1) e2 p) (mIxP i t2) := fun α d α' h σ H g Q S k => by
  unfold mIxP at h
  cases hp : peek i α with
  | none => rw [hp] at h; cases h
  | some d0 =>
    rw [hp] at h
    obtain ⟨d2, α2, k2, h⟩ := mb_some h
    cases hp2 : peek i α2 with
    | none => simp only [hp2] at h; cases h
    | some d1 =>
      simp only [hp2] at h
      obtain ⟨hf, rfl⟩ := mo_some h
      obtain ⟨j, rfl⟩ := dIx_int hf
      obtain ⟨v, e1, _⟩ := S.peek hp
      refine U_of (pe_ix ixs_seq (pe_var hN hv hd hcd) pe_U hs) ?_
      refine ⟨v, e1, h2 _ _ _ k2 σ H g _ S fun u H2 S2 w2 q2 => ?_⟩
      cases q2
      unfold peek at hp2
      split at hp2
      · rename_i d' es
        cases hp2
        obtain ⟨v', e2, q1⟩ := S2.val i _ es
        cases e1.symm.trans e2
        cases q1 with
        | lst hh r =>
          obtain ⟨u, e1, e2⟩ := dpa_at r hf
          exact .inl ⟨_, _, j, u, rfl, rfl, (.of (vw_sub hh)), e1, k u H2 S2 w2 e2⟩
        | tup hh r =>
          obtain ⟨u, e1, e2⟩ := dpa_at r hf
          exact .inr ⟨_, _, j, u, rfl, rfl, .of (vw_some hh).1, e1, k u H2 S2 w2 e2⟩
        | non => cases hf
        | bl => cases hf
        | int => cases hf
        | str => cases hf
      · rename_i ds es
        cases hp2
        obtain ⟨e2, _, xs, hx, r⟩ := S2.ownL i _ es
        cases e1.symm.trans e2
        obtain ⟨u, e1, e2⟩ := dpa_at r hf
        exact .inl ⟨_, _, j, u, rfl, rfl, .of hx, e1, k u H2 S2 w2 e2⟩
      · cases hp2
/-! parts -/
theorem cut_len {V : Hp} {ds : List PyData} {vs : List L2.V} {K : PySem.W.Frag} (r : RpA K V vs ds) (lo hi : Option Int) : RpA K V (cutV vs lo hi) (cutD ds lo hi) := by
  unfold cutV cutD
  rw [dpa_len r]
  exact dpa_take _ (dpa_drop _ r)
theorem re_cutHi (h1 : RE X tb e1 t1) (h2 : RE X tb e2 t2) : RE X tb (.Subscript e1 (.Slice none (some e2) none p2) p) (mCutHi t1 t2) := fun α d α' h σ H g Q S k => by
  obtain ⟨d1, α1, k1, h⟩ := mb_some h
  obtain ⟨d2, α2, k2, h⟩ := mb_some h
  obtain ⟨hf, rfl⟩ := mo_some h
  refine U_of (pe_slice sl_list pe_U po_none (po_some pe_U)) ?_
  refine h1 _ _ _ k1 σ H g _ S fun v H1 S1 w1 q1 => h2 _ _ _ k2 σ H1 g _ S1 fun u H2 S2 w2 q2 => ?_
  split at hf
  · rename_i ds i hx
    cases hf
    cases q2
    refine ⟨i, rfl, ?_⟩
    cases dp_ext w2.ext _ _ q1 with
    | lst hh r =>
    refine ⟨_, _, rfl, (.of (vw_sub hh)), fun pc hp => ?_⟩
    obtain ⟨S3, w3, q3⟩ := S2.lst hp (cut_len r none (some i))
    exact k _ _ S3 ((w1.trans w2).trans w3) q3
  · cases hf
theorem re_cutLo (h1 : RE X tb e1 t1) (h2 : RE X tb e2 t2) : RE X tb (.Subscript e1 (.Slice (some e2) none none p2) p) (mCutLo t1 t2) := fun α d α' h σ H g Q S k => by
  obtain ⟨d1, α1, k1, h⟩ := mb_some h
  obtain ⟨d2, α2, k2, h⟩ := mb_some h
  obtain ⟨hf, rfl⟩ := mo_some h
  refine U_of (pe_slice sl_list pe_U (po_some pe_U) po_none) ?_
  refine h1 _ _ _ k1 σ H g _ S fun v H1 S1 w1 q1 => h2 _ _ _ k2 σ H1 g _ S1 fun u H2 S2 w2 q2 => ?_
  split at hf
  · rename_i ds i hx
    cases hf
    cases q2
    refine ⟨i, rfl, ?_⟩
    cases dp_ext w2.ext _ _ q1 with
    | lst hh r =>
    refine ⟨_, _, rfl, (.of (vw_sub hh)), fun pc hp => ?_⟩
    obtain ⟨S3, w3, q3⟩ := S2.lst hp (cut_len r (some i) none)
    exact k _ _ S3 ((w1.trans w2).trans w3) q3
  · cases hf
theorem rf_rev (h1 : RF X tb e1 ts) {k1 : Nat} : RF X tb (.Subscript e1 (.Slice none none (some (.UnaryOp .USub (.Constant (.int 1) k1 p1) p2)) p3) p) (mRev ts) := fun α d α' h σ H g Q S k => by
  obtain ⟨d1, α1, k1, h⟩ := mb_some h
  cases h
  refine U_of (pe_revL pe_U) ?_
  refine h1 _ _ _ k1 σ H g _ S fun pa H1 F1 => ?_
  obtain ⟨S2, w2, q2⟩ := F1.val
  obtain ⟨xs, ex, rx⟩ := F1.is_
  refine ⟨pa, xs, rfl, .of ex, fun pc hp => ?_⟩
  exact k _ _ (.trans w2 (S2.fresh hp (dpa_rev (dpa_ext F1.ext2 _ _ rx))))
/-! tuple(x), list(x), len(x), .. -/
theorem re_tupleOf (hg : Gl X "tuple") (hm : X.mg "tuple" = none) (h1 : RE X tb e1 t1) (na : starEach [e1] X.env = (false, eval e1 X.env) :: starEach [] X.env := by rfl) : RE X tb (.Call (.Name "tuple" p1) [e1] [] p) (m1 dTupOf t1) := fun α d α' h σ H g Q S k => by
  obtain ⟨d1, α1, k1, h⟩ := mb_some h
  obtain ⟨hf, rfl⟩ := mo_some h
  refine U_of (pe_tupleOf hg hm pe_U na) ?_
  refine h1 _ _ _ k1 σ H g _ S fun v H1 S1 w1 q1 => ?_
  cases q1 with
  | lst hh r =>
    cases hf
    refine .inl ⟨_, _, rfl, (.of (vw_sub hh)), fun pc hp => ?_⟩
    obtain ⟨S3, w3, q3⟩ := S1.tup hp r
    exact k _ _ S3 (w1.trans w3) q3
  | tup hh r =>
    cases hf
    exact .inr ⟨_, _, rfl, .of (vw_some hh).1, k _ H1 S1 w1 (.tup hh r)⟩
  | non => cases hf
  | bl => cases hf
  | int => cases hf
  | str => cases hf
theorem cf_list : CallF X tb (.type "list") dListOf := by
  intro ds d e
  match ds, e with
  | [.list xs], e =>
    cases e
    refine ⟨_, call_list_of, fun α g σ H vs Q S q k => ?_⟩
    cases q with
    | cons q r => cases r; cases q with
      | lst hh r => exact ⟨_, _, rfl, .inl ((.of (vw_sub hh))), fun l hl => k _ _ (S.fresh hl r)⟩
  | [.tuple xs], e =>
    cases e
    refine ⟨_, call_list_of, fun α g σ H vs Q S q k => ?_⟩
    cases q with
    | cons q r => cases r; cases q with
      | tup hh r => exact ⟨_, _, rfl, .inr (.of (vw_some hh).1), fun l hl => k _ _ (S.fresh hl r)⟩
theorem cd_len : CallD X tb (.builtin "len") dLen := by
  intro ds d e
  match ds, e with
  | [.list xs], e =>
    cases e
    refine ⟨_, call_len_seq, fun α g σ H vs Q S q k => ?_⟩
    cases q with
    | cons q r => cases r; cases q with
      | lst hh r => exact ⟨_, _, rfl, .inl ((.of (vw_sub hh))), k _ H S (Mv.refl _ g H) (by rw [dpa_len r]; exact .int _)⟩
  | [.tuple xs], e =>
    cases e
    refine ⟨_, call_len_seq, fun α g σ H vs Q S q k => ?_⟩
    cases q with
    | cons q r => cases r; cases q with
      | tup hh r => exact ⟨_, _, rfl, .inr (.of (vw_some hh).1), k _ H S (Mv.refl _ g H) (by rw [dpa_len r]; exact .int _)⟩
/-- len of a name, seen -/
def mLenP (i : Nat) : M PyData := fun α => match peek i α with | none => none | some d => mo (dLen [d]) α
theorem re_lenP (i : Nat) (hg : Gl X "len") (hm : X.mg "len" = none) (hN : X.N[i]? = some x := by rfl) (hv : Vis X.env.scope x := by first | exact Or.inl rfl | exact Or.inr (Or.inl rfl) | exact Or.inr (Or.inr rfl)) (hd : (x == ("__debug__" : Str)) = false := by decide)
    (hcd : (x == ("__classdict__" : Str)) = false := by decide) (he : starEach [.Name x p2] X.env = (false, eval (.Name x p2) X.env) :: starEach [] X.env := by rfl) : RE X tb (.Call (.Name "len" p1) [.Name x p2] [] p) (mLenP i) := fun α d α' h σ H g Q S k => by
  unfold mLenP at h
  cases hp : peek i α with
  | none => rw [hp] at h; cases h
  | some d0 =>
    simp only [hp] at h
    obtain ⟨hf, rfl⟩ := mo_some h
    obtain ⟨v, e1, q1⟩ := S.peek hp
    refine U_of (pe_callB call_len_seq hg hm (by decide +kernel) (pa_cons (pe_var hN hv hd hcd) pa_nil he) (by decide) (by decide) he) ?_
    refine ⟨v, e1, ?_⟩
    cases q1 with
    | lst hh r => cases hf; exact ⟨_, _, rfl, .inl (.of hh), k _ H S (Mv.refl _ g H) (by rw [dpa_len r]; exact .int _)⟩
    | tup hh r => cases hf; exact ⟨_, _, rfl, .inr (.of hh), k _ H S (Mv.refl _ g H) (by rw [dpa_len r]; exact .int _)⟩
    | non => cases hf
    | bl => cases hf
    | int => cases hf
    | str => cases hf
theorem cd_int : CallD X tb (.type "int") dInt := by
  intro ds d e
  match ds, e with
  | [.int i], e =>
    cases e
    refine ⟨_, call_int1, fun α g σ H vs Q S q k => ?_⟩
    cases q with
    | cons q r => cases r; cases q; exact .inl ⟨_, rfl, k _ H S (Mv.refl _ g H) (.int _)⟩
  | [.bool b], e =>
    cases e
    refine ⟨_, call_int1, fun α g σ H vs Q S q k => ?_⟩
    cases q with
    | cons q r => cases r; cases q; exact .inr ⟨_, rfl, k _ H S (Mv.refl _ g H) (.int _)⟩
theorem cd_min (hc : X.calm = true) : CallD X tb (.builtin "min") dMin := by
  intro ds d e
  match ds, e with
  | [.int i, .int j], e =>
    cases e
    refine ⟨_, call_min2 hc, fun α g σ H vs Q S q k => ?_⟩
    cases q with
    | cons q r => cases r with
      | cons q2 r => cases r; cases q; cases q2; exact ⟨_, _, rfl, k _ H S (Mv.refl _ g H) (.int _)⟩
theorem fold_max : ∀ (ns : List Int) (n m : Int), m ∈ n :: ns → (∀ y ∈ n :: ns, y ≤ m) → m = ns.foldl max n
  | [], n, m, h, _ => by simpa using h
  | a :: ns, n, m, h, k => by
    rw [List.foldl_cons]
    refine fold_max ns (max n a) m ?_ fun y hy => ?_
    · rcases List.mem_cons.mp h with e | h
      · subst e
        have := k a (by simp)
        rw [show max m a = m by omega]
        exact List.mem_cons_self
      · rcases List.mem_cons.mp h with e | h
        · subst e
          have := k n (by simp)
          rw [show max n m = m by omega]
          exact List.mem_cons_self
        · exact List.mem_cons_of_mem _ h
    · rcases List.mem_cons.mp hy with e | hy
      · have := k a (by simp)
        have := k n (by simp)
        omega
      · exact k y (by simp [hy])
theorem cd_max (hc : X.calm = true) : CallD X tb (.builtin "max") dMax := by
  intro ds d e
  match ds, e with
  | [.int i, .int j], e =>
    cases e
    refine ⟨_, call_max2 hc, fun α g σ H vs Q S q k => ?_⟩
    cases q with
    | cons q r => cases r with
      | cons q2 r => cases r; cases q; cases q2; exact ⟨_, _, rfl, k _ H S (Mv.refl _ g H) (.int _)⟩
  | [.list xs], e =>
    have e : (match toInts xs with | some (n :: ns) => some (PyData.int (ns.foldl max n)) | _ => none) = some d := e
    split at e
    · rename_i n ns en
      cases e
      have i1 := toInts_some en
      subst i1
      refine ⟨_, cr_max hc, fun α g σ H vs Q S q k => ?_⟩
      cases q with
      | cons q r => cases r; cases q with
        | lst hh r =>
          cases dpa_ints_inv r
          refine ⟨_, n :: ns, rfl, (.of (vw_sub hh)), by simp, fun m h1 h2 => ?_⟩
          rw [fold_max ns n m h1 h2]
          exact k _ H S (Mv.refl _ g H) (.int _)
    · cases e
theorem re_bits {apos : Pos} (h1 : RE X tb e1 t1) (hbase : attributeBase e1 "bit_length" X.env (eval e1 X.env) = eval e1 X.env := by rfl) (hline : (apos.endLine == p.line) = true := by rfl) : RE X tb (.Call (.Attribute e1 "bit_length" apos) [] [] p) (m1 dBits t1) := fun α d α' h σ H g Q S k => by
  obtain ⟨d1, α1, k1, h⟩ := mb_some h
  obtain ⟨hf, rfl⟩ := mo_some h
  refine U_of (pe_bits pe_U hbase hline) ?_
  refine h1 _ _ _ k1 σ H g _ S fun v H1 S1 w1 q1 => ?_
  cases q1 <;> cases hf
  exact ⟨_, rfl, k _ H1 S1 w1 (.int _)⟩
theorem rgok {a b : Int} {ds : List PyData} (h : dRg a b = some ds) : RgOk a b ∧ ds = rgD a b := by
  obtain ⟨h1, h2⟩ := ite_some h
  exact ⟨h1, h2⟩
theorem rf_listRg1 (hc : X.calm = true) (gl : Gl X "list") (ml : X.mg "list" = none) (gr : Gl X "range") (mr' : X.mg "range" = none) (h1 : RE X tb e1 t1) {pr : Pos} (na : starEach [e1] X.env = (false, eval e1 X.env) :: starEach [] X.env := by rfl)
    (nb : starEach [.Call (.Name "range" p2) [e1] [] pr] X.env = (false, eval (.Call (.Name "range" p2) [e1] [] pr) X.env) :: starEach [] X.env := by rfl) : RF X tb (.Call (.Name "list" p1) [.Call (.Name "range" p2) [e1] [] pr] [] p) (mRg1 t1) := fun α d α' h σ H g Q S k => by
  obtain ⟨d1, α1, k1, h⟩ := mb_some h
  obtain ⟨hf, rfl⟩ := mo_some h
  refine U_of (pe_listRg hc gl ml (prg_1 gr mr' pe_U na) nb) ?_
  refine h1 _ _ _ k1 σ H g _ S fun v H1 S1 w1 q1 => ?_
  cases q1 with
  | int n =>
    obtain ⟨o1, rfl⟩ := rgok hf
    exact ⟨n, rfl, o1, fun q hq => k _ _ (.trans w1 (S1.fresh hq rpa_rg))⟩
  | non => cases hf
  | bl => cases hf
  | str => cases hf
  | lst => cases hf
  | tup => cases hf
end
end Pd
end
section
set_option Elab.async false
set_option linter.all false
set_option maxRecDepth 100000
set_option maxHeartbeats 1000000
namespace Pd
open PySem PySem.Spec PyProof.Rows L2

/-! ### rounds over data -/
structure ItD (K : PySem.W.Frag) (tb : Tabs) (V1 : Hp) (J : It) (ds : List PyData) : Prop where
  go : ∀ {α : Ab} {g : Gh} {σ : L2.St} {H : Hp} {i : Nat}, St K tb α g σ H → Ext V1 (vw α g H) → i < ds.length → J.go i H
  stop : ∀ {α : Ab} {g : Gh} {σ : L2.St} {H : Hp} {i : Nat}, St K tb α g σ H → Ext V1 (vw α g H) → ds.length ≤ i → J.stop i H
  yld : ∀ {α : Ab} {g : Gh} {σ : L2.St} {H H' : Hp} {i : Nat} {x : V}, St K tb α g σ H → Ext V1 (vw α g H) → i < ds.length → J.yld i H x H' → ∃ d, ds[i]? = some d ∧ St K tb α g σ H' ∧ Mv α α g H H' ∧ Rp K (vw α g H') x d
def RI (X : Cx) (tb : Tabs) (tg iter : Expr) (t : M (List PyData)) : Prop := ∀ α ds α', t α = some (ds, α') → ∃ wi, PI X tg iter wi ∧
  ∀ (σ : L2.St) (H : Hp) (g : Gh) (R : It → Hp → Prop), St X.K tb α g σ H → (∀ J H1, St X.K tb α' g σ H1 → Mv α α' g H H1 → ItD X.K tb (vw α' g H1) J ds → R J H1) → wi σ H R
theorem dpa_get' {K : PySem.W.Frag} {V : Hp} : ∀ {ds : List PyData} {vs : List L2.V} {i : Nat} {v : L2.V}, RpA K V vs ds → vs[i]? = some v → ∃ d, ds[i]? = some d ∧ Rp K V v d
  | [], _, i, v, h, e => by cases h; simp at e
  | d :: ds, _, 0, v, h, e => by
    cases h with
    | cons q r => simp at e; subst e; exact ⟨_, rfl, q⟩
  | d :: ds, _, i + 1, v, h, e => by
    cases h with
    | cons q r =>
      obtain ⟨d', h1, h2⟩ := dpa_get' (i := i) (v := v) r (by simpa using e)
      exact ⟨d', by simpa using h1, h2⟩
theorem dpa_has {K : PySem.W.Frag} {V : Hp} {ds : List PyData} {vs : List L2.V} {i : Nat} (h : RpA K V vs ds) (hi : i < ds.length) : ∃ v, vs[i]? = some v := by
  have : i < vs.length := by rw [dpa_len h]; exact hi
  exact ⟨_, List.getElem?_eq_getElem this⟩
theorem itd_list {K : PySem.W.Frag} {tb : Tabs} {V1 : Hp} {a : Addr} {xs : List L2.V} {ds : List PyData} (h : V1 a = some (.lst xs)) (r : RpA K V1 xs ds) : ItD K tb V1 (Itl K a) ds where
  go S E hi := by
    obtain ⟨v, e⟩ := dpa_has r hi
    exact ⟨xs, v, .of (vw_sub (E.L h)), e⟩
  stop S E hi := ⟨xs, .of (vw_sub (E.L h)), by rw [dpa_len r]; exact hi⟩
  yld S E hi y := by
    obtain ⟨rfl, q⟩ := y
    obtain ⟨d, e, w⟩ := dpa_get' r (q xs (.of (vw_sub (E.L h))))
    exact ⟨d, e, S, Mv.refl _ _ _, dp_ext E _ _ w⟩
theorem itd_tup {K : PySem.W.Frag} {tb : Tabs} {V1 : Hp} {a : Addr} {xs : List L2.V} {ds : List PyData} (h : V1 a = some (.tup xs)) (r : RpA K V1 xs ds) : ItD K tb V1 (Itt K a) ds where
  go S E hi := by
    obtain ⟨v, e⟩ := dpa_has r hi
    exact ⟨xs, v, .of (vw_some (E.T h)).1, e⟩
  stop S E hi := ⟨xs, .of (vw_some (E.T h)).1, by rw [dpa_len r]; exact hi⟩
  yld S E hi y := by
    obtain ⟨rfl, q⟩ := y
    obtain ⟨d, e, w⟩ := dpa_get' r (q xs (.of (vw_some (E.T h)).1))
    exact ⟨d, e, S, Mv.refl _ _ _, dp_ext E _ _ w⟩
theorem itd_rng {K : PySem.W.Frag} {tb : Tabs} {V1 : Hp} {a b : Int} : ItD K tb V1 (Itr a (b - a).toNat) (rgD a b) where
  go S E hi := by unfold rgD at hi; rw [List.length_map, List.length_range] at hi; exact hi
  stop S E hi := by unfold rgD at hi; rw [List.length_map, List.length_range] at hi; exact hi
  yld S E hi y := by
    obtain ⟨rfl, rfl⟩ := y
    unfold rgD at hi ⊢
    rw [List.length_map, List.length_range] at hi
    exact ⟨_, by rw [List.getElem?_map, List.getElem?_range hi]; rfl, S, Mv.refl _ _ _, .int _⟩
def mItems (t : M PyData) : M (List PyData) := mb t fun d => mo (match d with | .list ds => some ds | .tuple ds => some ds | _ => none)
def i62 (i : Int) : Bool := decide (-(2 ^ 62) ≤ i) && decide (i < 2 ^ 62)
def mR1 (t : M PyData) : M (List PyData) := mb t fun d => mo (match d with | .int n => if i62 n then some (rgD 0 n) else none | _ => none)
def mR2 (t1 t2 : M PyData) : M (List PyData) := mb t1 fun d1 => mb t2 fun d2 => mo (match d1, d2 with | .int a, .int b => if i62 a && i62 b then some (rgD a b) else none | _, _ => none)
def zipD (a b : List PyData) : List PyData := (a.zip b).map fun p => .tuple [p.1, p.2]
theorem zipD_len (a b : List PyData) : (zipD a b).length = min a.length b.length := by unfold zipD; rw [List.length_map, List.length_zip]
theorem zipD_get {a b : List PyData} {i : Nat} {x y : PyData} (h1 : a[i]? = some x) (h2 : b[i]? = some y) : (zipD a b)[i]? = some (.tuple [x, y]) := by
  unfold zipD
  rw [List.getElem?_map, List.getElem?_zip_eq_some (z := (x, y)).mpr ⟨h1, h2⟩]; rfl
theorem itd_zip {K : PySem.W.Frag} {tb : Tabs} {V1 : Hp} {a b : Addr} {xs ys : List L2.V} {ds es : List PyData} (h : V1 a = some (.lst xs)) (r : RpA K V1 xs ds) (h2 : V1 b = some (.lst ys)) (r2 : RpA K V1 ys es) : ItD K tb V1 (Itz K a b) (zipD ds es) where
  go S E hi := by
    rw [zipD_len] at hi
    obtain ⟨v, e⟩ := dpa_has r (Nat.lt_of_lt_of_le hi (Nat.min_le_left _ _))
    obtain ⟨u, e2⟩ := dpa_has r2 (Nat.lt_of_lt_of_le hi (Nat.min_le_right _ _))
    exact ⟨xs, ys, v, u, .of (vw_sub (E.L h)), .of (vw_sub (E.L h2)), e, e2⟩
  stop S E hi := by
    rw [zipD_len] at hi
    exact ⟨xs, ys, .of (vw_sub (E.L h)), .of (vw_sub (E.L h2)), by rw [dpa_len r, dpa_len r2]; omega⟩
  yld S E hi y := by
    obtain ⟨T, x, y, rfl, hT, rfl, q1, q2⟩ := y
    obtain ⟨d, e, w⟩ := dpa_get' r (q1 xs (.of (vw_sub (E.L h))))
    obtain ⟨d2, e2, w2⟩ := dpa_get' r2 (q2 ys (.of (vw_sub (E.L h2))))
    obtain ⟨S2, m2, q⟩ := S.tup hT (.cons (dp_ext E _ _ w) (.cons (dp_ext E _ _ w2) .nil))
    exact ⟨_, zipD_get e e2, S2, m2, q⟩
def enD (a : List PyData) : List PyData := a.zipIdx.map fun p => .tuple [.int (p.2 : Nat), p.1]
theorem itd_enum {K : PySem.W.Frag} {tb : Tabs} {V1 : Hp} {a : Addr} {xs : List L2.V} {ds : List PyData} (h : V1 a = some (.lst xs)) (r : RpA K V1 xs ds) : ItD K tb V1 (Ite K a) (enD ds) where
  go S E hi := by
    unfold enD at hi
    rw [List.length_map, List.length_zipIdx] at hi
    obtain ⟨v, e⟩ := dpa_has r hi
    exact ⟨xs, v, .of (vw_sub (E.L h)), e⟩
  stop S E hi := by
    unfold enD at hi
    rw [List.length_map, List.length_zipIdx] at hi
    exact ⟨xs, .of (vw_sub (E.L h)), by rw [dpa_len r]; exact hi⟩
  yld S E hi y := by
    obtain ⟨T, x, rfl, hT, rfl, q1⟩ := y
    obtain ⟨d, e, w⟩ := dpa_get' r (q1 xs (.of (vw_sub (E.L h))))
    obtain ⟨S2, m2, q⟩ := S.tup hT (.cons (.int _) (.cons (dp_ext E _ _ w) .nil))
    refine ⟨_, ?_, S2, m2, q⟩
    unfold enD
    rw [List.getElem?_map, List.getElem?_zipIdx, e]
    simp
section
variable {X : Cx} {tb : List (Addr × Addr)} {e e1 e2 tg : Expr} {es : List Expr} {t t1 t2 : M PyData} {ts u1 u2 : M (List PyData)} {pos p p1 p2 p3 tpos : Pos} {x : Str}
theorem ri_seq (h1 : RE X tb e t) : RI X tb tg e (mItems t) := fun α ds α' h => by
  obtain ⟨d, α1, k1, h⟩ := mb_some h
  obtain ⟨hf, rfl⟩ := mo_some h
  cases d with
  | list xs =>
    cases hf
    refine ⟨_, pi_list pe_U, fun σ H g R S k => ?_⟩
    refine h1 _ _ _ k1 σ H g _ S fun v H1 S1 w1 q1 => ?_
    cases q1 with
    | lst hh r => exact ⟨_, rfl, ⟨_, .of (vw_sub hh)⟩, k _ H1 S1 w1 (itd_list hh r)⟩
  | tuple xs =>
    cases hf
    refine ⟨_, pi_tup pe_U, fun σ H g R S k => ?_⟩
    refine h1 _ _ _ k1 σ H g _ S fun v H1 S1 w1 q1 => ?_
    cases q1 with
    | tup hh r => exact ⟨_, rfl, ⟨_, .of (vw_some hh).1⟩, k _ H1 S1 w1 (itd_tup hh r)⟩
  | none => cases hf
  | bool => cases hf
  | str => cases hf
  | int => cases hf
  | dict => cases hf
theorem i62_ok {i : Int} (h : i62 i = true) : -(2 ^ 62) ≤ i ∧ i < 2 ^ 62 := by
  unfold i62 at h
  rw [Bool.and_eq_true, decide_eq_true_eq, decide_eq_true_eq] at h
  exact h
theorem ri_range1 (hg : Gl X "range") (hm : X.mg "range" = none) (h1 : RE X tb e t) (hs : starEach [e] X.env = [(false, eval e X.env)] := by rfl) : RI X tb tg (.Call (.Name "range" p) [e] [] pos) (mR1 t) := fun α ds α' h => by
  obtain ⟨d, α1, k1, h⟩ := mb_some h
  obtain ⟨hf, rfl⟩ := mo_some h
  cases d with
  | int n =>
    obtain ⟨c, rfl⟩ := ite_some hf
    obtain ⟨c1, c2⟩ := i62_ok c
    refine ⟨_, pi_range1 hg hm (pa_cons pe_U pa_nil hs) hs, fun σ H g R S k => ?_⟩
    refine h1 _ _ _ k1 σ H g _ S fun v H1 S1 w1 q1 => ?_
    cases q1
    refine ⟨n, rfl, c1, c2, k _ H1 S1 w1 ?_⟩
    have := itd_rng (K := X.K) (tb := tb) (V1 := vw α' g H1) (a := 0) (b := n)
    rw [Int.sub_zero] at this
    exact this
  | none => cases hf
  | bool => cases hf
  | str => cases hf
  | list => cases hf
  | tuple => cases hf
  | dict => cases hf
theorem ri_range2 (hg : Gl X "range") (hm : X.mg "range" = none) (h1 : RE X tb e1 t1) (h2 : RE X tb e2 t2) (hs : starEach [e1, e2] X.env = [(false, eval e1 X.env), (false, eval e2 X.env)] := by rfl) (hs2 : starEach [e2] X.env = [(false, eval e2 X.env)] := by rfl) :
    RI X tb tg (.Call (.Name "range" p) [e1, e2] [] pos) (mR2 t1 t2) := fun α ds α' h => by
  obtain ⟨d1, α1, k1, h⟩ := mb_some h
  obtain ⟨d2, α2, k2, h⟩ := mb_some h
  obtain ⟨hf, rfl⟩ := mo_some h
  split at hf
  · rename_i a b hx
    obtain ⟨c, rfl⟩ := ite_some hf
    rw [Bool.and_eq_true] at c
    obtain ⟨c1, c2⟩ := i62_ok c.1
    obtain ⟨c3, c4⟩ := i62_ok c.2
    refine ⟨_, pi_range2 hg hm (pa_cons pe_U (pa_cons pe_U pa_nil hs2) (by rw [hs, hs2])) hs hs2, fun σ H g R S k => ?_⟩
    refine h1 _ _ _ k1 σ H g _ S fun v H1 S1 w1 q1 => h2 _ _ _ k2 σ H1 g _ S1 fun u H2 S2 w2 q2 => ?_
    cases q1
    cases q2
    exact ⟨_, _, rfl, ⟨c1, c2, c3, c4⟩, k _ H2 S2 (w1.trans w2) itd_rng⟩
  · cases hf
def mZip (t1 t2 : M PyData) : M (List PyData) := mb t1 fun d1 => mb t2 fun d2 => mo (match d1, d2 with | .list a, .list b => some (zipD a b) | _, _ => none)
theorem ri_zip {elts : List Expr} {kk : Nat} (hg : Gl X "zip") (hm : X.mg "zip" = none) (h1 : RE X tb e1 t1) (h2 : RE X tb e2 t2) (hs : starEach [e1, e2] X.env = (false, eval e1 X.env) :: starEach [e2] X.env := by rfl) (hs2 : starEach [e2] X.env = (false, eval e2 X.env) :: starEach [] X.env := by rfl)
    (hpl : (backTo pos (starEach [e2] X.env)).any (·.1) = false := by rfl) : RI X tb (.Tuple elts kk tpos) (.Call (.Name "zip" p) [e1, e2] [] pos) (mZip t1 t2) := fun α ds α' h => by
  obtain ⟨d1, α1, k1, h⟩ := mb_some h
  obtain ⟨d2, α2, k2, h⟩ := mb_some h
  obtain ⟨hf, rfl⟩ := mo_some h
  split at hf
  · rename_i a b hx
    cases hf
    refine ⟨_, pi_zip hg hm (pa_cons pe_U (pa_cons pe_U pa_nil hs2) hs) hs hpl, fun σ H g R S k => ?_⟩
    refine h1 _ _ _ k1 σ H g _ S fun v H1 S1 w1 q1 => h2 _ _ _ k2 σ H1 g _ S1 fun u H2 S2 w2 q2 => ?_
    have q1' := dp_ext w2.ext _ _ q1
    cases q1' with
    | lst hh r =>
    cases q2 with
    | lst hh2 r2 =>
    exact ⟨_, _, _, _, rfl, .of (vw_sub hh), .of (vw_sub hh2), k _ H2 S2 (w1.trans w2) (itd_zip hh r hh2 r2)⟩
  · cases hf
def mEnum (t1 : M PyData) : M (List PyData) := mb t1 fun d1 => mo (match d1 with | .list a => some (enD a) | _ => none)
theorem ri_enum {elts : List Expr} {kk : Nat} (hg : Gl X "enumerate") (hm : X.mg "enumerate" = none) (h1 : RE X tb e1 t1) (hs : starEach [e1] X.env = [(false, eval e1 X.env)] := by rfl) :
    RI X tb (.Tuple elts kk tpos) (.Call (.Name "enumerate" p) [e1] [] pos) (mEnum t1) := fun α ds α' h => by
  obtain ⟨d1, α1, k1, h⟩ := mb_some h
  obtain ⟨hf, rfl⟩ := mo_some h
  cases d1 with
  | list a =>
    cases hf
    refine ⟨_, pi_enum hg hm (pa_cons pe_U pa_nil hs) hs, fun σ H g R S k => ?_⟩
    refine h1 _ _ _ k1 σ H g _ S fun v H1 S1 w1 q1 => ?_
    cases q1 with
    | lst hh r => exact ⟨_, _, rfl, .of (vw_sub hh), k _ H1 S1 w1 (itd_enum hh r)⟩
  | none => cases hf
  | bool => cases hf
  | str => cases hf
  | int => cases hf
  | tuple => cases hf
  | dict => cases hf
end

/-! ### targets -/
def UG (X : Cx) (tg : Expr) : TG := fun v σ H Q => ∀ (pins : List (Addr × Obj)) (s : Shared) (u : Value), Inv X pins σ H s → RelV v u → wpAny (model X.prog X.w) X.A (assign tg X.env u) (fun _ s' => ∃ σ' H', Inv X pins σ' H' s' ∧ Q σ' H') X.xe s
def UGs (X : Cx) (tgs : List Expr) : TGs := fun vs σ H Q => ∀ (pins : List (Addr × Obj)) (s : Shared) (us : List Value), Inv X pins σ H s → Vals vs us → wpAny (model X.prog X.w) X.A (assignInOrder ((assignEach tgs X.env).map (·.2)) us) (fun _ s' => ∃ σ' H', Inv X pins σ' H' s' ∧ Q σ' H') X.xe s
theorem pg_U {X : Cx} {tg : Expr} : PG X tg (UG X tg) := ⟨fun pins s σ H v u Q I r h => h pins s u I r⟩
theorem pgs_U {X : Cx} {tgs : List Expr} : PGs X tgs (UGs X tgs) := ⟨fun pins s σ H v u Q I r h => h pins s u I r⟩
theorem UG_of {X : Cx} {tg : Expr} {t : TG} {v : V} {σ : L2.St} {H : Hp} {Q : L2.St → Hp → Prop} (h : PG X tg t) (q : t v σ H Q) : UG X tg v σ H Q := fun pins s u I r => h.run pins s σ H v u Q I r q
theorem UGs_of {X : Cx} {tg : List Expr} {t : TGs} {v : List V} {σ : L2.St} {H : Hp} {Q : L2.St → Hp → Prop} (h : PGs X tg t) (q : t v σ H Q) : UGs X tg v σ H Q := fun pins s u I r => h.run pins s σ H v u Q I r q
abbrev G1 := PyData → Ab → Option Ab
abbrev G2 := List PyData → Ab → Option Ab
def gSet (i : Nat) : G1 := fun d α => if i < α.ρ.length then some (α.set i (.val d)) else none
def gNo : G2 := fun ds α => match ds with | [] => some α | _ => none
def gMore (a : G1) (b : G2) : G2 := fun ds α => match ds with | d :: ds => (match a d α with | none => none | some α1 => b ds α1) | [] => none
def gTp (a : G2) : G1 := fun d α => match d with | .tuple ds => a ds α | _ => none
/-- what a store does; ws: the slots that it may write -/
def RG (X : Cx) (tb : Tabs) (tg : Expr) (t : G1) (ws : List Nat) : Prop := ∀ d α α', t d α = some α' → ∀ (σ : L2.St) (H : Hp) (g : Gh) (v : V) (Q : L2.St → Hp → Prop), St X.K tb α g σ H → Rp X.K (vw α g H) v d →
  (∀ σ' H', St X.K tb α' g σ' H' → Mv α α' g H H' → σ'.length = σ.length → (∀ j, j ∉ ws → σ'[j]? = σ[j]?) → Q σ' H') → UG X tg v σ H Q
def RGs (X : Cx) (tb : Tabs) (tg : List Expr) (t : G2) (ws : List Nat) : Prop := ∀ d α α', t d α = some α' → ∀ (σ : L2.St) (H : Hp) (g : Gh) (v : List V) (Q : L2.St → Hp → Prop), St X.K tb α g σ H → RpA X.K (vw α g H) v d →
  (∀ σ' H', St X.K tb α' g σ' H' → Mv α α' g H H' → σ'.length = σ.length → (∀ j, j ∉ ws → σ'[j]? = σ[j]?) → Q σ' H') → UGs X tg v σ H Q
section
variable {X : Cx} {tb : List (Addr × Addr)} {tg : Expr} {tgs : List Expr} {p : Pos} {x : Str} {a : G1} {b : G2} {ws us : List Nat}
theorem rg_name (i : Nat) (hN : X.N.Nodup) (hi : X.N[i]? = some x := by rfl) (hx : Loc X.env.scope x := by first | exact Or.inl rfl | exact Or.inr rfl) (hf : X.fn x = true ∨ X.env.scope.names.lookup x = some .local := by first | exact .inl rfl | exact .inr rfl) :
    RG X tb (.Name x p) (gSet i) [i] := fun d α α' h σ H g v Q S q k => by
  obtain ⟨hl, rfl⟩ := ite_some h
  refine UG_of (pg_name hN hi hx hf) ?_
  obtain ⟨S', E⟩ := S.setVal q hl
  refine k _ H S' ⟨E, fun _ _ => rfl⟩ (List.length_set ..) fun j hj => ?_
  exact List.getElem?_set_ne fun e => hj (by rw [e]; exact List.mem_singleton.mpr rfl)
theorem rgs_nil : RGs X tb [] gNo [] := fun d α α' h σ H g v Q S q k => by
  cases q with
  | nil => cases h; exact UGs_of pgs_nil ⟨rfl, k σ H S (Mv.refl _ _ _) rfl fun _ _ => rfl⟩
  | cons => cases h
theorem rgs_cons (h1 : RG X tb tg a ws) (h2 : RGs X tb tgs b us) (hs : (assignEach (tg :: tgs) X.env).map (·.2) = assign tg X.env :: (assignEach tgs X.env).map (·.2) := by rfl) : RGs X tb (tg :: tgs) (gMore a b) (ws ++ us) := fun d α α' h σ H g v Q S q k => by
  cases q with
  | nil => cases h
  | @cons v vs d ds q r =>
    have h : (match a d α with | none => none | some α1 => b ds α1) = some α' := h
    split at h
    · cases h
    · rename_i α1 e
      refine UGs_of (pgs_cons pg_U pgs_U hs) ⟨v, vs, rfl, ?_⟩
      refine h1 _ _ _ e σ H g v _ S q fun σ1 H1 S1 w1 l1 o1 => ?_
      refine h2 _ _ _ h σ1 H1 g vs _ S1 (dpa_ext w1.ext _ _ r) fun σ2 H2 S2 w2 l2 o2 => ?_
      exact k σ2 H2 S2 (w1.trans w2) (l2.trans l1) fun j hj => (o2 j fun z => hj (List.mem_append_right _ z)).trans (o1 j fun z => hj (List.mem_append_left _ z))
theorem rg_tup {kk : Nat} {n : Nat} (hc : X.calm = true) (h : RGs X tb tgs b us) (hb : ∀ ds α α', b ds α = some α' → ds.length = n) (hn : (assignEach tgs X.env).length = n := by rfl) (hst : (assignEach tgs X.env).findIdx? (·.1) = none := by rfl) : RG X tb (.Tuple tgs kk p) (gTp b) us := fun d α α' e σ H g v Q S q k => by
  cases q with
  | tup hh r =>
    refine UG_of (pg_tup hc pgs_U hn hst) ⟨_, _, rfl, .of (vw_some hh).1, (dpa_len r).trans (hb _ _ _ e), ?_⟩
    exact h _ _ _ e σ H g _ Q S r k
  | non => cases e
  | bl => cases e
  | int => cases e
  | str => cases e
  | lst => cases e
theorem gNo_len : ∀ ds α α', gNo ds α = some α' → ds.length = 0 := fun ds α α' h => by cases ds <;> first | rfl | cases h
theorem gMore_len {n : Nat} (hb : ∀ ds α α', b ds α = some α' → ds.length = n) : ∀ ds α α', gMore a b ds α = some α' → ds.length = n + 1 := fun ds α α' h => by
  cases ds with
  | nil => cases h
  | cons d ds =>
    have h : (match a d α with | none => none | some α1 => b ds α1) = some α' := h
    split at h
    · cases h
    · rw [List.length_cons, hb _ _ _ h]
theorem rg_pair {kk : Nat} {y : Expr} {a2 : G1} (hc : X.calm = true) (h1 : RG X tb tg a ws) (h2 : RG X tb y a2 us) (hn : (assignEach [tg, y] X.env).length = 2 := by rfl) (hst : (assignEach [tg, y] X.env).findIdx? (·.1) = none := by rfl)
    (hs : (assignEach [tg, y] X.env).map (·.2) = assign tg X.env :: (assignEach [y] X.env).map (·.2) := by rfl) (hs2 : (assignEach [y] X.env).map (·.2) = assign y X.env :: (assignEach [] X.env).map (·.2) := by rfl) :
    RG X tb (.Tuple [tg, y] kk p) (gTp (gMore a (gMore a2 gNo))) (ws ++ (us ++ [])) := rg_tup hc (rgs_cons h1 (rgs_cons h2 rgs_nil hs2) hs) (gMore_len (gMore_len gNo_len)) hn hst
theorem rg_triple {kk : Nat} {y z : Expr} {a2 a3 : G1} {vs : List Nat} (hc : X.calm = true) (h1 : RG X tb tg a ws) (h2 : RG X tb y a2 us) (h3 : RG X tb z a3 vs) (hn : (assignEach [tg, y, z] X.env).length = 3 := by rfl) (hst : (assignEach [tg, y, z] X.env).findIdx? (·.1) = none := by rfl)
    (hs : (assignEach [tg, y, z] X.env).map (·.2) = assign tg X.env :: (assignEach [y, z] X.env).map (·.2) := by rfl) (hs2 : (assignEach [y, z] X.env).map (·.2) = assign y X.env :: (assignEach [z] X.env).map (·.2) := by rfl) (hs3 : (assignEach [z] X.env).map (·.2) = assign z X.env :: (assignEach [] X.env).map (·.2) := by rfl) :
    RG X tb (.Tuple [tg, y, z] kk p) (gTp (gMore a (gMore a2 (gMore a3 gNo)))) (ws ++ (us ++ (vs ++ []))) := rg_tup hc (rgs_cons h1 (rgs_cons h2 (rgs_cons h3 rgs_nil hs3) hs2) hs) (gMore_len (gMore_len (gMore_len gNo_len))) hn hst
end
end Pd
end
section
set_option Elab.async false
set_option linter.all false
set_option maxRecDepth 100000
set_option maxHeartbeats 1000000
namespace Pd
open PySem PySem.Spec PyProof.Rows L2

/-! ### names of one's own, forgotten and restored -/
theorem wipe_in {σ : L2.St} {j : Nat} : ∀ {vs : List Nat}, j ∈ vs → (wipe σ vs)[j]? = (σ[j]?).map fun _ => none
  | v :: vs, h => by
    unfold wipe
    by_cases e : v = j
    · subst e
      by_cases hl : v < (wipe σ vs).length
      · rw [List.getElem?_set_self hl]
        rw [wipe_length] at hl
        rw [List.getElem?_eq_getElem hl]; rfl
      · rw [List.getElem?_eq_none (by rw [List.length_set]; omega)]
        rw [wipe_length] at hl
        rw [List.getElem?_eq_none (by omega)]; rfl
    · rw [List.getElem?_set_ne e]
      exact wipe_in ((List.mem_cons.mp h).resolve_left fun z => e z.symm)
theorem wipe_same {σ1 σ2 : L2.St} {vs : List Nat} (hl : σ2.length = σ1.length) (h : ∀ j, j ∉ vs → σ2[j]? = σ1[j]?) : wipe σ2 vs = wipe σ1 vs := by
  refine List.ext_getElem? fun j => ?_
  by_cases hj : j ∈ vs
  · rw [wipe_in hj, wipe_in hj]
    by_cases q : j < σ2.length
    · rw [List.getElem?_eq_getElem q, List.getElem?_eq_getElem (by rw [← hl]; exact q)]; rfl
    · rw [List.getElem?_eq_none (by omega), List.getElem?_eq_none (by omega)]
  · rw [wipe_out hj, wipe_out hj]
    exact h j hj
theorem wipe_wipe {σ : L2.St} {vs : List Nat} : wipe (wipe σ vs) vs = wipe σ vs := wipe_same (wipe_length σ vs) fun _ hj => wipe_out hj
def wipeA (ρ : List Sl) : List Nat → List Sl
  | [] => ρ
  | v :: vs => (wipeA ρ vs).set v .un
abbrev Ab.wipe (α : Ab) (vs : List Nat) : Ab := ⟨wipeA α.ρ vs, α.δ⟩
theorem wipeA_length (ρ : List Sl) : ∀ vs : List Nat, (wipeA ρ vs).length = ρ.length
  | [] => rfl
  | v :: vs => by unfold wipeA; rw [List.length_set, wipeA_length ρ vs]
theorem wipeA_get {ρ : List Sl} {j : Nat} {s : Sl} : ∀ {vs : List Nat}, (wipeA ρ vs)[j]? = some s → (j ∈ vs ∧ s = .un) ∨ (j ∉ vs ∧ ρ[j]? = some s)
  | [], h => .inr ⟨by simp, h⟩
  | v :: vs, h => by
    unfold wipeA at h
    by_cases e : v = j
    · subst e
      have hl : v < (wipeA ρ vs).length := by
        have := (List.getElem?_eq_some_iff.mp h).1
        rw [List.length_set] at this
        exact this
      rw [List.getElem?_set_self hl] at h
      exact .inl ⟨List.mem_cons_self, (Option.some.inj h).symm⟩
    · rw [List.getElem?_set_ne e] at h
      rcases wipeA_get h with ⟨h1, h2⟩ | ⟨h1, h2⟩
      · exact .inl ⟨List.mem_cons_of_mem _ h1, h2⟩
      · exact .inr ⟨fun z => (List.mem_cons.mp z).elim (fun z => e z.symm) h1, h2⟩
def restA (ρ0 ρ2 : List Sl) : List Nat → List Sl
  | [] => ρ2
  | v :: vs => match ρ0[v]? with | some s => (restA ρ0 ρ2 vs).set v s | none => restA ρ0 ρ2 vs
abbrev Ab.rest (α0 α2 : Ab) (vs : List Nat) : Ab := ⟨restA α0.ρ α2.ρ vs, α2.δ⟩
theorem restA_length (ρ0 ρ2 : List Sl) : ∀ vs : List Nat, (restA ρ0 ρ2 vs).length = ρ2.length
  | [] => rfl
  | v :: vs => by
    unfold restA
    split
    · rw [List.length_set, restA_length ρ0 ρ2 vs]
    · exact restA_length ρ0 ρ2 vs
theorem restA_get {ρ0 ρ2 : List Sl} (hl : ρ0.length = ρ2.length) {j : Nat} {s : Sl} : ∀ {vs : List Nat}, (restA ρ0 ρ2 vs)[j]? = some s → (j ∈ vs ∧ ρ0[j]? = some s) ∨ (j ∉ vs ∧ ρ2[j]? = some s)
  | [], h => .inr ⟨by simp, h⟩
  | v :: vs, h => by
    unfold restA at h
    split at h
    · rename_i s0 e0
      by_cases e : v = j
      · subst e
        have hl : v < (restA ρ0 ρ2 vs).length := by
          have := (List.getElem?_eq_some_iff.mp h).1
          rw [List.length_set] at this
          exact this
        rw [List.getElem?_set_self hl] at h
        exact .inl ⟨List.mem_cons_self, by rw [e0, h]⟩
      · rw [List.getElem?_set_ne e] at h
        rcases restA_get hl h with ⟨h1, h2⟩ | ⟨h1, h2⟩
        · exact .inl ⟨List.mem_cons_of_mem _ h1, h2⟩
        · exact .inr ⟨fun z => (List.mem_cons.mp z).elim (fun z => e z.symm) h1, h2⟩
    · rename_i e0
      have hj : j < (restA ρ0 ρ2 vs).length := (List.getElem?_eq_some_iff.mp h).1
      rw [restA_length, ← hl] at hj
      have hv : ρ0.length ≤ v := List.getElem?_eq_none_iff.mp e0
      rcases restA_get hl h with ⟨h1, h2⟩ | ⟨h1, h2⟩
      · exact .inl ⟨List.mem_cons_of_mem _ h1, h2⟩
      · exact .inr ⟨fun z => (List.mem_cons.mp z).elim (fun z => by omega) h1, h2⟩
def okVs (vs : List Nat) (ρ : List Sl) : Bool := vs.all fun v => match ρ[v]? with | some (.obj _) => false | some .dck => false | _ => true
theorem okVs_at {vs : List Nat} {ρ : List Sl} (h : okVs vs ρ = true) {j : Nat} {s : Sl} (hj : j ∈ vs) (e : ρ[j]? = some s) : s = .un ∨ ∃ d, s = .val d := by
  have := List.all_eq_true.mp h j hj
  rw [e] at this
  cases s with
  | un => exact .inl rfl
  | val d => exact .inr ⟨d, rfl⟩
  | obj => cases this
  | dck => cases this
section
variable {K : PySem.W.Frag} {tb : Tabs} {α α1 α2 β : Ab} {g g' : Gh} {σ σ' : L2.St} {H H1 H2 H' : Hp} {vs : List Nat}
theorem St.wipe (S : St K tb α g σ H) (vs : List Nat) : St K tb (α.wipe vs) g (L2.wipe σ vs) H ∧ Ext (vw α g H) (vw (α.wipe vs) g H) := by
  refine S.chg rfl (by rw [wipe_length, wipeA_length]; exact S.len) fun j s e => ?_
  rcases wipeA_get e with ⟨_, h⟩ | ⟨h1, h2⟩
  · exact .inr (.inl h)
  · exact .inl ⟨h2, wipe_out h1⟩
theorem St.rest (S0 : St K tb α1 g σ H1) (S2 : St K tb α2 g' (L2.wipe σ vs) H2) (ok : okVs vs α1.ρ = true) (E : Ext (vw α1 g H1) (vw α2 g' H2)) :
    St K tb (α1.rest α2 vs) g' σ H2 ∧ Ext (vw α2 g' H2) (vw (α1.rest α2 vs) g' H2) := by
  have hl : α1.ρ.length = α2.ρ.length := by rw [← S0.len, ← S2.len, wipe_length]
  refine S2.chg rfl (by rw [restA_length, ← hl]; exact S0.len) fun j s e => ?_
  rcases restA_get hl e with ⟨h1, h2⟩ | ⟨h1, h2⟩
  · rcases okVs_at ok h1 h2 with z | ⟨d, z⟩
    · exact .inr (.inl z)
    · subst z
      obtain ⟨v, q1, q2⟩ := S0.val j d h2
      exact .inr (.inr ⟨d, v, rfl, q1, dp_ext E _ _ q2⟩)
  · exact .inl ⟨h2, (wipe_out h1).symm⟩
/-- what is out of sight is written -/
theorem St.hide (S : St K tb α g σ H) {D : Addr} {o : HO} (hD : g.O D) (hnt : ∀ xs, o ≠ .tup xs := by intro _ z; cases z) : St K tb α g σ (upd H D o) ∧ vw α g (upd H D o) = vw α g H := by
  have V0 : vw α g (upd H D o) = vw α g H := by
    funext a
    unfold vw
    by_cases z : Hid α g a
    · rw [if_pos z, if_pos z]
    · rw [if_neg z, if_neg z, upd_ne]
      rintro rfl
      exact z (.inl hD)
  refine ⟨⟨S.len, fun j d e => ?_, fun j es e => ?_, S.inj, S.dck, fun δ e => ?_, fun a z => ?_, fun t ht => ?_, S.otab⟩, V0⟩
  · rw [V0]; exact S.val j d e
  · obtain ⟨q1, q2, ys, q3, q4⟩ := S.own j es e
    exact ⟨q1, q2, ys, by rw [upd_ne fun z => q2 (by rw [z]; exact hD)]; exact q3, by rw [V0]; exact q4⟩
  · obtain ⟨⟨q1, q2⟩, q3, q4, q5⟩ := S.dk δ e
    exact ⟨⟨by rw [upd_ne fun z => q3 (by rw [z]; exact hD)]; exact q1, by rw [upd_ne fun z => q4 (by rw [z]; exact hD)]; exact q2⟩, q3, q4, q5⟩
  · by_cases ea : a = D
    · exact .of (by rw [ea, upd_same]) hnt
    · exact .eq (upd_ne ea) (S.oin a z)
  · obtain ⟨ps, q1, q2⟩ := S.tab t ht
    exact ⟨ps, by rw [upd_ne fun z => S.otab t ht (by rw [z]; exact hD)]; exact q1, q2⟩
end

/-! ### tests of a clause -/
def UTs (X : Cx) (ifs : List Expr) : TT := fun σ H Q => ∀ (pins : List (Addr × Obj)) (s : Shared), Inv X pins σ H s →
  wpAny (model X.prog X.w) X.A (forIn ifs true fun c r => if r = true then do let ok ← isTrue c X.env (eval c X.env); pure (ForInStep.yield ok) else pure (ForInStep.yield r)) (TP X pins σ Q) X.xe s
theorem pts_U {X : Cx} {ifs : List Expr} : PTs X ifs (UTs X ifs) := ⟨fun pins s σ H Q I h => h pins s I⟩
theorem UTs_of {X : Cx} {ifs : List Expr} {t : TT} {σ : L2.St} {H : Hp} {Q : Bool → Hp → Prop} (h : PTs X ifs t) (q : t σ H Q) : UTs X ifs σ H Q := fun pins s I => h.run pins s σ H Q I q
def RTs (X : Cx) (tb : Tabs) (ifs : List Expr) (t : M Bool) : Prop := ∀ α b α', t α = some (b, α') → ∀ (σ : L2.St) (H : Hp) (g : Gh) (Q : Bool → Hp → Prop), St X.K tb α g σ H →
  (∀ H', St X.K tb α' g σ H' → Mv α α' g H H' → Q b H') → UTs X ifs σ H Q
theorem rts_nil {X : Cx} {tb : Tabs} : RTs X tb [] (mr true) := fun α b α' h σ H g Q S k => by
  cases h; exact UTs_of pts_nil (k H S (Mv.refl _ _ _))
theorem rts_one {X : Cx} {tb : Tabs} {c : Expr} {t : M Bool} (h1 : RT X tb c t) : RTs X tb [c] t := fun α b α' h σ H g Q S k => UTs_of (pts_one pt_U) (h1 _ _ _ h σ H g Q S k)

/-! ### list comprehensions -/
def lcGo (vs : List Nat) (gt : G1) (tt : M Bool) (te : M PyData) : List PyData → M (List PyData)
  | [] => fun α => some ([], α)
  | d :: ds => fun α => match gt d α with
    | none => none
    | some α1 => match tt α1 with
      | none => none
      | some (true, α2) => (match te α2 with
        | none => none
        | some (y, α3) => match lcGo vs gt tt te ds (α3.wipe vs) with
          | none => none
          | some (ys, α4) => some (y :: ys, α4))
      | some (false, α2) => lcGo vs gt tt te ds (α2.wipe vs)
def mLc (vs : List Nat) (ti : M (List PyData)) (gt : G1) (tt : M Bool) (te : M PyData) : M (List PyData) := fun α => match ti α with
  | none => none
  | some (ds, α1) => if okVs vs α1.ρ && decide (ds.length < 16777216) then (match lcGo vs gt tt te ds (α1.wipe vs) with
    | none => none
    | some (ys, α2) => some (ys, α1.rest α2 vs)) else none
/-- the parts of a comprehension, in its own context -/
def bG (X : Cx) (scope : Scope) (tg : Expr) : TG := fun v σ H Q => ∀ (s : Shared) (H0 : Hp) (C : Addr) (cl : List (Str × Addr)) (fp : List Addr), UG (X.blk s H0 scope (compEnvC scope cl C X.env) fp) tg v σ H Q
def bTs (X : Cx) (scope : Scope) (ifs : List Expr) : TT := fun σ H Q => ∀ (s : Shared) (H0 : Hp) (C : Addr) (cl : List (Str × Addr)) (fp : List Addr), UTs (X.blk s H0 scope (compEnvC scope cl C X.env) fp) ifs σ H Q
def bE (X : Cx) (scope : Scope) (elt : Expr) : TE := fun σ H Q => ∀ (s : Shared) (H0 : Hp) (C : Addr) (cl : List (Str × Addr)) (fp : List Addr), U (X.blk s H0 scope (compEnvC scope cl C X.env) fp) elt σ H Q
section
variable {X : Cx} {tb : List (Addr × Addr)} {elt tg iter : Expr} {ifs : List Expr} {scope : Scope} {own : List (Str × Nat)} {pos : Pos} {ti : M (List PyData)} {gt : G1} {tt : M Bool} {te : M PyData} {ws : List Nat}
theorem lc_read {vs : List Nat} (hi : RI X tb tg iter ti) (hws : ∀ j ∈ ws, j ∈ vs)
    (hg : ∀ (s : Shared) (H : Hp) (C : Addr) (cl : List (Str × Addr)) (fp : List Addr), RG (X.blk s H scope (compEnvC scope cl C X.env) fp) tb tg gt ws) (ht : ∀ (s : Shared) (H : Hp) (C : Addr) (cl : List (Str × Addr)) (fp : List Addr), RTs (X.blk s H scope (compEnvC scope cl C X.env) fp) tb ifs tt)
    (he : ∀ (s : Shared) (H : Hp) (C : Addr) (cl : List (Str × Addr)) (fp : List Addr), RE (X.blk s H scope (compEnvC scope cl C X.env) fp) tb elt te)
    {α α' : Ab} {zs : List PyData} (h : mLc vs ti gt tt te α = some (zs, α')) : ∃ wi, PI X tg iter wi ∧ ∀ (σ : L2.St) (H : Hp) (g : Gh) (Q : VK), St X.K tb α g σ H →
      (∀ p H', Fresh X.K tb α α' g σ H H' p zs → Q (.ref p) H') → tLc wi (bG X scope tg) (bTs X scope ifs) (bE X scope elt) vs σ H Q := by
  unfold mLc at h
  split at h
  · cases h
  rename_i ds α1 e1
  split at h
  case isFalse => cases h
  rename_i hcond
  rw [Bool.and_eq_true, decide_eq_true_eq] at hcond
  obtain ⟨okv, hlen⟩ := hcond
  split at h
  · cases h
  rename_i zs0 α2 e2
  cases h
  obtain ⟨wi, hPI, hwi⟩ := hi _ _ _ e1
  refine ⟨wi, hPI, fun σ H g Q S k => ?_⟩
  unfold tLc
  refine hwi σ H g _ S fun J H1 S1 w1 hJ => ?_
  intro D hD
  have nO : ¬ g.O D := fun z => (S1.oin D z).1 hD
  -- the turns
  let W : Nat → Hp → Prop := fun i Hx => ∃ αi ys rest, i ≤ ds.length ∧ lcGo vs gt tt te (ds.drop i) αi = some (rest, α2) ∧ ys ++ rest = zs ∧ ys.length ≤ i ∧
    St X.K tb αi (g.add D) (L2.wipe σ vs) Hx ∧ Ext (vw α1 g H1) (vw αi (g.add D) Hx) ∧ (∀ a, g.O a → Hx a = H1 a) ∧ ∃ acc, Hx D = some (.lst acc) ∧ RpA X.K (vw αi (g.add D) Hx) acc ys
  refine ⟨fun i m Hx => m = ds.length - i ∧ W i Hx, ⟨_, rfl, ?_⟩, ?_⟩
  · have F := S1.fresh hD (.nil)
    obtain ⟨S2, E2⟩ := F.st.wipe vs
    obtain ⟨xs, ex, rx⟩ := F.is_
    exact ⟨_, [], _, Nat.zero_le _, e2, rfl, Nat.le_refl _, S2, F.ext.trans E2, F.out, xs, ex, dpa_ext E2 _ _ rx⟩
  rintro i m Hx ⟨rfl, αi, ys, rest, hi', hgo, hcat, hyl, Si, Ei, Oi, acc, hacc, racc⟩
  by_cases hlt : i < ds.length
  · have hdr : ds.drop i = ds[i] :: ds.drop (i + 1) := List.drop_eq_getElem_cons hlt
    rw [hdr] at hgo
    refine .inr ⟨hJ.go Si Ei hlt, W (i + 1), fun H' w => ⟨ds.length - (i + 1), by omega, rfl, w⟩, fun x H' hy => ?_⟩
    obtain ⟨d, hd, Sy, wy, qy⟩ := hJ.yld Si Ei hlt hy
    have hd' : d = ds[i] := by rw [List.getElem?_eq_getElem hlt] at hd; exact (Option.some.inj hd).symm
    subst hd'
    unfold lcGo at hgo
    split at hgo
    · cases hgo
    rename_i αa ea
    intro s0 H00 C0 cl0 fp0
    refine hg s0 H00 C0 cl0 fp0 _ _ _ ea (L2.wipe σ vs) H' (g.add D) x _ Sy qy fun σ2 H2 Sa wa la oa => ?_
    have hw : L2.wipe σ2 vs = L2.wipe σ vs := (wipe_same la fun j hj => oa j fun z => hj (hws j z)).trans wipe_wipe
    refine ⟨hw, fun s1 H11 C1 cl1 fp1 => ?_⟩
    split at hgo
    · cases hgo
    · rename_i αb eb
      refine ht s1 H11 C1 cl1 fp1 _ _ _ eb σ2 H2 (g.add D) _ Sa fun H3 Sb wb => ?_
      rw [if_pos rfl]
      intro s2 H22 C2 cl2 fp2
      split at hgo
      · cases hgo
      rename_i y αc ec
      split at hgo
      · cases hgo
      rename_i rs αd ed
      cases hgo
      refine he s2 H22 C2 cl2 fp2 _ _ _ ec σ2 H3 (g.add D) _ Sb fun v H4 Sc wc qc => ?_
      have dD : ∀ {a : Addr}, (g.add D).O a → H4 a = Hx a := fun {a} h => (wc.out a h).trans ((wb.out a h).trans ((wa.out a h).trans (wy.out a h)))
      have eD : H4 D = some (.lst acc) := (dD (.inr rfl)).trans hacc
      have ext4 : Ext (vw αi (g.add D) Hx) (vw αc (g.add D) H4) := wy.ext.trans (wa.ext.trans (wb.ext.trans wc.ext))
      refine ⟨acc, eD, ?_, ?_⟩
      · rw [dpa_len racc, sizeLine_eq]; omega
      obtain ⟨Sd, Vd⟩ := Sc.hide (D := D) (o := .lst (acc ++ [v])) (.inr rfl)
      obtain ⟨Se, Ee⟩ := Sd.wipe vs
      rw [hw] at Se
      have ext5 : Ext (vw αc (g.add D) H4) (vw (αc.wipe vs) (g.add D) (upd H4 D (.lst (acc ++ [v])))) := by rw [← Vd]; exact Ee
      refine ⟨_, ys ++ [y], rs, hlt, ed, by rw [List.append_assoc]; exact hcat, ?_, Se, Ei.trans (ext4.trans ext5), fun a ha => ?_, _, upd_same, ?_⟩
      · rw [List.length_append, List.length_singleton]; omega
      · rw [upd_ne fun z => nO (by rw [← z]; exact ha)]
        exact (dD (.inl ha)).trans (Oi a ha)
      · exact dpa_app (dpa_ext (ext4.trans ext5) _ _ racc) (.cons (dp_ext ext5 _ _ qc) .nil)
    · rename_i αb eb
      refine ht s1 H11 C1 cl1 fp1 _ _ _ eb σ2 H2 (g.add D) _ Sa fun H3 Sb wb => ?_
      rw [if_neg (by decide)]
      have dD : ∀ {a : Addr}, (g.add D).O a → H3 a = Hx a := fun {a} h => (wb.out a h).trans ((wa.out a h).trans (wy.out a h))
      obtain ⟨Se, Ee⟩ := Sb.wipe vs
      rw [hw] at Se
      have ext4 : Ext (vw αi (g.add D) Hx) (vw (αb.wipe vs) (g.add D) H3) := wy.ext.trans (wa.ext.trans (wb.ext.trans Ee))
      exact ⟨_, ys, rest, hlt, hgo, hcat, by omega, Se, Ei.trans ext4, fun a ha => (dD (.inl ha)).trans (Oi a ha), acc, (dD (.inr rfl)).trans hacc, dpa_ext ext4 _ _ racc⟩
  · have hi2 : ds.length ≤ i := by omega
    rw [List.drop_eq_nil_of_le hi2] at hgo
    cases hgo
    rw [List.append_nil] at hcat
    subst hcat
    refine .inl ⟨hJ.stop Si Ei hi2, ?_⟩
    obtain ⟨Sr, Er⟩ := St.rest S1 Si okv Ei
    exact k D Hx ⟨Sr, nO, fun a ha => (Oi a ha).trans (w1.out a ha), w1.ext.trans (Ei.trans Er), .lst acc, hacc, acc, rfl, dpa_ext Er _ _ racc⟩
theorem rf_lc (hc : X.calm = true) (hN : X.N.Nodup) (hi : RI X tb tg iter ti) (ok : BlkOk X.N X.env.scope scope own) (hws : ∀ j ∈ ws, j ∈ own.map (·.2))
    (hg : ∀ (s : Shared) (H : Hp) (C : Addr) (cl : List (Str × Addr)) (fp : List Addr), RG (X.blk s H scope (compEnvC scope cl C X.env) fp) tb tg gt ws) (ht : ∀ (s : Shared) (H : Hp) (C : Addr) (cl : List (Str × Addr)) (fp : List Addr), RTs (X.blk s H scope (compEnvC scope cl C X.env) fp) tb ifs tt)
    (he : ∀ (s : Shared) (H : Hp) (C : Addr) (cl : List (Str × Addr)) (fp : List Addr), RE (X.blk s H scope (compEnvC scope cl C X.env) fp) tb elt te) (hs : ∀ x, foldedSetIterable iter X.env x = pure x := by intro _; rfl) :
    RF X tb (.ListComp elt [⟨tg, iter, ifs, 0⟩] scope pos) (mLc (own.map (·.2)) ti gt tt te) := fun α zs α' h σ H g Q S k => by
  obtain ⟨wi, hPI, hr⟩ := lc_read hi hws hg ht he h
  exact U_of (pe_lc hc hN hPI ok (fun s H0 C cl fp => ⟨fun pins s' σ H v u Q I r h => h s H0 C cl fp pins s' u I r⟩) (fun s H0 C cl fp => ⟨fun pins s' σ H Q I h => h s H0 C cl fp pins s' I⟩) (fun s H0 C cl fp => ⟨fun pins s' σ H Q I h => h s H0 C cl fp pins s' I⟩) hs) (hr σ H g Q S k)
end
end Pd
end
section
set_option Elab.async false
set_option linter.all false
set_option maxRecDepth 100000
set_option maxHeartbeats 1000000
namespace Pd
open PySem PySem.Spec PyProof.Rows L2

/-- all(..): false at the first that is false -/
def alGo (vs : List Nat) (gt : G1) (tt : M Bool) (te : M PyData) : List PyData → M Bool
  | [] => fun α => some (true, α)
  | d :: ds => fun α => match gt d α with
    | none => none
    | some α1 => match tt α1 with
      | none => none
      | some (true, α2) => (match te α2 with
        | some (.bool true, α3) => alGo vs gt tt te ds (α3.wipe vs)
        | some (.bool false, α3) => some (false, α3.wipe vs)
        | _ => none)
      | some (false, α2) => alGo vs gt tt te ds (α2.wipe vs)
def mAll (vs : List Nat) (ti : M (List PyData)) (gt : G1) (tt : M Bool) (te : M PyData) : M PyData := fun α => match ti α with
  | none => none
  | some (ds, α1) => if okVs vs α1.ρ && decide (ds.length < 16777216) then (match alGo vs gt tt te ds (α1.wipe vs) with
    | none => none
    | some (b, α2) => some (.bool b, α1.rest α2 vs)) else none
def mTupG (vs : List Nat) (ti : M (List PyData)) (gt : G1) (tt : M Bool) (te : M PyData) : M PyData := mb (mLc vs ti gt tt te) fun ds => mr (.tuple ds)

/-- the parts of a generator expression, in its own context -/
structure GP (X : Cx) (tb : Tabs) (k : Nat) (scope : Scope) (elt tg : Expr) (ifs : List Expr) (gt : G1) (ws : List Nat) (tt : M Bool) (te : M PyData) : Prop where
  g : ∀ (A : Around) (s : Shared) (H : Hp) (C : Addr) (cl : List (Str × Addr)) (code : Value) (fp : List Addr), RoomG k (A.deeper (genEnv scope cl C code builtinsNs X.env)) → RG (X.gen A s H (genEnv scope cl C code builtinsNs X.env) fp) tb tg gt ws
  t : ∀ (A : Around) (s : Shared) (H : Hp) (C : Addr) (cl : List (Str × Addr)) (code : Value) (fp : List Addr), RoomG k (A.deeper (genEnv scope cl C code builtinsNs X.env)) → RTs (X.gen A s H (genEnv scope cl C code builtinsNs X.env) fp) tb ifs tt
  e : ∀ (A : Around) (s : Shared) (H : Hp) (C : Addr) (cl : List (Str × Addr)) (code : Value) (fp : List Addr), RoomG k (A.deeper (genEnv scope cl C code builtinsNs X.env)) → RE (X.gen A s H (genEnv scope cl C code builtinsNs X.env) fp) tb elt te
def gG (X : Cx) (k : Nat) (scope : Scope) (tg : Expr) : TG := fun v σ H Q => ∀ (A : Around) (s : Shared) (H0 : Hp) (C : Addr) (cl : List (Str × Addr)) (code : Value) (fp : List Addr), RoomG k (A.deeper (genEnv scope cl C code builtinsNs X.env)) → UG (X.gen A s H0 (genEnv scope cl C code builtinsNs X.env) fp) tg v σ H Q
def gTs (X : Cx) (k : Nat) (scope : Scope) (ifs : List Expr) : TT := fun σ H Q => ∀ (A : Around) (s : Shared) (H0 : Hp) (C : Addr) (cl : List (Str × Addr)) (code : Value) (fp : List Addr), RoomG k (A.deeper (genEnv scope cl C code builtinsNs X.env)) → UTs (X.gen A s H0 (genEnv scope cl C code builtinsNs X.env) fp) ifs σ H Q
def gE (X : Cx) (k : Nat) (scope : Scope) (elt : Expr) : TE := fun σ H Q => ∀ (A : Around) (s : Shared) (H0 : Hp) (C : Addr) (cl : List (Str × Addr)) (code : Value) (fp : List Addr), RoomG k (A.deeper (genEnv scope cl C code builtinsNs X.env)) → U (X.gen A s H0 (genEnv scope cl C code builtinsNs X.env) fp) elt σ H Q
theorem gparts {X : Cx} {k : Nat} {scope : Scope} {elt tg : Expr} {ifs : List Expr} : GParts X k scope elt tg ifs (gG X k scope tg) (gTs X k scope ifs) (gE X k scope elt) where
  g A s H C cl code fp r := ⟨fun pins s' σ H' v u Q I rv h => h A s H C cl code fp r pins s' u I rv⟩
  t A s H C cl code fp r := ⟨fun pins s' σ H' Q I h => h A s H C cl code fp r pins s' I⟩
  e A s H C cl code fp r := ⟨fun pins s' σ H' Q I h => h A s H C cl code fp r pins s' I⟩
section
variable {X : Cx} {tb : List (Addr × Addr)} {elt tg iter : Expr} {ifs : List Expr} {scope : Scope} {own : List (Str × Nat)} {p pos gpos : Pos} {ti : M (List PyData)} {gt : G1} {tt : M Bool} {te : M PyData} {ws : List Nat} {k : Nat} {c P : Addr}
theorem re_all (hr : RoomG (k + 3) X.A) (hc : X.calm = true) (hN : X.N.Nodup) (gl : Gl X "all") (hm : X.mg "all" = none) (TB : GxR.TabB X.base X.mg c P) (hcode : X.env.code = .ref c) (hP : (c, P) ∈ tb) (ok : GenOk X.N X.env.scope scope own) (hws : ∀ j ∈ ws, j ∈ own.map (·.2))
    (hi : RI X tb tg iter ti) (G : GP X tb k scope elt tg ifs gt ws tt te) (hs : ∀ v, genFold iter X.env v = pure v := by intro _; rfl)
    (he : starEach [.GeneratorExp elt [⟨tg, iter, ifs, 0⟩] scope gpos] X.env = (false, eval (.GeneratorExp elt [⟨tg, iter, ifs, 0⟩] scope gpos) X.env) :: starEach [] X.env := by rfl) :
    RE X tb (.Call (.Name "all" p) [.GeneratorExp elt [⟨tg, iter, ifs, 0⟩] scope gpos] [] pos) (mAll (own.map (·.2)) ti gt tt te) := fun α d α' h σ H g Q S kQ => by
  generalize hvs : own.map (·.2) = vs at *
  unfold mAll at h
  split at h
  · cases h
  rename_i ds α1 e1
  split at h
  case isFalse => cases h
  rename_i hcond
  rw [Bool.and_eq_true, decide_eq_true_eq] at hcond
  obtain ⟨okv, hlen⟩ := hcond
  split at h
  · cases h
  rename_i b0 α2 e2
  cases h
  obtain ⟨wi, hPI, hwi⟩ := hi _ _ _ e1
  refine U_of (pe_allG hr hc hN gl hm TB hcode ok hPI gparts hs he) ?_
  unfold tAllG tGenW
  rw [hvs]
  refine hwi σ H g _ S fun J H1 S1 w1 hJ => ⟨S1.tab _ hP, fun H2 hT => ?_⟩
  obtain ⟨S2, w2⟩ := S1.grown c hP hT
  let W : Nat → List V → Hp → Prop := fun i ys Hx => ∃ αi, i ≤ ds.length ∧ alGo vs gt tt te (ds.drop i) αi = some (b0, α2) ∧ ys.length ≤ i ∧
    St X.K tb αi g (L2.wipe σ vs) Hx ∧ Ext (vw α1 g H2) (vw αi g Hx) ∧ (∀ a, g.O a → Hx a = H2 a)
  have fin : ∀ {Hx : Hp}, St X.K tb α2 g (L2.wipe σ vs) Hx → Ext (vw α1 g H2) (vw α2 g Hx) → (∀ a, g.O a → Hx a = H2 a) → Q (.bl b0) Hx := fun {Hx} Si Ei Oi => by
    obtain ⟨Sr, Er⟩ := St.rest S2 Si okv Ei
    exact kQ _ Hx Sr ⟨(w1.trans w2).ext.trans (Ei.trans Er), fun a ha => (Oi a ha).trans ((w1.trans w2).out a ha)⟩ (.bl _)
  refine ⟨fun i ys m Hx => m = ds.length - i ∧ W i ys Hx, ⟨_, rfl, ?_⟩, ?_⟩
  · obtain ⟨S3, E3⟩ := S2.wipe vs
    exact ⟨_, Nat.zero_le _, e2, Nat.le_refl _, S3, E3, fun _ _ => rfl⟩
  rintro i ys m Hx ⟨rfl, αi, hi', hgo, hyl, Si, Ei, Oi⟩
  have E1 : Ext (vw α1 g H1) (vw αi g Hx) := w2.ext.trans Ei
  by_cases hlt : i < ds.length
  · have hdr : ds.drop i = ds[i] :: ds.drop (i + 1) := List.drop_eq_getElem_cons hlt
    rw [hdr] at hgo
    refine .inr ⟨hJ.go Si E1 hlt, fun ys' H' => W (i + 1) ys' H', fun ys' H' w => ⟨ds.length - (i + 1), by omega, rfl, w⟩, fun x H' hy => ?_⟩
    obtain ⟨d, hd, Sy, wy, qy⟩ := hJ.yld Si E1 hlt hy
    have hd' : d = ds[i] := by rw [List.getElem?_eq_getElem hlt] at hd; exact (Option.some.inj hd).symm
    subst hd'
    unfold alGo at hgo
    split at hgo
    · cases hgo
    rename_i αa ea
    intro A0 s0 H00 C0 cl0 cd0 fp0 r0
    refine G.g A0 s0 H00 C0 cl0 cd0 fp0 r0 _ _ _ ea (L2.wipe σ vs) H' g x _ Sy qy fun σ2 H3 Sa wa la oa => ?_
    have hw : L2.wipe σ2 vs = L2.wipe σ vs := (wipe_same la fun j hj => oa j fun z => hj (hws j z)).trans wipe_wipe
    refine ⟨hw, fun A1 s1 H11 C1 cl1 cd1 fp1 r1 => ?_⟩
    split at hgo
    · cases hgo
    · rename_i αb eb
      refine G.t A1 s1 H11 C1 cl1 cd1 fp1 r1 _ _ _ eb σ2 H3 g _ Sa fun H4 Sb wb => ?_
      rw [if_pos rfl]
      intro A2 s2 H22 C2 cl2 cd2 fp2 r2
      split at hgo
      · rename_i αc ec
        refine G.e A2 s2 H22 C2 cl2 cd2 fp2 r2 _ _ _ ec σ2 H4 g _ Sb fun v H5 Sc wc qc => ?_
        cases qc
        obtain ⟨Se, Ee⟩ := Sc.wipe vs
        rw [hw] at Se
        refine ⟨by rw [sizeLine_eq]; omega, true, rfl, ?_⟩
        rw [if_neg (by decide)]
        refine ⟨_, hlt, hgo, by rw [List.length_append, List.length_singleton]; omega, Se, Ei.trans (wy.ext.trans (wa.ext.trans (wb.ext.trans (wc.ext.trans Ee)))), fun a ha => ?_⟩
        exact (wc.out a ha).trans ((wb.out a ha).trans ((wa.out a ha).trans ((wy.out a ha).trans (Oi a ha))))
      · rename_i αc ec
        refine G.e A2 s2 H22 C2 cl2 cd2 fp2 r2 _ _ _ ec σ2 H4 g _ Sb fun v H5 Sc wc qc => ?_
        cases qc
        obtain ⟨Se, Ee⟩ := Sc.wipe vs
        rw [hw] at Se
        cases hgo
        refine ⟨by rw [sizeLine_eq]; omega, false, rfl, ?_⟩
        rw [if_pos rfl]
        refine fin Se (Ei.trans (wy.ext.trans (wa.ext.trans (wb.ext.trans (wc.ext.trans Ee))))) fun a ha => ?_
        exact (wc.out a ha).trans ((wb.out a ha).trans ((wa.out a ha).trans ((wy.out a ha).trans (Oi a ha))))
      · cases hgo
    · rename_i αb eb
      refine G.t A1 s1 H11 C1 cl1 cd1 fp1 r1 _ _ _ eb σ2 H3 g _ Sa fun H4 Sb wb => ?_
      rw [if_neg (by decide)]
      obtain ⟨Se, Ee⟩ := Sb.wipe vs
      rw [hw] at Se
      refine ⟨_, hlt, hgo, by omega, Se, Ei.trans (wy.ext.trans (wa.ext.trans (wb.ext.trans Ee))), fun a ha => ?_⟩
      exact (wb.out a ha).trans ((wa.out a ha).trans ((wy.out a ha).trans (Oi a ha)))
  · have hi2 : ds.length ≤ i := by omega
    rw [List.drop_eq_nil_of_le hi2] at hgo
    cases hgo
    exact .inl ⟨hJ.stop Si E1 hi2, fin Si Ei Oi⟩
theorem re_tupG (hr : RoomG (k + 4) X.A) (hc : X.calm = true) (hN : X.N.Nodup) (gl : Gl X "tuple") (hm : X.mg "tuple" = none) (TB : GxR.TabB X.base X.mg c P) (hcode : X.env.code = .ref c) (hP : (c, P) ∈ tb) (ok : GenOk X.N X.env.scope scope own) (hws : ∀ j ∈ ws, j ∈ own.map (·.2))
    (hi : RI X tb tg iter ti) (G : GP X tb k scope elt tg ifs gt ws tt te) (hs : ∀ v, genFold iter X.env v = pure v := by intro _; rfl)
    (he : starEach [.GeneratorExp elt [⟨tg, iter, ifs, 0⟩] scope gpos] X.env = (false, eval (.GeneratorExp elt [⟨tg, iter, ifs, 0⟩] scope gpos) X.env) :: starEach [] X.env := by rfl) :
    RE X tb (.Call (.Name "tuple" p) [.GeneratorExp elt [⟨tg, iter, ifs, 0⟩] scope gpos] [] pos) (mTupG (own.map (·.2)) ti gt tt te) := fun α d α' h σ H g Q S kQ => by
  generalize hvs : own.map (·.2) = vs at *
  obtain ⟨zs, αz, h, hz⟩ := mb_some h
  cases hz
  unfold mLc at h
  split at h
  · cases h
  rename_i ds α1 e1
  split at h
  case isFalse => cases h
  rename_i hcond
  rw [Bool.and_eq_true, decide_eq_true_eq] at hcond
  obtain ⟨okv, hlen⟩ := hcond
  split at h
  · cases h
  rename_i zs0 α2 e2
  cases h
  obtain ⟨wi, hPI, hwi⟩ := hi _ _ _ e1
  refine U_of (pe_tupG hr hc hN gl hm TB hcode ok hPI gparts hs he) ?_
  unfold tTupG tGenW
  rw [hvs]
  refine hwi σ H g _ S fun J H1 S1 w1 hJ => ⟨S1.tab _ hP, fun H2 hT => ?_⟩
  obtain ⟨S2, w2⟩ := S1.grown c hP hT
  let W : Nat → List V → Hp → Prop := fun i xs Hx => ∃ αi ys rest, i ≤ ds.length ∧ lcGo vs gt tt te (ds.drop i) αi = some (rest, α2) ∧ ys ++ rest = zs ∧ ys.length ≤ i ∧
    St X.K tb αi g (L2.wipe σ vs) Hx ∧ Ext (vw α1 g H2) (vw αi g Hx) ∧ (∀ a, g.O a → Hx a = H2 a) ∧ RpA X.K (vw αi g Hx) xs ys
  refine ⟨fun i ys m Hx => m = ds.length - i ∧ W i ys Hx, ⟨_, rfl, ?_⟩, ?_⟩
  · obtain ⟨S3, E3⟩ := S2.wipe vs
    exact ⟨_, [], _, Nat.zero_le _, e2, rfl, Nat.le_refl _, S3, E3, fun _ _ => rfl, .nil⟩
  rintro i xs m Hx ⟨rfl, αi, ys, rest, hi', hgo, hcat, hyl, Si, Ei, Oi, racc⟩
  have E1 : Ext (vw α1 g H1) (vw αi g Hx) := w2.ext.trans Ei
  by_cases hlt : i < ds.length
  · have hdr : ds.drop i = ds[i] :: ds.drop (i + 1) := List.drop_eq_getElem_cons hlt
    rw [hdr] at hgo
    refine .inr ⟨hJ.go Si E1 hlt, fun ys' H' => W (i + 1) ys' H', fun ys' H' w => ⟨ds.length - (i + 1), by omega, rfl, w⟩, fun x H' hy => ?_⟩
    obtain ⟨d, hd, Sy, wy, qy⟩ := hJ.yld Si E1 hlt hy
    have hd' : d = ds[i] := by rw [List.getElem?_eq_getElem hlt] at hd; exact (Option.some.inj hd).symm
    subst hd'
    unfold lcGo at hgo
    split at hgo
    · cases hgo
    rename_i αa ea
    intro A0 s0 H00 C0 cl0 cd0 fp0 r0
    refine G.g A0 s0 H00 C0 cl0 cd0 fp0 r0 _ _ _ ea (L2.wipe σ vs) H' g x _ Sy qy fun σ2 H3 Sa wa la oa => ?_
    have hw : L2.wipe σ2 vs = L2.wipe σ vs := (wipe_same la fun j hj => oa j fun z => hj (hws j z)).trans wipe_wipe
    refine ⟨hw, fun A1 s1 H11 C1 cl1 cd1 fp1 r1 => ?_⟩
    split at hgo
    · cases hgo
    · rename_i αb eb
      refine G.t A1 s1 H11 C1 cl1 cd1 fp1 r1 _ _ _ eb σ2 H3 g _ Sa fun H4 Sb wb => ?_
      rw [if_pos rfl]
      intro A2 s2 H22 C2 cl2 cd2 fp2 r2
      split at hgo
      · cases hgo
      rename_i y αc ec
      split at hgo
      · cases hgo
      rename_i rs αd ed
      cases hgo
      refine G.e A2 s2 H22 C2 cl2 cd2 fp2 r2 _ _ _ ec σ2 H4 g _ Sb fun v H5 Sc wc qc => ?_
      obtain ⟨Se, Ee⟩ := Sc.wipe vs
      rw [hw] at Se
      have E5 := wy.ext.trans (wa.ext.trans (wb.ext.trans wc.ext))
      refine ⟨by rw [dpa_len racc, sizeLine_eq]; omega, ?_⟩
      refine ⟨_, ys ++ [y], rs, hlt, ed, by rw [List.append_assoc]; exact hcat, by rw [List.length_append, List.length_singleton]; omega, Se, Ei.trans (E5.trans Ee), fun a ha => ?_, ?_⟩
      · exact (wc.out a ha).trans ((wb.out a ha).trans ((wa.out a ha).trans ((wy.out a ha).trans (Oi a ha))))
      · exact dpa_app (dpa_ext (E5.trans Ee) _ _ racc) (.cons (dp_ext Ee _ _ qc) .nil)
    · rename_i αb eb
      refine G.t A1 s1 H11 C1 cl1 cd1 fp1 r1 _ _ _ eb σ2 H3 g _ Sa fun H4 Sb wb => ?_
      rw [if_neg (by decide)]
      obtain ⟨Se, Ee⟩ := Sb.wipe vs
      rw [hw] at Se
      have E4 := wy.ext.trans (wa.ext.trans (wb.ext.trans Ee))
      refine ⟨_, ys, rest, hlt, hgo, hcat, by omega, Se, Ei.trans E4, fun a ha => ?_, dpa_ext E4 _ _ racc⟩
      exact (wb.out a ha).trans ((wa.out a ha).trans ((wy.out a ha).trans (Oi a ha)))
  · have hi2 : ds.length ≤ i := by omega
    rw [List.drop_eq_nil_of_le hi2] at hgo
    cases hgo
    rw [List.append_nil] at hcat
    subst hcat
    refine .inl ⟨hJ.stop Si E1 hi2, fun q hq => ?_⟩
    obtain ⟨Sr, Er⟩ := St.rest S2 Si okv Ei
    obtain ⟨S9, w9, q9⟩ := Sr.tup hq (dpa_ext Er _ _ racc)
    refine kQ _ _ S9 ⟨(w1.trans w2).ext.trans (Ei.trans (Er.trans w9.ext)), fun a ha => ?_⟩ q9
    exact (w9.out a ha).trans ((Oi a ha).trans ((w1.trans w2).out a ha))
end
end Pd
end
section
set_option Elab.async false
set_option linter.all false
set_option maxRecDepth 100000
set_option maxHeartbeats 1000000
namespace Pd
open PySem PySem.Spec PyProof.Rows L2

inductive Out where
  | nx | bk | ct | rt (d : PyData)
abbrev MS := Ab → Option (Out × Ab)
structure GMv (α α' : Ab) (g g' : Gh) (H H' : Hp) : Prop where
  O : g'.O = g.O
  dk : g'.dk = g.dk
  dc : g'.dc = g.dc
  ext : Ext (vw α g H) (vw α' g' H')
  out : ∀ a, g.O a → H' a = H a
theorem GMv.refl (α : Ab) (g : Gh) (H : Hp) : GMv α α g g H H := ⟨rfl, rfl, rfl, Ext.refl _, fun _ _ => rfl⟩
theorem GMv.trans {α α1 α2 : Ab} {g g1 g2 : Gh} {H H1 H2 : Hp} (a : GMv α α1 g g1 H H1) (b : GMv α1 α2 g1 g2 H1 H2) : GMv α α2 g g2 H H2 :=
  ⟨b.O.trans a.O, b.dk.trans a.dk, b.dc.trans a.dc, a.ext.trans b.ext, fun x h => (b.out x (by rw [a.O]; exact h)).trans (a.out x h)⟩
theorem Mv.g {α α' : Ab} {g : Gh} {H H' : Hp} (m : Mv α α' g H H') : GMv α α' g g H H' := ⟨rfl, rfl, rfl, m.ext, m.out⟩
def Post (K : PySem.W.Frag) (tb : Tabs) (α : Ab) (g : Gh) (H : Hp) (D : Ends) : Out → Ab → Prop
  | .nx, α' => ∀ σ' H' g', St K tb α' g' σ' H' → GMv α α' g g' H H' → D.nx σ' H'
  | .bk, α' => ∀ σ' H' g', St K tb α' g' σ' H' → GMv α α' g g' H H' → D.bk σ' H'
  | .ct, α' => ∀ σ' H' g', St K tb α' g' σ' H' → GMv α α' g g' H H' → D.ct σ' H'
  | .rt d, α' => ∀ v H' g', St K tb ⟨[], α'.δ⟩ g' [] H' → GMv α ⟨[], α'.δ⟩ g g' H H' → Rp K (vw ⟨[], α'.δ⟩ g' H') v d → D.rt v H'
theorem Post.after {K : PySem.W.Frag} {tb : Tabs} {α α1 α' : Ab} {g g1 : Gh} {H H1 : Hp} {D : Ends} {o : Out} (P : Post K tb α g H D o α') (m : GMv α α1 g g1 H H1) : Post K tb α1 g1 H1 D o α' := by
  cases o with
  | nx => exact fun σ' H' g' S m' => P σ' H' g' S (m.trans m')
  | bk => exact fun σ' H' g' S m' => P σ' H' g' S (m.trans m')
  | ct => exact fun σ' H' g' S m' => P σ' H' g' S (m.trans m')
  | rt d => exact fun v H' g' S m' q => P v H' g' S (m.trans m') q
/-- a statement is told by t -/
def RS (X : Cx) (tb : Tabs) (st : Stmt) (t : MS) : Prop := ∀ α o α', t α = some (o, α') → ∀ (σ : L2.St) (H : Hp) (g : Gh) (D : Ends), St X.K tb α g σ H → Post X.K tb α g H D o α' → US X st D σ H
def RSs (X : Cx) (tb : Tabs) (st : List Stmt) (t : MS) : Prop := ∀ α o α', t α = some (o, α') → ∀ (σ : L2.St) (H : Hp) (g : Gh) (D : Ends), St X.K tb α g σ H → Post X.K tb α g H D o α' → USs X st D σ H
def sNx : MS := fun α => some (.nx, α)
def sBk : MS := fun α => some (.bk, α)
def sCt : MS := fun α => some (.ct, α)
def sNo : MS := fun _ => none
def sSeq (t u : MS) : MS := fun α => match t α with
  | none => none
  | some (.nx, α1) => u α1
  | some (.bk, α1) => some (.bk, α1)
  | some (.ct, α1) => some (.ct, α1)
  | some (.rt d, α1) => some (.rt d, α1)
def sDrop (t : M PyData) : MS := fun α => match t α with | none => none | some (_, α1) => some (.nx, α1)
def sRet (t : M PyData) : MS := fun α => match t α with | none => none | some (d, α1) => some (.rt d, α1)
def sIf (c : M Bool) (t u : MS) : MS := fun α => match c α with | none => none | some (true, α1) => t α1 | some (false, α1) => u α1
def sAsg (t : M PyData) (g : G1) : MS := fun α => match t α with | none => none | some (d, α1) => match g d α1 with | none => none | some α2 => some (.nx, α2)
def sOwn (i : Nat) (t : M (List PyData)) : MS := fun α => match t α with | none => none | some (ds, α1) => if i < α1.ρ.length then some (.nx, α1.set i (.own ds)) else none
def forGo (gt : G1) (body : MS) : List PyData → MS
  | [] => fun α => some (.nx, α)
  | d :: ds => fun α => match gt d α with
    | none => none
    | some α1 => match body α1 with
      | none => none
      | some (.nx, α2) => forGo gt body ds α2
      | some (.ct, α2) => forGo gt body ds α2
      | some (.bk, α2) => some (.nx, α2)
      | some (.rt r, α2) => some (.rt r, α2)
def sFor (ti : M (List PyData)) (gt : G1) (body : MS) : MS := fun α => match ti α with | none => none | some (ds, α1) => forGo gt body ds α1
section
variable {X : Cx} {tb : List (Addr × Addr)} {e e1 e2 tg iter : Expr} {st : Stmt} {sts : List Stmt} {t t1 t2 : M PyData} {ts : M (List PyData)} {u v w : MS} {c : M Bool} {pos p p1 p2 : Pos} {x : Str} {gt : G1} {ws : List Nat}
theorem rss_nil : RSs X tb [] sNx := fun α o α' h σ H g D S P => by
  cases h; exact USs_of pss_nil (P σ H g S (GMv.refl _ _ _))
theorem rss_cons (h1 : RS X tb st u) (h2 : RSs X tb sts v) : RSs X tb (st :: sts) (sSeq u v) := fun α o α' h σ H g D S P => by
  refine USs_of (pss_cons ps_U pss_U) ?_
  unfold sSeq at h
  split at h
  · cases h
  · rename_i α1 e1
    exact h1 _ _ _ e1 σ H g { D with nx := USs X sts D } S fun σ' H' g' S' m => h2 _ _ _ h σ' H' g' D S' (P.after m)
  · rename_i α1 e1
    cases h
    exact h1 _ _ _ e1 σ H g { D with nx := USs X sts D } S P
  · rename_i α1 e1
    cases h
    exact h1 _ _ _ e1 σ H g { D with nx := USs X sts D } S P
  · rename_i d α1 e1
    cases h
    exact h1 _ _ _ e1 σ H g { D with nx := USs X sts D } S P
theorem rs_pass : RS X tb (.Pass pos) sNx := fun α o α' h σ H g D S P => by
  cases h; exact US_of ps_pass (P σ H g S (GMv.refl _ _ _))
theorem rs_break : RS X tb (.Break pos) sBk := fun α o α' h σ H g D S P => by
  cases h; exact US_of ps_break (P σ H g S (GMv.refl _ _ _))
theorem rs_continue : RS X tb (.Continue pos) sCt := fun α o α' h σ H g D S P => by
  cases h; exact US_of ps_continue (P σ H g S (GMv.refl _ _ _))
theorem rs_never : RS X tb st sNo := fun α o α' h => by cases h
theorem rs_doc {x : Str} {j : Nat} {pos' : Pos} : RS X tb (.Expr (.Constant (.str x) j pos) pos') sNx := fun α o α' h σ H g D S P => by
  cases h; exact US_of ps_doc (P σ H g S (GMv.refl _ _ _))
theorem rs_expr (h1 : RE X tb e t) (hs : swapsWith e none pos.line X.env = pure false := by rfl) : RS X tb (.Expr e pos) (sDrop t) := fun α o α' h σ H g D S P => by
  unfold sDrop at h
  split at h
  · cases h
  rename_i d α1 e1
  cases h
  refine US_of (ps_expr pe_U hs) ?_
  exact h1 _ _ _ e1 σ H g _ S fun v H' S' m q => P σ H' g S' m.g
theorem St.leave {K : PySem.W.Frag} {α : Ab} {g : Gh} {σ : L2.St} {H : Hp} (S : St K tb α g σ H) : St K tb ⟨[], α.δ⟩ g [] H ∧ Ext (vw α g H) (vw ⟨[], α.δ⟩ g H) := S.chg rfl rfl fun j s e => by simp at e
theorem rs_ret (h1 : RE X tb e t) : RS X tb (.Return (some e) pos) (sRet t) := fun α o α' h σ H g D S P => by
  unfold sRet at h
  split at h
  · cases h
  rename_i d α1 e1
  cases h
  refine US_of (ps_ret pe_U) ?_
  refine h1 _ _ _ e1 σ H g _ S fun v H' S' m q => ?_
  obtain ⟨S2, E2⟩ := S'.leave
  exact P v H' g S2 ⟨rfl, rfl, rfl, m.ext.trans E2, m.out⟩ (dp_ext E2 _ _ q)
theorem rs_retN : RS X tb (.Return none pos) (fun α => some (.rt .none, α)) := fun α o α' h σ H g D S P => by
  cases h
  refine US_of ps_retN ?_
  obtain ⟨S2, E2⟩ := S.leave
  exact P _ H g S2 ⟨rfl, rfl, rfl, E2, fun _ _ => rfl⟩ .non
theorem rs_if {a b : List Stmt} (hc : RT X tb e c) (ha : RSs X tb a u) (hb : RSs X tb b v) : RS X tb (.If e a b pos) (sIf c u v) := fun α o α' h σ H g D S P => by
  refine US_of (ps_if pt_U pss_U pss_U) ?_
  unfold sIf at h
  split at h
  · cases h
  · rename_i α1 e1
    exact hc _ _ _ e1 σ H g _ S fun H' S' m => ha _ _ _ h σ H' g D S' (P.after m.g)
  · rename_i α1 e1
    exact hc _ _ _ e1 σ H g _ S fun H' S' m => hb _ _ _ h σ H' g D S' (P.after m.g)
theorem rs_asg (h1 : RE X tb e t) (hg : RG X tb tg gt ws) (hs : swapsWithSole [tg] e pos.line X.env = pure false := by rfl) (hw : swappedStores [tg] e X.env = pure none := by rfl)
    (ha : (assignEach [tg] X.env).map (·.2) = [assign tg X.env] := by rfl) : RS X tb (.Assign [tg] e pos) (sAsg t gt) := fun α o α' h σ H g D S P => by
  unfold sAsg at h
  split at h
  · cases h
  rename_i d α1 e1
  split at h
  · cases h
  rename_i α2 e2
  cases h
  refine US_of (ps_asg pe_U pg_U hs hw ha) ?_
  refine h1 _ _ _ e1 σ H g _ S fun v H' S' m q => ?_
  exact hg _ _ _ e2 σ H' g v _ S' q fun σ2 H2 S2 m2 _ _ => P σ2 H2 g S2 (m.trans m2).g
theorem rs_set (i : Nat) (hN : X.N.Nodup) (h1 : RE X tb e t) (hi : X.N[i]? = some x := by rfl) (hx : Loc X.env.scope x := by first | exact Or.inl rfl | exact Or.inr rfl) (hs : swapsWith e (some (.Name x p)) pos.line X.env = pure false := by rfl)
    (hf : X.fn x = true ∨ X.env.scope.names.lookup x = some .local := by first | exact .inl rfl | exact .inr rfl) : RS X tb (.Assign [.Name x p] e pos) (sAsg t (gSet i)) := fun α o α' h σ H g D S P => by
  unfold sAsg at h
  split at h
  · cases h
  rename_i d α1 e1
  split at h
  · cases h
  rename_i α2 e2
  cases h
  obtain ⟨hl, rfl⟩ := ite_some e2
  refine US_of (ps_set hN hi hx pe_U hs hf) ?_
  refine h1 _ _ _ e1 σ H g _ S fun v H' S' m q => ?_
  obtain ⟨S2, E2⟩ := S'.setVal q hl
  exact P _ H' g S2 ⟨rfl, rfl, rfl, m.ext.trans E2, m.out⟩
theorem rs_own (i : Nat) (hN : X.N.Nodup) (h1 : RF X tb e ts) (hi : X.N[i]? = some x := by rfl) (hx : Loc X.env.scope x := by first | exact Or.inl rfl | exact Or.inr rfl) (hs : swapsWith e (some (.Name x p)) pos.line X.env = pure false := by rfl)
    (hf : X.fn x = true ∨ X.env.scope.names.lookup x = some .local := by first | exact .inl rfl | exact .inr rfl) : RS X tb (.Assign [.Name x p] e pos) (sOwn i ts) := fun α o α' h σ H g D S P => by
  unfold sOwn at h
  split at h
  · cases h
  rename_i d α1 e1
  obtain ⟨hl, h⟩ := ite_some h
  cases h
  refine US_of (ps_set hN hi hx pe_U hs hf) ?_
  refine h1 _ _ _ e1 σ H g _ S fun pa H' F => ?_
  obtain ⟨S2, E2⟩ := F.own hl
  exact P _ H' _ S2 ⟨rfl, rfl, rfl, E2, F.out⟩
/-- name = [..] of a comprehension, on one line -/
theorem rs_ownLc {elt : Expr} {ifs : List Expr} {scope : Scope} {own : List (Str × Nat)} {lpos : Pos} {ti : M (List PyData)} {tt : M Bool} {te : M PyData} (i : Nat) (hc : X.calm = true) (hN : X.N.Nodup) (hi : RI X tb tg iter ti) (ok : BlkOk X.N X.env.scope scope own) (hws : ∀ j ∈ ws, j ∈ own.map (·.2))
    (hg : ∀ (s : Shared) (H : Hp) (C : Addr) (cl : List (Str × Addr)) (fp : List Addr), RG (X.blk s H scope (compEnvC scope cl C X.env) fp) tb tg gt ws) (ht : ∀ (s : Shared) (H : Hp) (C : Addr) (cl : List (Str × Addr)) (fp : List Addr), RTs (X.blk s H scope (compEnvC scope cl C X.env) fp) tb ifs tt)
    (he : ∀ (s : Shared) (H : Hp) (C : Addr) (cl : List (Str × Addr)) (fp : List Addr), RE (X.blk s H scope (compEnvC scope cl C X.env) fp) tb elt te)
    (hy : X.N[i]? = some x := by rfl) (hyl : X.env.scope.names.lookup x = some .local := by rfl) (hsw : swapsWith (.ListComp elt [⟨tg, iter, ifs, 0⟩] scope lpos) (some (.Name x p)) pos.line X.env = pure true := by rfl) (hs : ∀ z, foldedSetIterable iter X.env z = pure z := by intro _; rfl) :
    RS X tb (.Assign [.Name x p] (.ListComp elt [⟨tg, iter, ifs, 0⟩] scope lpos) pos) (sOwn i (mLc (own.map (·.2)) ti gt tt te)) := fun α o α' h σ H g D S P => by
  unfold sOwn at h
  split at h
  · cases h
  rename_i d α1 e1
  obtain ⟨hl, h⟩ := ite_some h
  cases h
  obtain ⟨wi, hPI, hr⟩ := lc_read hi hws hg ht he e1
  refine US_of (ps_setLc (g := bG X scope tg) (tt := bTs X scope ifs) (te := bE X scope elt) hc hN hy hyl hsw hPI ok (fun s H0 C cl fp => ⟨fun pins s' σ H v u Q I r h => h s H0 C cl fp pins s' u I r⟩) (fun s H0 C cl fp => ⟨fun pins s' σ H Q I h => h s H0 C cl fp pins s' I⟩) (fun s H0 C cl fp => ⟨fun pins s' σ H Q I h => h s H0 C cl fp pins s' I⟩) hs) ?_
  refine hr σ H g _ S fun pa H' F => ?_
  obtain ⟨S2, E2⟩ := F.own hl
  exact P _ H' _ S2 ⟨rfl, rfl, rfl, E2, F.out⟩
theorem rs_for {body : List Stmt} {ti : M (List PyData)} (hp : PassesOwn (model X.prog X.w) X.A X.env X.xe) (hc : X.calm = true) (hi : RI X tb tg iter ti) (hg : RG X tb tg gt ws) (hb : RSs X tb body u)
    (hs : ∀ x, foldedSetIterable iter X.env x = pure x := by intro _; rfl) : RS X tb (.For tg iter body [] pos) (sFor ti gt u) := fun α o α' h σ H g D S P => by
  unfold sFor at h
  split at h
  · cases h
  rename_i ds α1 e1
  obtain ⟨wi, hPI, hwi⟩ := hi _ _ _ e1
  refine US_of (ps_for hp hc hPI pg_U pss_U hs) ?_
  refine hwi σ H g _ S fun J H1 S1 w1 hJ => ?_
  have P1 := P.after w1.g
  let W : Nat → L2.St → Hp → Prop := fun i σi Hx => ∃ αi gi, i ≤ ds.length ∧ forGo gt u (ds.drop i) αi = some (o, α') ∧ St X.K tb αi gi σi Hx ∧ GMv α1 αi g gi H1 Hx
  refine ⟨fun i m σi Hx => m = ds.length - i ∧ W i σi Hx, ⟨_, rfl, α1, g, Nat.zero_le _, h, S1, GMv.refl _ _ _⟩, ?_⟩
  rintro i m σi Hx ⟨rfl, αi, gi, hi', hgo, Si, Mi⟩
  by_cases hlt : i < ds.length
  · have hdr : ds.drop i = ds[i] :: ds.drop (i + 1) := List.drop_eq_getElem_cons hlt
    rw [hdr] at hgo
    refine .inr ⟨hJ.go Si Mi.ext hlt, fun σ' H' => W (i + 1) σ' H', fun σ' H' w => ⟨ds.length - (i + 1), by omega, rfl, w⟩, fun y H' hy => ?_⟩
    obtain ⟨d, hd, Sy, wy, qy⟩ := hJ.yld Si Mi.ext hlt hy
    have hd' : d = ds[i] := by rw [List.getElem?_eq_getElem hlt] at hd; exact (Option.some.inj hd).symm
    subst hd'
    unfold forGo at hgo
    split at hgo
    · cases hgo
    rename_i αa ea
    refine hg _ _ _ ea σi H' gi y _ Sy qy fun σ2 H2 Sa wa la oa => ?_
    have Ma := Mi.trans (wy.trans wa).g
    split at hgo
    · cases hgo
    · rename_i αb eb
      exact hb _ _ _ eb σ2 H2 gi _ Sa fun σ3 H3 g3 Sb mb => ⟨αb, g3, hlt, hgo, Sb, Ma.trans mb⟩
    · rename_i αb eb
      exact hb _ _ _ eb σ2 H2 gi _ Sa fun σ3 H3 g3 Sb mb => ⟨αb, g3, hlt, hgo, Sb, Ma.trans mb⟩
    · rename_i αb eb
      cases hgo
      exact hb _ _ _ eb σ2 H2 gi _ Sa fun σ3 H3 g3 Sb mb => P1 σ3 H3 g3 Sb (Ma.trans mb)
    · rename_i r αb eb
      cases hgo
      exact hb _ _ _ eb σ2 H2 gi _ Sa fun v3 H3 g3 Sb mb q => P1 v3 H3 g3 Sb (Ma.trans mb) q
  · have hi2 : ds.length ≤ i := by omega
    rw [List.drop_eq_nil_of_le hi2] at hgo
    cases hgo
    exact .inl ⟨hJ.stop Si Mi.ext hi2, P1 σi Hx gi Si Mi⟩
end
end Pd
end
section
set_option Elab.async false
set_option linter.all false
set_option maxRecDepth 100000
set_option maxHeartbeats 1000000
namespace Pd
open PySem PySem.Spec PyProof.Rows L2

/-! ### one's own lists, written -/
def ownOf (i : Nat) (α : Ab) : Option (List PyData) := match α.ρ[i]? with | some (.obj (.l ds)) => some ds | _ => none
theorem ownOf_some {i : Nat} {α : Ab} {ds : List PyData} (h : ownOf i α = some ds) : α.ρ[i]? = some (.own ds) := by
  unfold ownOf at h
  split at h
  · rename_i ds' e; cases h; exact e
  · cases h
def mApp (i : Nat) (t : M PyData) : M PyData := fun α => match ownOf i α with
  | none => none
  | some _ => match t α with
    | none => none
    | some (d, α1) => match ownOf i α1 with
      | none => none
      | some ds => if ds.length < 16777216 then some (.none, α1.set i (.own (ds ++ [d]))) else none
def mExt (i : Nat) (t : M PyData) : M PyData := fun α => match ownOf i α with
  | none => none
  | some _ => match t α with
    | some (.list es, α1) => (match ownOf i α1 with
      | none => none
      | some ds => if ds.length + es.length ≤ 16777216 then some (.none, α1.set i (.own (ds ++ es))) else none)
    | _ => none
def mPop (i : Nat) : M PyData := fun α => match ownOf i α with
  | none => none
  | some ds => match ds[ds.length - 1]? with
    | none => none
    | some d => some (d, α.set i (.own ds.dropLast))
def mPopAt (i : Nat) (t : M PyData) : M PyData := fun α => match ownOf i α with
  | none => none
  | some _ => match t α with
    | some (.int j, α1) => (match ownOf i α1 with
      | none => none
      | some ds => if 0 ≤ j ∧ j < ds.length ∧ j < 2 ^ 63 then (match ds[j.toNat]? with | some d => some (d, α1.set i (.own (ds.eraseIdx j.toNat))) | none => none) else none)
    | _ => none
/-- xs[e] = v -/
def sPut (i : Nat) (tv ti : M PyData) : MS := fun α => match tv α with
  | none => none
  | some (d, α1) => match ownOf i α1 with
    | none => none
    | some _ => match ti α1 with
      | some (.int k, α2) => (match ownOf i α2 with
        | none => none
        | some ds => match ixN ds.length k with | some j => some (.nx, α2.set i (.own (ds.set j d))) | none => none)
      | _ => none
/-- xs[e] op= v, ints -/
def sAugIx (f : Int → Int → Int) (i : Nat) (ti tv : M PyData) : MS := fun α => match ownOf i α with
  | none => none
  | some _ => match ti α with
    | some (.int k, α1) => (match ownOf i α1 with
      | none => none
      | some ds => if 0 ≤ k ∧ k < 2 ^ 63 then (match ds[k.toNat]? with
        | some (.int a) => (match tv α1 with
          | some (.int b, α2) => (match ownOf i α2 with
            | none => none
            | some es => match ixN es.length k with | some j => some (.nx, α2.set i (.own (es.set j (.int (f a b))))) | none => none)
          | _ => none)
        | _ => none) else none)
    | _ => none
/-- x op= v, ints -/
def sAug (f : Int → Int → Int) (i : Nat) (tv : M PyData) : MS := fun α => match α.ρ[i]? with
  | some (.val (.int a)) => (match tv α with
    | some (.int b, α1) => if i < α1.ρ.length then some (.nx, α1.set i (.val (.int (f a b)))) else none
    | _ => none)
  | _ => none
theorem dpa_drL {K : PySem.W.Frag} {V : Hp} : ∀ {ds : List PyData} {vs : List L2.V}, RpA K V vs ds → RpA K V vs.dropLast ds.dropLast := fun {ds vs} h => by
  rw [List.dropLast_eq_take, List.dropLast_eq_take, dpa_len h]
  exact dpa_take _ h
theorem dpa_er {K : PySem.W.Frag} {V : Hp} {ds : List PyData} {vs : List L2.V} (j : Nat) (h : RpA K V vs ds) : RpA K V (vs.eraseIdx j) (ds.eraseIdx j) := by
  rw [List.eraseIdx_eq_take_drop_succ, List.eraseIdx_eq_take_drop_succ]
  exact dpa_app (dpa_take _ h) (dpa_drop _ h)
section
variable {X : Cx} {tb : List (Addr × Addr)} {e e1 e2 : Expr} {t t1 t2 : M PyData} {pos p p1 p2 apos cpos : Pos} {x : Str}
/-- a method of one's own list -/
theorem own_seen {K : PySem.W.Frag} {α : Ab} {g : Gh} {σ : L2.St} {H : Hp} {i : Nat} {ds : List PyData} (S : St K tb α g σ H) (h : ownOf i α = some ds) : σ[i]? = some (some (.ref (g.ad i))) ∧ ∃ xs, H (g.ad i) = some (.lst xs) ∧ RpA K (vw α g H) xs ds := by
  obtain ⟨h1, _, xs, h2, h3⟩ := S.ownL i _ (ownOf_some h)
  exact ⟨h1, xs, h2, h3⟩
theorem re_app (i : Nat) (h1 : RE X tb e t) (hN : X.N[i]? = some x := by rfl) (hv : Vis X.env.scope x := by first | exact Or.inl rfl | exact Or.inr (Or.inl rfl) | exact Or.inr (Or.inr rfl)) (hd : (x == ("__debug__" : Str)) = false := by decide)
    (hcd : (x == ("__classdict__" : Str)) = false := by decide) (hbase : attributeBase (.Name x p) "append" X.env (eval (.Name x p) X.env) = eval (.Name x p) X.env := by rfl)
    (hfew : ((backTo cpos (starEach [e] X.env)).all (fun x => !x.1) && (backToKw cpos (keywordEach [] X.env)).all (fun x => x.1.isSome)
      && decide ([e].length + ([] : List Keyword).length + (if ([] : List Keyword).isEmpty then 0 else 1) < 30)) = true := by rfl)
    (hline : (apos.endLine == cpos.line) = true := by rfl) (hs : starEach [e] X.env = (false, eval e X.env) :: starEach [] X.env := by rfl) :
    RE X tb (.Call (.Attribute (.Name x p) "append" apos) [e] [] cpos) (mApp i t) := fun α d α' h σ H g Q S k => by
  unfold mApp at h
  split at h
  · cases h
  rename_i ds0 o0
  split at h
  · cases h
  rename_i d1 α1 e1
  split at h
  · cases h
  rename_i ds o1
  obtain ⟨hl, h⟩ := ite_some h
  cases h
  obtain ⟨v0, xs0, l0, _⟩ := own_seen S o0
  refine U_of (pe_bm PySem.F.plainAttrs_list PySem.F.slot_list_append PySem.F.type_list_append mt_append (pe_var hN hv hd hcd) (pa_cons pe_U pa_nil hs) hbase hfew hline hs rfl) ?_
  refine ⟨_, v0, .inl ⟨rfl, _, SqL.of l0⟩, ?_⟩
  refine h1 _ _ _ e1 σ H g _ S fun v H1 S1 w1 q1 => ?_
  obtain ⟨_, xs, l1, r1⟩ := own_seen S1 o1
  refine ⟨_, xs, v, rfl, rfl, l1, by rw [dpa_len r1, sizeLine_eq]; exact hl, ?_⟩
  obtain ⟨S2, w2⟩ := S1.write (ownOf_some o1) (dpa_app r1 (.cons q1 .nil))
  exact k _ _ S2 (w1.trans w2) .non
theorem re_ext (i : Nat) (h1 : RE X tb e t) (hN : X.N[i]? = some x := by rfl) (hv : Vis X.env.scope x := by first | exact Or.inl rfl | exact Or.inr (Or.inl rfl) | exact Or.inr (Or.inr rfl)) (hd : (x == ("__debug__" : Str)) = false := by decide)
    (hcd : (x == ("__classdict__" : Str)) = false := by decide) (hbase : attributeBase (.Name x p) "extend" X.env (eval (.Name x p) X.env) = eval (.Name x p) X.env := by rfl)
    (hfew : ((backTo cpos (starEach [e] X.env)).all (fun x => !x.1) && (backToKw cpos (keywordEach [] X.env)).all (fun x => x.1.isSome)
      && decide ([e].length + ([] : List Keyword).length + (if ([] : List Keyword).isEmpty then 0 else 1) < 30)) = true := by rfl)
    (hline : (apos.endLine == cpos.line) = true := by rfl) (hs : starEach [e] X.env = (false, eval e X.env) :: starEach [] X.env := by rfl) :
    RE X tb (.Call (.Attribute (.Name x p) "extend" apos) [e] [] cpos) (mExt i t) := fun α d α' h σ H g Q S k => by
  unfold mExt at h
  split at h
  · cases h
  rename_i ds0 o0
  split at h
  · rename_i es α1 e1
    split at h
    · cases h
    rename_i ds o1
    obtain ⟨hl, h⟩ := ite_some h
    cases h
    obtain ⟨v0, xs0, l0, _⟩ := own_seen S o0
    refine U_of (pe_bm PySem.F.plainAttrs_list PySem.F.slot_list_extend PySem.F.type_list_extend mt_extend (pe_var hN hv hd hcd) (pa_cons pe_U pa_nil hs) hbase hfew hline hs rfl) ?_
    refine ⟨_, v0, .inl ⟨rfl, _, SqL.of l0⟩, ?_⟩
    refine h1 _ _ _ e1 σ H g _ S fun v H1 S1 w1 q1 => ?_
    obtain ⟨_, xs, l1, r1⟩ := own_seen S1 o1
    cases q1 with
    | lst hh r =>
    refine ⟨_, _, xs, _, rfl, rfl, l1, vw_sub hh, by rw [dpa_len r1, dpa_len r, sizeLine_eq]; exact hl, ?_⟩
    obtain ⟨S2, w2⟩ := S1.write (ownOf_some o1) (dpa_app r1 r)
    exact k _ _ S2 (w1.trans w2) .non
  · cases h
theorem re_pop (i : Nat) (hN : X.N[i]? = some x := by rfl) (hv : Vis X.env.scope x := by first | exact Or.inl rfl | exact Or.inr (Or.inl rfl) | exact Or.inr (Or.inr rfl)) (hd : (x == ("__debug__" : Str)) = false := by decide)
    (hcd : (x == ("__classdict__" : Str)) = false := by decide) (hbase : attributeBase (.Name x p) "pop" X.env (eval (.Name x p) X.env) = eval (.Name x p) X.env := by rfl) (hline : (apos.endLine == cpos.line) = true := by rfl) :
    RE X tb (.Call (.Attribute (.Name x p) "pop" apos) [] [] cpos) (mPop i) := fun α d α' h σ H g Q S k => by
  unfold mPop at h
  split at h
  · cases h
  rename_i ds o0
  split at h
  · cases h
  rename_i d1 e1
  cases h
  obtain ⟨v0, xs, l0, r0⟩ := own_seen S o0
  refine U_of (pe_bm0 PySem.F.plainAttrs_list PySem.F.slot_list_pop PySem.F.type_list_pop mt_pop (pe_var hN hv hd hcd) hbase hline) ?_
  obtain ⟨y, ey, qy⟩ := dpa_get r0 e1
  refine ⟨_, v0, .inl ⟨rfl, _, SqL.of l0⟩, _, xs, y, rfl, rfl, l0, by rw [dpa_len r0]; exact ey, ?_⟩
  obtain ⟨S2, w2⟩ := S.write (ownOf_some o0) (dpa_drL r0)
  exact k _ _ S2 w2 (dp_ext w2.ext _ _ qy)
theorem re_popAt (i : Nat) (h1 : RE X tb e t) (hN : X.N[i]? = some x := by rfl) (hv : Vis X.env.scope x := by first | exact Or.inl rfl | exact Or.inr (Or.inl rfl) | exact Or.inr (Or.inr rfl)) (hd : (x == ("__debug__" : Str)) = false := by decide)
    (hcd : (x == ("__classdict__" : Str)) = false := by decide) (hbase : attributeBase (.Name x p) "pop" X.env (eval (.Name x p) X.env) = eval (.Name x p) X.env := by rfl)
    (hfew : ((backTo cpos (starEach [e] X.env)).all (fun x => !x.1) && (backToKw cpos (keywordEach [] X.env)).all (fun x => x.1.isSome)
      && decide ([e].length + ([] : List Keyword).length + (if ([] : List Keyword).isEmpty then 0 else 1) < 30)) = true := by rfl)
    (hline : (apos.endLine == cpos.line) = true := by rfl) (hs : starEach [e] X.env = (false, eval e X.env) :: starEach [] X.env := by rfl) :
    RE X tb (.Call (.Attribute (.Name x p) "pop" apos) [e] [] cpos) (mPopAt i t) := fun α d α' h σ H g Q S k => by
  unfold mPopAt at h
  split at h
  · cases h
  rename_i ds0 o0
  split at h
  · rename_i j α1 e1
    split at h
    · cases h
    rename_i ds o1
    split at h
    case isFalse => cases h
    rename_i hc
    obtain ⟨c1, c2, c3⟩ := hc
    split at h
    case h_2 => cases h
    rename_i d1 ed
    cases h
    obtain ⟨v0, xs0, l0, _⟩ := own_seen S o0
    refine U_of (pe_bm PySem.F.plainAttrs_list PySem.F.slot_list_pop PySem.F.type_list_pop mt_popAt (pe_var hN hv hd hcd) (pa_cons pe_U pa_nil hs) hbase hfew hline hs rfl) ?_
    refine ⟨_, v0, .inl ⟨rfl, _, SqL.of l0⟩, ?_⟩
    refine h1 _ _ _ e1 σ H g _ S fun v H1 S1 w1 q1 => ?_
    cases q1
    obtain ⟨_, xs, l1, r1⟩ := own_seen S1 o1
    obtain ⟨y, ey, qy⟩ := dpa_get r1 ed
    refine ⟨_, xs, j, j.toNat, y, rfl, rfl, l1, by omega, c3, seqIndex_of c1 (by rw [dpa_len r1]; exact c2), ey, ?_⟩
    obtain ⟨S2, w2⟩ := S1.write (ownOf_some o1) (dpa_er j.toNat r1)
    exact k _ _ S2 (w1.trans w2) (dp_ext w2.ext _ _ qy)
  · cases h
theorem own_len {K : PySem.W.Frag} {α : Ab} {g : Gh} {σ : L2.St} {H : Hp} {i : Nat} {ds : List PyData} (S : St K tb α g σ H) (h : ownOf i α = some ds) : i < α.ρ.length := (List.getElem?_eq_some_iff.mp (ownOf_some h)).1
theorem rs_put (i : Nat) (hN' : X.N.Nodup) (hv1 : RE X tb e1 t1) (hi1 : RE X tb e2 t2) (hs : swapsWithSole [.Subscript (.Name x p1) e2 p2] e1 pos.line X.env = pure false := by rfl) (hw : swappedStores [.Subscript (.Name x p1) e2 p2] e1 X.env = pure none := by rfl)
    (ha1 : (assignEach [.Subscript (.Name x p1) e2 p2] X.env).map (·.2) = [assign (.Subscript (.Name x p1) e2 p2) X.env] := by rfl)
    (ha : ∀ v, assign (.Subscript (.Name x p1) e2 p2) X.env v = (do
      let ov ← holding [v] (eval (.Name x p1) X.env)
      let iv ← holding [v, ov] (eval e2 X.env)
      standAt p2
      holding [v, ov, iv] (setItem ov iv v)
      release [v, ov, iv] []) := by intro _; rfl)
    (hN : X.N[i]? = some x := by rfl) (hv : Vis X.env.scope x := by first | exact Or.inl rfl | exact Or.inr (Or.inl rfl) | exact Or.inr (Or.inr rfl)) (hd : (x == ("__debug__" : Str)) = false := by decide)
    (hcd : (x == ("__classdict__" : Str)) = false := by decide) : RS X tb (.Assign [.Subscript (.Name x p1) e2 p2] e1 pos) (sPut i t1 t2) := fun α o α' h σ H g D S P => by
  unfold sPut at h
  split at h
  · cases h
  rename_i d α1 ev
  split at h
  · cases h
  rename_i ds0 o0
  split at h
  case h_2 => cases h
  rename_i k α2 ei
  split at h
  · cases h
  rename_i ds o1
  split at h
  case h_2 => cases h
  rename_i j ej
  cases h
  refine US_of (ps_asg pe_U (pg_sub (pe_var hN hv hd hcd) pe_U set_list ha) hs hw ha1) ?_
  refine hv1 _ _ _ ev σ H g _ S fun v H1 S1 w1 q1 => ?_
  obtain ⟨v0, xs0, l0, _⟩ := own_seen S1 o0
  refine ⟨_, v0, hi1 _ _ _ ei σ H1 g _ S1 fun u H2 S2 w2 q2 => ?_⟩
  cases q2
  obtain ⟨_, xs, l1, r1⟩ := own_seen S2 o1
  refine ⟨_, xs, k, j, rfl, rfl, l1, by rw [dpa_len r1]; exact ej, ?_⟩
  obtain ⟨S3, w3⟩ := S2.write (ownOf_some o1) (dpa_set j r1 (dp_ext w2.ext _ _ q1))
  exact P σ _ g S3 ((w1.trans w2).trans w3).g
def rGetL : V → V → Hp → VK → Prop := fun o i H Q => ∃ p xs k y, o = .ref p ∧ i = .int k ∧ H p = some (.lst xs) ∧ 0 ≤ k ∧ k < 2 ^ 63 ∧ xs[k.toNat]? = some y ∧ Q y H
theorem get_listL : PGet X rGetL := by
  intro pins s σ H o i ov iv Q I ro ri h
  obtain ⟨p, xs, k, y, rfl, rfl, hp, h0, h1, hy, q⟩ := h
  cases ro
  obtain ⟨t, rfl⟩ := ri
  obtain ⟨its, r, pl, hz⟩ := I.list (SqL.of hp)
  obtain ⟨w, ew, rw'⟩ := r.get hy
  exact wpAny_getItem_list pl.isList h0 h1 (by simpa using ew) ⟨y, H, I, rw', q⟩
theorem rs_augIx {op : Operator} {f : Int → Int → Int} (i : Nat) (ho : OpR X (inplaceOp op) (rI0 fun i j => .int (f i j))) (hi1 : RE X tb e2 t2) (hv1 : RE X tb e1 t1)
    (ha : ∀ ov iv new, augStore e2 ov iv new = (do holding [new, ov, iv] (setItem ov iv new); release [new, ov, iv] []; pure .next) := by intros; rfl)
    (hN : X.N[i]? = some x := by rfl) (hv : Vis X.env.scope x := by first | exact Or.inl rfl | exact Or.inr (Or.inl rfl) | exact Or.inr (Or.inr rfl)) (hd : (x == ("__debug__" : Str)) = false := by decide)
    (hcd : (x == ("__classdict__" : Str)) = false := by decide) : RS X tb (.AugAssign (.Subscript (.Name x p1) e2 p2) op e1 pos) (sAugIx f i t2 t1) := fun α o α' h σ H g D S P => by
  unfold sAugIx at h
  split at h
  · cases h
  rename_i ds0 o0
  split at h
  case h_2 => cases h
  rename_i k α1 ei
  split at h
  · cases h
  rename_i ds o1
  split at h
  case isFalse => cases h
  rename_i hc
  obtain ⟨c1, hk63⟩ := hc
  split at h
  case h_2 => cases h
  rename_i a ea
  split at h
  case h_2 => cases h
  rename_i b α2 ev
  split at h
  · cases h
  rename_i es o2
  split at h
  case h_2 => cases h
  rename_i j ej
  cases h
  refine US_of (ps_augS (pe_var hN hv hd hcd) pe_U get_listL pe_U (tip := rI0 fun i j => .int (f i j)) ho set_list ha) ?_
  obtain ⟨v0, xs0, l0, _⟩ := own_seen S o0
  refine ⟨_, v0, hi1 _ _ _ ei σ H g _ S fun u H1 S1 w1 q1 => ?_⟩
  cases q1
  obtain ⟨_, xs, l1, r1⟩ := own_seen S1 o1
  obtain ⟨y, ey, qy⟩ := dpa_get r1 ea
  cases qy
  refine ⟨_, xs, k, _, rfl, rfl, l1, c1, hk63, ey, ?_⟩
  refine hv1 _ _ _ ev σ H1 g _ S1 fun u H2 S2 w2 q2 => ?_
  cases q2
  obtain ⟨_, ys, l2, r2⟩ := own_seen S2 o2
  refine ⟨_, _, rfl, rfl, _, ys, k, j, rfl, rfl, l2, by rw [dpa_len r2]; exact ej, ?_⟩
  obtain ⟨S3, w3⟩ := S2.write (ownOf_some o2) (dpa_set j r2 (.int (f a b)))
  exact P σ _ g S3 ((w1.trans w2).trans w3).g
theorem rs_aug {op : Operator} {f : Int → Int → Int} (i : Nat) (hN' : X.N.Nodup) (ho : OpR X (inplaceOp op) (rI0 fun i j => .int (f i j))) (hv1 : RE X tb e1 t1) (hi : X.N[i]? = some x := by rfl) (hx : Loc X.env.scope x := by first | exact Or.inl rfl | exact Or.inr rfl)
    (hf : X.fn x = true ∨ X.env.scope.names.lookup x = some .local := by first | exact .inl rfl | exact .inr rfl) : RS X tb (.AugAssign (.Name x p1) op e1 pos) (sAug f i t1) := fun α o α' h σ H g D S P => by
  unfold sAug at h
  split at h
  case h_2 => cases h
  rename_i a ea
  split at h
  case h_2 => cases h
  rename_i b α1 eb
  obtain ⟨hl, h⟩ := ite_some h
  cases h
  refine US_of (ps_aug hN' hi hx pe_U (ti := rI0 fun i j => .int (f i j)) ho hf) ?_
  obtain ⟨v, ev, qv⟩ := S.val i _ ea
  cases qv
  refine ⟨_, ev, hv1 _ _ _ eb σ H g _ S fun u H1 S1 w1 q1 => ?_⟩
  cases q1
  refine ⟨_, _, rfl, rfl, ?_⟩
  obtain ⟨S2, E2⟩ := S1.setVal (d := .int (f a b)) (.int _) hl
  exact P _ H1 g S2 ⟨rfl, rfl, rfl, w1.ext.trans E2, w1.out⟩
end
end Pd
end
section
set_option Elab.async false
set_option linter.all false
set_option maxRecDepth 100000
set_option maxHeartbeats 1000000
namespace Pd
open PySem PySem.Spec PyProof.Rows L2

/-! ### a, b = x, y -/
inductive Ar where
  | d (x : PyData) | o (od : OD)
abbrev Ar.f (ds : List PyData) : Ar := .o (.l ds)
def Ar.sl : Ar → Sl
  | .d x => .val x
  | .o ds => .obj ds
/-- the ghosts with a pending value -/
def gPd (a : Ar) (v : V) (g : Gh) : Gh := match a, v with
  | .o _, .ref p => g.add p
  | _, _ => g
def gAt (a : Ar) (v : V) (g : Gh) (i : Nat) : Gh := match a, v with
  | .o _, .ref p => g.at i p
  | _, _ => g
/-- a value at hand, its list out of sight -/
def Has (K : PySem.W.Frag) (α : Ab) (g gall : Gh) (H : Hp) (a : Ar) (v : V) : Prop := match a with
  | .d x => Rp K (vw α gall H) v x
  | .o ds => ∃ p ho, v = .ref p ∧ ¬ g.O p ∧ H p = some ho ∧ OdIs K (vw α gall H) ho ds
def EX (X : Cx) (tb : Tabs) (e : Expr) (α : Ab) (a : Ar) (α' : Ab) : Prop := ∀ (σ : L2.St) (H : Hp) (g : Gh) (Q : VK), St X.K tb α g σ H →
  (∀ v H', St X.K tb α' (gPd a v g) σ H' → Ext (vw α g H) (vw α' (gPd a v g) H') → (∀ b, g.O b → H' b = H b) → Has X.K α' g (gPd a v g) H' a v → Q v H') → U X e σ H Q
def RX (X : Cx) (tb : Tabs) (e : Expr) (t : M Ar) : Prop := ∀ α d α', t α = some (d, α') → EX X tb e α d α'
def mD (t : M PyData) : M Ar := fun α => match t α with | none => none | some (d, α1) => some (.d d, α1)
def mF (t : M (List PyData)) : M Ar := fun α => match t α with | none => none | some (d, α1) => some (.f d, α1)
section
variable {K : PySem.W.Frag} {tb : Tabs} {α : Ab} {g : Gh} {σ : L2.St} {H : Hp} {i : Nat} {a : Ar} {v : V}
/-- it is stored -/
theorem St.store (S : St K tb α (gPd a v g) σ H) (h : Has K α g (gPd a v g) H a v) (hi : i < α.ρ.length) : St K tb (α.set i a.sl) (gAt a v g i) (σ.set i (some v)) H ∧ Ext (vw α (gPd a v g) H) (vw (α.set i a.sl) (gAt a v g i) H) := by
  cases a with
  | d x => exact St.setVal S h hi
  | o ds =>
    obtain ⟨p, xs, rfl, np, e, r⟩ := h
    exact S.takeO np e r hi
theorem gPd_comm {a1 a2 : Ar} {v1 v2 : V} : gPd a2 v2 (gPd a1 v1 g) = gPd a1 v1 (gPd a2 v2 g) := by
  cases a1 with
  | d x => rfl
  | o ds =>
    cases a2 with
    | d y => cases v1 <;> rfl
    | o es =>
      cases v1 with
      | ref p =>
        cases v2 with
        | ref q =>
          show Gh.mk _ _ _ _ = Gh.mk _ _ _ _
          congr 1
          funext b
          exact propext ⟨fun h => h.elim (fun h => h.elim (fun h => .inl (.inl h)) .inr) fun h => .inl (.inr h), fun h => h.elim (fun h => h.elim (fun h => .inl (.inl h)) .inr) fun h => .inl (.inr h)⟩
        | _ => rfl
      | _ => cases v2 <;> rfl
theorem gPd_at {a1 a2 : Ar} {v1 v2 : V} : gAt a1 v1 (gPd a2 v2 g) i = gPd a2 v2 (gAt a1 v1 g i) := by
  cases a1 with
  | d x => rfl
  | o ds =>
    cases a2 with
    | d y => cases v1 <;> rfl
    | o es => cases v1 <;> cases v2 <;> rfl
theorem Has.ext {α' : Ab} {g0 g1 g2 : Gh} {H' : Hp} (h : Has K α g0 g1 H a v) (E : Ext (vw α g1 H) (vw α' g2 H')) (out : ∀ p, v = .ref p → (∃ ds, a = .o ds) → H' p = H p) {g3 : Gh} (hO : ∀ p ds, v = .ref p → a = .o ds → g3.O p → g0.O p) : Has K α' g3 g2 H' a v := by
  cases a with
  | d x => exact dp_ext E _ _ h
  | o ds =>
    obtain ⟨p, xs, rfl, np, e, r⟩ := h
    exact ⟨p, xs, rfl, fun z => np (hO p ds rfl rfl z), (out p rfl ⟨ds, rfl⟩).trans e, od_ext E r⟩
theorem gPd_O {a : Ar} {v : V} {b : Addr} (h : g.O b) : (gPd a v g).O b := by
  cases a with
  | d x => exact h
  | o ds => cases v <;> first | exact .inl h | exact h
theorem gAt_O {a : Ar} {v : V} {j : Nat} : (gAt a v g j).O = g.O := by
  cases a with
  | d x => rfl
  | o ds => cases v <;> rfl
theorem gAt_dk {a : Ar} {v : V} {j : Nat} : (gAt a v g j).dk = g.dk ∧ (gAt a v g j).dc = g.dc := by
  cases a with
  | d x => exact ⟨rfl, rfl⟩
  | o ds => cases v <;> exact ⟨rfl, rfl⟩
theorem gPd_pend {g : Gh} {ds : OD} {p : Addr} : (gPd (.o ds) (.ref p) g).O p := .inr rfl
end
def sPair (i j : Nat) (t1 t2 : M Ar) : MS := fun α => match t1 α with
  | none => none
  | some (a1, α1) => match t2 α1 with
    | none => none
    | some (a2, α2) => if i < α2.ρ.length ∧ j < α2.ρ.length then some (.nx, (α2.set i a1.sl).set j a2.sl) else none
section
variable {X : Cx} {tb : List (Addr × Addr)} {e e1 e2 : Expr} {t : M PyData} {ts : M (List PyData)} {t1 t2 : M Ar} {pos p p1 p2 : Pos} {x y : Str}
theorem rx_d (h : RE X tb e t) : RX X tb e (mD t) := fun α a α' e1 σ H g Q S k => by
  unfold mD at e1
  split at e1
  · cases e1
  rename_i d α1 q
  cases e1
  exact h _ _ _ q σ H g Q S fun v H' S' m r => k v H' S' m.ext m.out r
theorem rx_f (h : RF X tb e ts) : RX X tb e (mF ts) := fun α a α' e1 σ H g Q S k => by
  unfold mF at e1
  split at e1
  · cases e1
  rename_i d α1 q
  cases e1
  refine h _ _ _ q σ H g Q S fun p H' F => ?_
  obtain ⟨xs, ex, rx⟩ := F.isO
  exact k _ H' F.st F.ext F.out ⟨p, xs, rfl, F.np, ex, rx⟩
def EFO (X : Cx) (tb : Tabs) (e : Expr) (α : Ab) (ds : OD) (α' : Ab) : Prop := ∀ (σ : L2.St) (H : Hp) (g : Gh) (Q : VK), St X.K tb α g σ H →
  (∀ p H', FreshO X.K tb α α' g σ H H' p ds → Q (.ref p) H') → U X e σ H Q
/-- e is a new object that is told -/
def RO (X : Cx) (tb : Tabs) (e : Expr) (t : M OD) : Prop := ∀ α d α', t α = some (d, α') → EFO X tb e α d α'
def mO (t : M OD) : M Ar := fun α => match t α with | none => none | some (d, α1) => some (.o d, α1)
theorem rx_o {to : M OD} (h : RO X tb e to) : RX X tb e (mO to) := fun α a α' e1 σ H g Q S k => by
  unfold mO at e1
  split at e1
  · cases e1
  rename_i d α1 q
  cases e1
  refine h _ _ _ q σ H g Q S fun p H' F => ?_
  obtain ⟨xs, ex, rx⟩ := F.isO
  exact k _ H' F.st F.ext F.out ⟨p, xs, rfl, F.np, ex, rx⟩
/-- both at hand, then both stored -/
theorem pair_go {α : Ab} {a1 : Ar} {α1 : Ab} {a2 : Ar} {α2 : Ab} (i j : Nat) (h1 : RX X tb e1 t1) (h2 : RX X tb e2 t2) (k1 : t1 α = some (a1, α1)) (k2 : t2 α1 = some (a2, α2)) (hi : i < α2.ρ.length) (hj : j < α2.ρ.length)
    {σ : L2.St} {H : Hp} {g : Gh} (S : St X.K tb α g σ H) {Q : V → V → Hp → Prop} (k : ∀ v w H', (∀ b, H' b = none → ¬ (gPd a2 w (gPd a1 v g)).O b) → St X.K tb (⟨[], α2.δ⟩) (gPd a2 w (gPd a1 v g)) [] H' →
      (∀ (p : Addr) (o : HO), H' p = none → ∃ g', St X.K tb ((α2.set i a1.sl).set j a2.sl) g' ((σ.set i (some v)).set j (some w)) (upd H' p o) ∧ GMv α ((α2.set i a1.sl).set j a2.sl) g g' H (upd H' p o)) →
      (∃ g', St X.K tb ((α2.set i a1.sl).set j a2.sl) g' ((σ.set i (some v)).set j (some w)) H' ∧ GMv α ((α2.set i a1.sl).set j a2.sl) g g' H H') → Q v w H') : U X e1 σ H fun v H1 => U X e2 σ H1 fun w H2 => Q v w H2 := by
  refine h1 _ _ _ k1 σ H g _ S fun v H1 S1 E1 O1 P1 => h2 _ _ _ k2 σ H1 (gPd a1 v g) _ S1 fun w H2 S2 E2 O2 P2 => ?_
  have S0 := S2.leave.1
  rw [gPd_comm] at S2 E2
  have P1' : Has X.K α2 (gPd a2 w g) (gPd a1 v (gPd a2 w g)) H2 a1 v := by
    refine P1.ext E2 (fun p ep ⟨ds, ea⟩ => ?_) (fun p ds ep ea z => ?_)
    · subst ep ea
      exact O2 p gPd_pend
    · subst ep ea
      cases a2 with
      | d x => exact z
      | o es =>
        obtain ⟨q, ys, rfl, nq, _, _⟩ := P2
        rcases z with z | z
        · exact z
        · subst z
          exact absurd gPd_pend nq
  obtain ⟨S3, E3⟩ := S2.store P1' hi
  rw [gPd_at] at S3 E3
  have P2' : Has X.K (α2.set i a1.sl) (gAt a1 v g i) (gPd a2 w (gAt a1 v g i)) H2 a2 w := by
    refine P2.ext (by rw [gPd_comm]; exact E3) (fun _ _ _ => rfl) (fun p ds ep ea z => ?_)
    rw [gAt_O] at z
    exact gPd_O z
  obtain ⟨S4, E4⟩ := S3.store P2' (by show j < (α2.ρ.set i a1.sl).length; rw [List.length_set]; exact hj)
  have G : GMv α ((α2.set i a1.sl).set j a2.sl) g (gAt a2 w (gAt a1 v g i) j) H H2 := by
    refine ⟨gAt_O.trans gAt_O, gAt_dk.1.trans gAt_dk.1, gAt_dk.2.trans gAt_dk.2, E1.trans (E2.trans (E3.trans E4)), fun b hb => (O2 b (gPd_O hb)).trans (O1 b hb)⟩
  refine k v w H2 (fun b hb z => (S0.oin b z).1 hb) S0 (fun p o hp => ?_) ⟨_, S4, G⟩
  obtain ⟨S5, w5, _⟩ := S4.new (o := o) hp
  exact ⟨_, S5, G.trans w5.g⟩
/-- plain local names: the pair is not laid -/
theorem rs_par (i j : Nat) {kt k2 : _} {pt pt2 : _} (hc : X.calm = true) (hN : X.N.Nodup) (hij : i ≠ j) (h1 : RX X tb e1 t1) (h2 : RX X tb e2 t2) (hi : X.N[i]? = some x := by rfl) (hj : X.N[j]? = some y := by rfl)
    (hx : X.env.scope.names.lookup x = some .local := by rfl) (hy : X.env.scope.names.lookup y = some .local := by rfl)
    (hw : swappedStores [.Tuple [.Name x p1, .Name y p2] kt pt] (.Tuple [e1, e2] k2 pt2) X.env = pure (some [x, y]) := by rfl)
    (hs : swapsWithSole [.Tuple [.Name x p1, .Name y p2] kt pt] (.Tuple [e1, e2] k2 pt2) pos.line X.env = pure false := by rfl)
    (s1 : starEach [e1, e2] X.env = (false, eval e1 X.env) :: starEach [e2] X.env := by rfl) (s2 : starEach [e2] X.env = (false, eval e2 X.env) :: starEach [] X.env := by rfl) :
    RS X tb (.Assign [.Tuple [.Name x p1, .Name y p2] kt pt] (.Tuple [e1, e2] k2 pt2) pos) (sPair i j t1 t2) := fun α o α' h σ H g D S P => by
  unfold sPair at h
  split at h
  · cases h
  rename_i a1 α1 k1
  split at h
  · cases h
  rename_i a2 α2 k2'
  obtain ⟨⟨l1, l2⟩, h⟩ := ite_some h
  cases h
  refine US_of (L2.ps_par hc hN hi hj hij hx hy (pa_cons pe_U (pa_cons pe_U pa_nil s2) s1) hw hs) ?_
  refine pair_go i j h1 h2 k1 k2' l1 l2 S fun v w H' _ _ _ ⟨g', S', G⟩ => ?_
  exact ⟨v, w, rfl, P _ _ g' S' G⟩
/-- by the pair -/
theorem rs_parT (i j : Nat) {kt : _} {k2 : _} {pt pt2 : _} (hc : X.calm = true) (hN : X.N.Nodup) (h1 : RX X tb e1 t1) (h2 : RX X tb e2 t2) (hi : X.N[i]? = some x := by rfl) (hj : X.N[j]? = some y := by rfl)
    (hx : Loc X.env.scope x := by first | exact Or.inl rfl | exact Or.inr rfl) (hy : Loc X.env.scope y := by first | exact Or.inl rfl | exact Or.inr rfl)
    (hfx : X.fn x = true ∨ X.env.scope.names.lookup x = some .local := by first | exact .inl rfl | exact .inr rfl) (hfy : X.fn y = true ∨ X.env.scope.names.lookup y = some .local := by first | exact .inl rfl | exact .inr rfl)
    (hs : swapsWithSole [.Tuple [.Name x p1, .Name y p2] kt pt] (.Tuple [e1, e2] k2 pt2) pos.line X.env = pure false := by rfl) (hw : swappedStores [.Tuple [.Name x p1, .Name y p2] kt pt] (.Tuple [e1, e2] k2 pt2) X.env = pure none := by rfl)
    (ha : (assignEach [.Tuple [.Name x p1, .Name y p2] kt pt] X.env).map (·.2) = [assign (.Tuple [.Name x p1, .Name y p2] kt pt) X.env] := by rfl)
    (hn : (assignEach [.Name x p1, .Name y p2] X.env).length = 2 := by rfl) (hst : (assignEach [.Name x p1, .Name y p2] X.env).findIdx? (·.1) = none := by rfl)
    (hp1 : (assignEach [.Name x p1, .Name y p2] X.env).map (·.2) = assign (.Name x p1) X.env :: (assignEach [.Name y p2] X.env).map (·.2) := by rfl) (hp2 : (assignEach [.Name y p2] X.env).map (·.2) = assign (.Name y p2) X.env :: (assignEach [] X.env).map (·.2) := by rfl)
    (s1 : starEach [e1, e2] X.env = (false, eval e1 X.env) :: starEach [e2] X.env := by rfl) (s2 : starEach [e2] X.env = (false, eval e2 X.env) :: starEach [] X.env := by rfl) :
    RS X tb (.Assign [.Tuple [.Name x p1, .Name y p2] kt pt] (.Tuple [e1, e2] k2 pt2) pos) (sPair i j t1 t2) := fun α o α' h σ H g D S P => by
  unfold sPair at h
  split at h
  · cases h
  rename_i a1 α1 k1
  split at h
  · cases h
  rename_i a2 α2 k2'
  obtain ⟨⟨l1, l2⟩, h⟩ := ite_some h
  cases h
  refine US_of (ps_asg (pe_tup (pa_cons pe_U (pa_cons pe_U pa_nil s2) s1)) (pg_tup hc (pgs_cons (pg_name hN hi hx hfx) (pgs_cons (pg_name hN hj hy hfy) pgs_nil hp2) hp1) hn hst) hs hw ha) ?_
  refine pair_go i j h1 h2 k1 k2' l1 l2 S fun v w H' _ _ kk _ => ?_
  refine ⟨by rw [sizeLine_eq]; show 2 ≤ _; decide, fun p hp => ?_⟩
  obtain ⟨g', S', G⟩ := kk p (.tup [v, w]) hp
  exact ⟨p, [v, w], rfl, .of upd_same, rfl, v, [w], rfl, w, [], rfl, rfl, P _ _ g' S' G⟩
end
end Pd
end
section
set_option Elab.async false
set_option linter.all false
set_option maxRecDepth 100000
set_option maxHeartbeats 1000000
namespace Pd
open PySem PySem.Spec PyProof.Rows L2

/-! ### defs: the promise, where no repr is under way -/
structure FnG (P : Program) (w : World) (K : PySem.W.Frag) (mg : Str → Option Value) (base : Heap) (k : Nat) (f : Addr) (fd : FuncData) (ps : List Str) (sp : Sp) : Prop where
  len : ∀ vs H Q E, sp vs H Q E → vs.length = ps.length
  run : ∀ (A : Around) (outer : List Env) (s : Shared) (H : Hp) (args : Args) (us : List Value) (vs : List V) (Q : VK) (E : XK), RoomG k A → Env0 P w K mg base A outer s H → BindsTo s fd args (ps.zip us) → Vals vs us → sp vs H Q E →
    codeAny (model P w) A (.call (.ref f) args) (CR CX0 outer P w H s Q E) s
theorem FnG.mono {P : Program} {w : World} {K : PySem.W.Frag} {mg : Str → Option Value} {base : Heap} {j k : Nat} {f : Addr} {fd : FuncData} {ps : List Str} {sp : Sp} (F : FnG P w K mg base j f fd ps sp) (h : j ≤ k) : FnG P w K mg base k f fd ps sp :=
  ⟨F.len, fun A outer s H args us vs Q E hr => F.run A outer s H args us vs Q E (hr.mono h)⟩
theorem FnOk.toG {P : Program} {w : World} {K : PySem.W.Frag} {mg : Str → Option Value} {base : Heap} {k : Nat} {f : Addr} {fd : FuncData} {ps : List Str} {sp : Sp} (F : FnOk P w K mg base CX0 k f fd ps sp) : FnG P w K mg base k f fd ps sp :=
  ⟨F.len, fun A outer s H args us vs Q E hr => F.run A outer s H args us vs Q E hr.rm⟩
theorem fnG_of {P : Program} {w : World} {K : PySem.W.Frag} {mg : Str → Option Value} {base : Heap} {k : Nat} {f : Addr} {name qual : Str} {params : Arguments} {body : List Stmt} {scope : Scope} {dV kV doc pm cdv ct oc : Value} {an od : Option Addr}
    {osl : Array (Option Value)} {N ps : List Str} {sp : Sp} (lk : K.lookup f = some ⟨oc, od, .func (PySem.W.fnOf name qual params body scope dV kV doc pm an cdv ct), osl⟩) (hcd : PySem.W.codeIn K cdv qual = true) (S : FnScope N ps scope)
    (len : ∀ vs H Q E, sp vs H Q E → vs.length = ps.length)
    (hbody : ∀ (A : Around) (outer : List Env) (s : Shared) (H : Hp) (vs : List V) (Q : VK) (E : XK), RoomG k (A.deeper (envOfC qual scope s.heap.objs.size f cdv)) → sp vs H Q E →
      USs (cxOf CX0 P w K mg base N qual scope f cdv A outer s H E) body { nx := fun _ H' => Q .non H', rt := Q } (start N vs) H) :
    FnG P w K mg base (k + 1) f (PySem.W.fnOf name qual params body scope dV kV doc pm an cdv ct) ps sp := by
  refine ⟨len, fun A outer s H args us vs Q E hr e0 hb r hsp => ?_⟩
  have inK : K.In s.heap := e0.mod.kin.keeps fun b o e => (e0.bs b o e).1
  have noL : s.heap.NoLimit := e0.mod.nolimit.keeps fun b o e => (e0.bs b o e).1
  have kinds : ∀ y ∈ ps.zip us, scope.names.lookup y.1 = some .local ∨ (scope.names.lookup y.1 = some .cell ∧ ((cellsFrom (s.heap.objs.size + 1) scope.names []).lookup y.1).isSome = true) := by
    rintro ⟨n, v⟩ hy
    exact (S.par n (List.of_mem_zip hy).1).imp id fun q => ⟨q, PySem.W.cellsFrom_some _ _ _ (.inl q)⟩
  refine codeAny_call_function hr.rm.depth (inK _ _ lk) rfl S.co S.gen rfl (PySem.W.codeRec_of inK hcd) (hb _ _ _ _ ?_)
  refine wpAny_newFunctionEnv_cells S.kind kinds fun env he s1 x => ?_
  subst he
  refine ⟨noL.keeps x.toInCall.keep, codeAny_func ?_⟩
  have I : Inv (cxOf CX0 P w K mg base N qual scope f cdv A outer s H E) [] (start N vs) H s1 := inv_start S hr.hd e0 (len _ _ _ _ hsp) r x
  refine wpAny_mono (hbody A outer s H vs Q E (hr.deeper _) hsp [] s1 I) (fun fl s' hs => ?_) fun e s' hs => hs
  cases fl with
  | ret u =>
    obtain ⟨v, σ', H', J, rv, q⟩ := hs
    exact ⟨v, H', J.os, J.bare, J.base, J.hok, rv, q⟩
  | next =>
    obtain ⟨σ', H', J, q⟩ := hs
    exact ⟨V.non, H', J.os, J.bare, J.base, J.hok, rfl, q⟩
  | brk =>
    obtain ⟨_, _, _, q⟩ := hs
    exact q.elim
  | cont =>
    obtain ⟨_, _, _, q⟩ := hs
    exact q.elim
/-- the body does without exceptions of its own wishing -/
theorem USs.nox {X : Cx} {st : List Stmt} {D : Ends} {σ : L2.St} {H : Hp} (h : USs X.nox st D σ H) : USs X st D σ H := USs_of (PSs.nox pss_U) h
theorem fnG0 {P : Program} {w : World} {K : PySem.W.Frag} {mg : Str → Option Value} {base : Heap} {x qual : Str} {st : Stmt} {f : Addr} {fd : FuncData} {N ps : List Str} {k : Nat} {sp : Sp} (F : Fun K x qual st f fd) (S : FnScope N ps (defScope st)) (len : ∀ vs H Q E, sp vs H Q E → vs.length = ps.length)
    (hbody : ∀ (cdv : Value) (A : Around) (outer : List Env) (s : Shared) (H : Hp) (vs : List V) (Q : VK) (E : XK), RoomG k (A.deeper (envOfC qual (defScope st) s.heap.objs.size f cdv)) → sp vs H Q E →
      USs (cxOf CX0 P w K mg base N qual (defScope st) f cdv A outer s H E).nox (defBody st) { nx := fun _ H' => Q .non H', rt := Q } (start N vs) H) : FnG P w K mg base (k + 1) f fd ps sp := by
  obtain ⟨oc, od, kV, doc, pm, an, cdv, ct, osl, rfl, lk, hcd⟩ := F.ex
  exact fnG_of lk hcd S len fun A outer s H vs Q E hr hsp => USs.nox (hbody cdv A outer s H vs Q E hr hsp)

/-! ### a def by data -/
/-- what a def does to its arguments and the deck -/
abbrev FF := List Sl → Option Dk → Option (PyData × Option Dk)
def argOk : Sl → Bool
  | .val _ => true
  | .dck => true
  | _ => false
def hasDk (as : List Sl) : Bool := as.any fun s => match s with | .dck => true | _ => false
def spD (K : PySem.W.Frag) (tb : Tabs) (F : FF) : Sp := fun vs H Q _ => ∃ (as : List Sl) (δ δ' : Option Dk) (r : PyData) (g : Gh), F as δ = some (r, δ') ∧ as.all argOk = true ∧ vs.length = as.length ∧ St K tb ⟨as, δ⟩ g (vs.map some) H ∧
  ∀ v H' g', St K tb ⟨[], δ'⟩ g' [] H' → GMv ⟨as, δ⟩ ⟨[], δ'⟩ g g' H H' → Rp K (vw ⟨[], δ'⟩ g' H') v r → Q v H'
/-- by the body -/
def fOf (n : Nat) (body : MS) : FF := fun as δ => match body ⟨as ++ List.replicate (n - as.length) .un, δ⟩ with
  | some (.rt d, α) => some (d, α.δ)
  | some (.nx, α) => some (.none, α.δ)
  | _ => none
/-- only so many arguments -/
def fAr (n : Nat) (F : FF) : FF := fun as δ => if as.length = n then F as δ else none
theorem St.start {K : PySem.W.Frag} {tb : Tabs} {as : List Sl} {δ : Option Dk} {g : Gh} {vs : List V} {H : Hp} {N : List Str} (S : St K tb ⟨as, δ⟩ g (vs.map some) H) (hl : vs.length ≤ N.length) (ha : as.all argOk = true) :
    St K tb ⟨as ++ List.replicate (N.length - as.length) .un, δ⟩ g (start N vs) H ∧ Ext (vw ⟨as, δ⟩ g H) (vw ⟨as ++ List.replicate (N.length - as.length) .un, δ⟩ g H) := by
  have e : vs.length = as.length := by have := S.len; rw [List.length_map] at this; exact this
  refine S.chg rfl ?_ fun j s hs => ?_
  · unfold L2.start
    rw [List.length_append, List.length_append, List.length_map, List.length_replicate, List.length_replicate, e]
  · by_cases hj : j < as.length
    · have hs' : (as ++ List.replicate (N.length - as.length) Sl.un)[j]? = some s := hs
      rw [List.getElem?_append_left hj] at hs'
      refine .inl ⟨hs', ?_⟩
      unfold L2.start
      rw [List.getElem?_append_left (by rw [List.length_map, e]; exact hj)]
    · have hs' : (as ++ List.replicate (N.length - as.length) Sl.un)[j]? = some s := hs
      rw [List.getElem?_append_right (by omega), List.getElem?_replicate] at hs'
      split at hs'
      · exact .inr (.inl (Option.some.inj hs').symm)
      · cases hs'
theorem fnG_data {P : Program} {w : World} {K : PySem.W.Frag} {mg : Str → Option Value} {base : Heap} {x qual : Str} {st : Stmt} {f : Addr} {fd : FuncData} {N ps : List Str} {k : Nat} {tb : Tabs} {body : MS} (F : Fun K x qual st f fd) (S : FnScope N ps (defScope st))
    (h : ∀ (cdv : Value) (A : Around) (outer : List Env) (s : Shared) (H : Hp) (E : XK), RoomG k (A.deeper (envOfC qual (defScope st) s.heap.objs.size f cdv)) → RSs (cxOf CX0 P w K mg base N qual (defScope st) f cdv A outer s H E).nox tb (defBody st) body) :
    FnG P w K mg base (k + 1) f fd ps (spD K tb (fAr ps.length (fOf N.length body))) := by
  have arL : ∀ {as δ r}, fAr ps.length (fOf N.length body) as δ = some r → as.length = ps.length ∧ fOf N.length body as δ = some r := fun {as δ r} e => by
    unfold fAr at e
    split at e
    · rename_i q; exact ⟨q, e⟩
    · cases e
  have hpl : ps.length ≤ N.length := by have := congrArg List.length S.pre; rw [List.length_take] at this; omega
  refine fnG0 F S (fun vs H Q E ⟨as, δ, δ', r, g, e, _, hl, _⟩ => by rw [hl]; exact (arL e).1) fun cdv A outer s H vs Q E hr ⟨as, δ, δ', r, g, e, ha, hl, S0, k⟩ => ?_
  obtain ⟨hn, e⟩ := arL e
  obtain ⟨S1, E1⟩ := S0.start (N := N) (by omega) ha
  unfold fOf at e
  split at e
  · rename_i d α eb
    cases e
    exact h cdv A outer s H E hr _ _ _ eb _ H g _ S1 fun v H' g' S2 G q => k v H' g' S2 ⟨G.O, G.dk, G.dc, E1.trans G.ext, G.out⟩ q
  · rename_i α eb
    cases e
    refine h cdv A outer s H E hr _ _ _ eb _ H g _ S1 fun σ' H' g' S2 G => ?_
    obtain ⟨S3, E3⟩ := S2.leave
    exact k _ H' g' S3 ⟨G.O, G.dk, G.dc, E1.trans (G.ext.trans E3), G.out⟩ .non
  · cases e

/-! ### arguments: data and the deck -/
def EC (X : Cx) (tb : Tabs) (es : List Expr) (α : Ab) (as : List Sl) (α' : Ab) : Prop := ∀ (σ : L2.St) (H : Hp) (g : Gh) (Q : List V → Hp → Prop), St X.K tb α g σ H →
  (∀ vs H', St X.K tb α' g σ H' → Mv α α' g H H' → vs.length = as.length → (∀ (j : Nat) (d : PyData), as[j]? = some (Sl.val d) → ∃ v, vs[j]? = some v ∧ Rp X.K (vw α' g H') v d) → (∀ (j : Nat), as[j]? = some Sl.dck → vs[j]? = some (V.ref g.dk) ∧ α'.δ ≠ none) → Q vs H') → UA X es σ H Q
def RC (X : Cx) (tb : Tabs) (es : List Expr) (t : M (List Sl)) : Prop := ∀ α as α', t α = some (as, α') → (as.all argOk = true) ∧ EC X tb es α as α'
def cNil : M (List Sl) := fun α => some ([], α)
def cD (t : M PyData) (ts : M (List Sl)) : M (List Sl) := fun α => match t α with | none => none | some (d, α1) => match ts α1 with | none => none | some (as, α2) => some (.val d :: as, α2)
def cK (i : Nat) (ts : M (List Sl)) : M (List Sl) := fun α => match α.ρ[i]? with
  | some .dck => (match ts α with | none => none | some (as, α2) => match α2.δ with | none => none | some _ => some (.dck :: as, α2))
  | _ => none
section
variable {X : Cx} {tb : List (Addr × Addr)} {e : Expr} {es : List Expr} {t : M PyData} {ts : M (List Sl)} {pos p : Pos} {x : Str}
theorem rc_nil : RC X tb [] cNil := fun α as α' h => by
  cases h
  exact ⟨rfl, fun σ H g Q S k => UA_of pa_nil (k [] H S (Mv.refl _ _ _) rfl (fun j d e => by simp at e) fun j e => by simp at e)⟩
theorem rc_d (h1 : RE X tb e t) (h2 : RC X tb es ts) (hs : starEach (e :: es) X.env = (false, eval e X.env) :: starEach es X.env := by rfl) : RC X tb (e :: es) (cD t ts) := fun α as α' h => by
  unfold cD at h
  split at h
  · cases h
  rename_i d α1 e1
  split at h
  · cases h
  rename_i bs α2 e2
  cases h
  obtain ⟨hb, hE⟩ := h2 _ _ _ e2
  refine ⟨by rw [List.all_cons, hb]; rfl, fun σ H g Q S k => UA_of (pa_cons pe_U pa_U hs) ?_⟩
  refine h1 _ _ _ e1 σ H g _ S fun v H1 S1 w1 q1 => hE σ H1 g _ S1 fun vs H2 S2 w2 hl hv hd => ?_
  refine k (v :: vs) H2 S2 (w1.trans w2) (by rw [List.length_cons, List.length_cons, hl]) (fun j d' e => ?_) fun j e => ?_
  · cases j with
    | zero => cases e; exact ⟨v, rfl, dp_ext w2.ext _ _ q1⟩
    | succ j => exact hv j d' (by simpa using e)
  · cases j with
    | zero => cases e
    | succ j => exact hd j (by simpa using e)
theorem rc_k (i : Nat) (h2 : RC X tb es ts) (hN : X.N[i]? = some x := by rfl) (hv : Vis X.env.scope x := by first | exact Or.inl rfl | exact Or.inr (Or.inl rfl) | exact Or.inr (Or.inr rfl)) (hd : (x == ("__debug__" : Str)) = false := by decide)
    (hcd : (x == ("__classdict__" : Str)) = false := by decide) (hs : starEach (.Name x p :: es) X.env = (false, eval (.Name x p) X.env) :: starEach es X.env := by rfl) : RC X tb (.Name x p :: es) (cK i ts) := fun α as α' h => by
  unfold cK at h
  split at h
  case h_2 => cases h
  rename_i ei
  split at h
  · cases h
  rename_i bs α2 e2
  split at h
  · cases h
  rename_i δ0 eδ
  cases h
  obtain ⟨hb, hE⟩ := h2 _ _ _ e2
  refine ⟨by rw [List.all_cons, hb]; rfl, fun σ H g Q S k => UA_of (pa_cons (pe_var hN hv hd hcd) pa_U hs) ?_⟩
  obtain ⟨v0, _⟩ := S.dck i ei
  refine ⟨_, v0, hE σ H g _ S fun vs H2 S2 w2 hl hv hd => ?_⟩
  refine k (_ :: vs) H2 S2 w2 (by rw [List.length_cons, List.length_cons, hl]) (fun j d' e => ?_) fun j e => ?_
  · cases j with
    | zero => cases e
    | succ j => exact hv j d' (by simpa using e)
  · cases j with
    | zero => exact ⟨rfl, by rw [eδ]; simp⟩
    | succ j => exact hd j (by simpa using e)
end
end Pd
end
section
set_option Elab.async false
set_option linter.all false
set_option maxRecDepth 100000
set_option maxHeartbeats 1000000
namespace Pd
open PySem PySem.Spec PyProof.Rows L2

section
variable {K : PySem.W.Frag} {tb : Tabs} {α : Ab} {g gc g' : Gh} {σ : L2.St} {H H' : Hp} {as : List Sl} {vs : List V} {δc δ' : Option Dk}
theorem St.tabHid (S : St K tb α g σ H) {p : Addr × Addr} (hp : p ∈ tb) : ¬ Hid α g p.2 := by
  obtain ⟨ps, e, _⟩ := S.tab p hp
  rintro (z | ⟨j, ⟨ds, z1⟩, z2⟩ | ⟨z1, z2⟩)
  · exact S.otab p hp z
  · obtain ⟨_, _, xs, e2, e3⟩ := S.own j ds z1
    rw [z2, e] at e2
    exact e3.ntbl _ (Option.some.inj e2).symm
  · obtain ⟨δ, hδ⟩ := Option.ne_none_iff_exists'.mp z1
    obtain ⟨⟨e1, e2⟩, _⟩ := S.dk δ hδ
    rcases z2 with z2 | z2
    · rw [← z2, e] at e1; cases e1
    · rw [← z2, e] at e2; cases e2
theorem noOwn (ha : as.all argOk = true) (j : Nat) : ¬ ownAt as j := by
  rintro ⟨ds, e⟩
  have := List.all_eq_true.mp ha _ (List.mem_of_getElem? e)
  cases this
theorem vw_eq {α β : Ab} {g g' : Gh} {H : Hp} (h : ∀ a, Hid α g a ↔ Hid β g' a) : vw α g H = vw β g' H := by
  funext a
  unfold vw
  by_cases z : Hid α g a
  · rw [if_pos z, if_pos ((h a).mp z)]
  · rw [if_neg z, if_neg fun y => z ((h a).mpr y)]
theorem St.enter (S : St K tb α g σ H) (ha : as.all argOk = true) (hl : vs.length = as.length) (hv : ∀ (j : Nat) (d : PyData), as[j]? = some (Sl.val d) → ∃ v, vs[j]? = some v ∧ Rp K (vw α g H) v d)
    (hd : ∀ j : Nat, as[j]? = some Sl.dck → vs[j]? = some (V.ref gc.dk) ∧ δc ≠ none) (hdk : gc.dk = g.dk) (hdc : gc.dc = g.dc) (hH : ∀ a, Hid ⟨as, δc⟩ gc a ↔ Hid α g a) (hO : ∀ a, gc.O a → Hid α g a)
    (hδ : ∀ δ, δc = some δ → α.δ = some δ ∧ ¬ gc.O g.dk ∧ ¬ gc.O g.dc) : St K tb ⟨as, δc⟩ gc (vs.map some) H := by
  have V0 : vw ⟨as, δc⟩ gc H = vw α g H := vw_eq hH
  refine ⟨by rw [List.length_map]; exact hl, fun j d e => ?_, fun j ds e => absurd ⟨ds, e⟩ (noOwn ha j), fun i j a _ _ => absurd a (noOwn ha i), fun j e => ?_, fun δ e => ?_, fun a z => S.hidK (hO a z), S.tab, fun p hp z => S.tabHid hp (hO _ z)⟩
  · obtain ⟨v, h1, h2⟩ := hv j d e
    exact ⟨v, by rw [List.getElem?_map, h1]; rfl, by rw [V0]; exact h2⟩
  · obtain ⟨h1, h2⟩ := hd j e
    exact ⟨by rw [List.getElem?_map, h1]; rfl, h2⟩
  · obtain ⟨h1, h2, h3⟩ := hδ δ e
    obtain ⟨q1, _⟩ := S.dk δ h1
    exact ⟨by rw [hdk, hdc]; exact q1, by rw [hdk]; exact h2, by rw [hdc]; exact h3, fun i a => absurd a (noOwn ha i)⟩
theorem St.back {β : Ab} (S : St K tb α g σ H) (R : St K tb ⟨[], δ'⟩ g' [] H') (E : Ext (vw α g H) (vw ⟨[], δ'⟩ g' H')) (hρ : β.ρ = α.ρ) (hH : ∀ a, Hid β g a ↔ Hid ⟨[], δ'⟩ g' a) (out : ∀ a, (g.O a ∨ ∃ i, ownAt α.ρ i ∧ g.ad i = a) → H' a = H a)
    (hk : β.δ = none ↔ α.δ = none) (hdk : ∀ δ, β.δ = some δ → DeckAt H' g.dk g.dc δ) : St K tb β g σ H' ∧ vw β g H' = vw ⟨[], δ'⟩ g' H' := by
  have V0 : vw β g H' = vw ⟨[], δ'⟩ g' H' := vw_eq hH
  refine ⟨⟨by rw [hρ]; exact S.len, fun j d e => ?_, fun j ds e => ?_, fun i j a b => S.inj i j (by rw [← hρ]; exact a) (by rw [← hρ]; exact b), fun j e => ?_, fun δ e => ?_, fun a z => ?_, R.tab, S.otab⟩, V0⟩
  · rw [hρ] at e
    obtain ⟨v, h1, h2⟩ := S.val j d e
    exact ⟨v, h1, by rw [V0]; exact dp_ext E _ _ h2⟩
  · rw [hρ] at e
    obtain ⟨h1, h2, xs, h3, h4⟩ := S.own j ds e
    exact ⟨h1, h2, xs, (out _ (.inr ⟨j, ⟨ds, e⟩, rfl⟩)).trans h3, by rw [V0]; exact od_ext E h4⟩
  · rw [hρ] at e
    obtain ⟨h1, h2⟩ := S.dck j e
    exact ⟨h1, fun z => h2 (hk.mp z)⟩
  · have hn : α.δ ≠ none := fun z => by rw [hk.mpr z] at e; cases e
    obtain ⟨δ0, h0⟩ := Option.ne_none_iff_exists'.mp hn
    obtain ⟨_, q2, q3, q4⟩ := S.dk δ0 h0
    exact ⟨hdk δ e, q2, q3, fun i a => q4 i (by rw [← hρ]; exact a)⟩
  · exact .eq (out a (.inl z)) (S.oin a z)
end
def mCallFn (F : FF) (ts : M (List Sl)) : M PyData := fun α => match ts α with
  | none => none
  | some (as, α1) => if hasDk as = true then (match F as α1.δ with
      | some (r, some δ') => some (r, ⟨α1.ρ, some δ'⟩)
      | _ => none)
    else (match F as none with
      | some (r, none) => some (r, α1)
      | _ => none)
theorem hasDk_of {as : List Sl} {j : Nat} (h : as[j]? = some Sl.dck) : hasDk as = true := List.any_eq_true.mpr ⟨_, List.mem_of_getElem? h, rfl⟩
theorem hasDk_at {as : List Sl} (h : hasDk as = true) : ∃ j : Nat, as[j]? = some Sl.dck := by
  obtain ⟨s, hs, q⟩ := List.any_eq_true.mp h
  obtain ⟨j, hj⟩ := List.getElem?_of_mem hs
  cases s with
  | dck => exact ⟨j, hj⟩
  | un => cases q
  | val => cases q
  | obj => cases q
section
variable {X : Cx} {tb : List (Addr × Addr)} {e : Expr} {es : List Expr} {ts : M (List Sl)} {pos p : Pos} {x : Str} {k : Nat} {f : Addr} {fd : FuncData} {ps : List Str} {F : FF}
/-- the promise, at a call -/
theorem call_data {α : Ab} {g : Gh} {σ : L2.St} {H : Hp} {as : List Sl} {vs : List V} {d : PyData} {α' : Ab} {Q : VK} {E : XK} {K : PySem.W.Frag} (S : St K tb α g σ H) (ha : as.all argOk = true) (hl : vs.length = as.length)
    (hv : ∀ (j : Nat) (d : PyData), as[j]? = some (Sl.val d) → ∃ v, vs[j]? = some v ∧ Rp K (vw α g H) v d) (hd : ∀ j : Nat, as[j]? = some Sl.dck → vs[j]? = some (V.ref g.dk) ∧ α.δ ≠ none)
    (h : mCallFn F (fun α => some (as, α)) α = some (d, α')) (k : ∀ v H', St K tb α' g σ H' → Mv α α' g H H' → Rp K (vw α' g H') v d → Q v H') : spD K tb F vs H Q E := by
  unfold mCallFn at h
  simp only at h
  split at h
  · rename_i hdk
    split at h
    case h_2 => cases h
    rename_i r δ' ef
    cases h
    obtain ⟨j0, hj0⟩ := hasDk_at hdk
    obtain ⟨_, hn⟩ := hd j0 hj0
    obtain ⟨δ0, h0⟩ := Option.ne_none_iff_exists'.mp hn
    obtain ⟨D0, n1, n2, n3⟩ := S.dk δ0 h0
    let gc : Gh := { g with O := fun a => g.O a ∨ ∃ i, ownAt α.ρ i ∧ g.ad i = a }
    have hH : ∀ a, Hid ⟨as, α.δ⟩ gc a ↔ Hid α g a := fun a => by
      constructor
      · rintro ((z | z) | ⟨j, z, _⟩ | z)
        · exact .inl z
        · exact .inr (.inl z)
        · exact absurd z (noOwn ha j)
        · exact .inr (.inr z)
      · rintro (z | z | z)
        · exact .inl (.inl z)
        · exact .inl (.inr z)
        · exact .inr (.inr z)
    have S1 := S.enter (gc := gc) (δc := α.δ) ha hl hv hd rfl rfl hH (fun a z => z.elim .inl fun z => .inr (.inl z)) fun δ e => ⟨e, fun z => z.elim n1 fun ⟨i, z1, z2⟩ => (n3 i z1).1 z2, fun z => z.elim n2 fun ⟨i, z1, z2⟩ => (n3 i z1).2 z2⟩
    refine ⟨as, α.δ, some δ', d, gc, ef, ha, hl, S1, fun v H' g' R G q => ?_⟩
    have V0 : vw ⟨as, α.δ⟩ gc H = vw α g H := vw_eq hH
    have E1 : Ext (vw α g H) (vw ⟨[], some δ'⟩ g' H') := by rw [← V0]; exact G.ext
    have hH2 : ∀ a, Hid ⟨α.ρ, some δ'⟩ g a ↔ Hid ⟨[], some δ'⟩ g' a := fun a => by
      constructor
      · rintro (z | z | ⟨_, z⟩)
        · exact .inl (by rw [G.O]; exact .inl z)
        · exact .inl (by rw [G.O]; exact .inr z)
        · exact .inr (.inr ⟨by simp, by rw [G.dk, G.dc]; exact z⟩)
      · rintro (z | ⟨j, ⟨ds, z⟩, _⟩ | ⟨_, z⟩)
        · rw [G.O] at z
          exact z.elim .inl fun z => .inr (.inl z)
        · simp at z
        · rw [G.dk, G.dc] at z
          exact .inr (.inr ⟨by simp, z⟩)
    obtain ⟨S2, V2⟩ := S.back (β := ⟨α.ρ, some δ'⟩) R E1 rfl hH2 (fun a z => G.out a z) ⟨fun z => (by cases z), fun z => absurd z hn⟩ (fun δ e => by
      cases e
      obtain ⟨q1, _⟩ := R.dk δ' rfl
      rw [G.dk, G.dc] at q1
      exact q1)
    exact k v H' S2 ⟨by rw [V2]; exact E1, fun a z => G.out a (.inl z)⟩ (by rw [V2]; exact q)
  · rename_i hdk
    split at h
    case h_2 => cases h
    rename_i r ef
    cases h
    have nd : ∀ j : Nat, as[j]? ≠ some Sl.dck := fun j e => hdk (hasDk_of e)
    let gc : Gh := { g with O := Hid α g }
    have hH : ∀ a, Hid ⟨as, none⟩ gc a ↔ Hid α g a := fun a => by
      constructor
      · rintro (z | ⟨j, z, _⟩ | ⟨z, _⟩)
        · exact z
        · exact absurd z (noOwn ha j)
        · exact absurd rfl z
      · exact fun z => .inl z
    have S1 := S.enter (gc := gc) (δc := none) ha hl hv (fun j e => absurd e (nd j)) rfl rfl hH (fun a z => z) fun δ e => by cases e
    refine ⟨as, none, none, d, gc, ef, ha, hl, S1, fun v H' g' R G q => ?_⟩
    have V0 : vw ⟨as, none⟩ gc H = vw α g H := vw_eq hH
    have E1 : Ext (vw α g H) (vw ⟨[], none⟩ g' H') := by rw [← V0]; exact G.ext
    have hH2 : ∀ a, Hid α g a ↔ Hid ⟨[], none⟩ g' a := fun a => by
      constructor
      · exact fun z => .inl (by rw [G.O]; exact z)
      · rintro (z | ⟨j, ⟨ds, z⟩, _⟩ | ⟨z, _⟩)
        · rw [G.O] at z; exact z
        · simp at z
        · exact absurd rfl z
    obtain ⟨S2, V2⟩ := S.back (β := α) R E1 rfl hH2 (fun a z => G.out a (z.elim .inl fun z => .inr (.inl z))) Iff.rfl (fun δ e => by
      obtain ⟨⟨q1, q2⟩, _⟩ := S.dk δ e
      have hid : ∀ a, (a = g.dk ∨ a = g.dc) → H' a = H a := fun a z => G.out a (.inr (.inr ⟨by rw [e]; simp, z⟩))
      exact ⟨(hid _ (.inl rfl)).trans q1, (hid _ (.inr rfl)).trans q2⟩)
    exact k v H' S2 ⟨by rw [V2]; exact E1, fun a z => G.out a (.inl z)⟩ (by rw [V2]; exact q)
theorem run_fnG {sp : Sp} {pins : List (Addr × Obj)} {σ : L2.St} {H : Hp} {s : Shared} {Q : VK} {us : List Value} {vs : List V} {E : XK} (FG : FnG X.prog X.w X.K X.mg X.base k f fd ps sp) (hr : RoomG k X.A) (hb : Binds X.K fd ps [])
    (I : Inv X pins σ H s) (r : Vals vs us) (h : sp vs H Q E) : wpAny (model X.prog X.w) X.A (call (.ref f) us) (EP X pins σ Q) X.xe s := by
  have hb' := hb s us I.kIn
  rw [List.append_nil] at hb'
  refine wpAny_call (codeAny_mono (FG.run X.A X.stack s H ⟨us, []⟩ us vs Q E hr I.env0 (hb' (by rw [← r.length]; exact FG.len _ _ _ _ h)) r h) fun res s' hq => ?_)
  cases res with
  | error e => exact False.elim hq
  | ok fl =>
    cases fl with
    | ret u => exact I.after hq
    | next => exact False.elim hq
    | brk => exact False.elim hq
    | cont => exact False.elim hq
theorem mCallFn_split {α α' : Ab} {d : PyData} (h : mCallFn F ts α = some (d, α')) : ∃ as α1, ts α = some (as, α1) ∧ mCallFn F (fun α => some (as, α)) α1 = some (d, α') := by
  unfold mCallFn at h
  split at h
  · cases h
  · rename_i as α1 e
    exact ⟨as, α1, e, h⟩
theorem re_fn (FG : FnG X.prog X.w X.K X.mg X.base k f fd ps (spD X.K tb F)) (hr : RoomG k X.A) (hg : Gl X x) (hm : X.mg x = some (.ref f)) (hk : PySem.W.keepIn X.K (.ref f) = true) (hb : Binds X.K fd ps []) (ha : RC X tb (e :: es) ts)
    (hdb : (x == ("__debug__" : Str)) = false := by decide) (he : starEach (e :: es) X.env = (false, eval e X.env) :: starEach es X.env := by rfl) (hpl : (backTo pos (starEach es X.env)).any (·.1) = false := by rfl) :
    RE X tb (.Call (.Name x p) (e :: es) [] pos) (mCallFn F ts) := fun α d α' h σ H g Q S kQ => by
  obtain ⟨as, α1, e1, h⟩ := mCallFn_split h
  obtain ⟨hok, hE⟩ := ha _ _ _ e1
  intro pins s I
  refine wpAny_Call_Name_kw (ld_glob I hg hm ?_ hdb)
  refine PySem.W.callWith_K (h₀ := X.base) I.ok.mod.kin hk ?_ he hpl
  refine thn (hE σ H g (fun vs H1 => spD X.K tb F vs H1 Q fun _ _ _ => False) S (fun vs H1 S1 w1 hl hv hd => call_data S1 hok hl hv hd h fun v H2 S2 w2 q => kQ v H2 S2 (w1.trans w2) q) pos pins s I) fun us s1 hh => ?_
  obtain ⟨vs, H1, I1, r, q⟩ := hh
  exact ⟨I1.kIn, run_fnG FG hr hb I1 r q⟩
end
end Pd
end
section
set_option Elab.async false
set_option linter.all false
set_option maxRecDepth 100000
set_option maxHeartbeats 1000000
namespace Pd
open PySem PySem.Spec PyProof.Rows L2

/-! ### the deck -/
def dkV (δ : Dk) (dc : Addr) : List (Key × V) := [(.inr "cells", .ref dc), (.inr "mixed", .int δ.mixed), (.inr "draws", .int δ.draws)]
theorem dkV_cells {δ : Dk} {dc : Addr} : valV (dkV δ dc) (.inr "cells") = some (.ref dc) := valV_pos rfl
theorem key_ne1 : ¬ (Sum.inr ("cells" : Str) : Key) = (Sum.inr ("mixed" : Str) : Key) := by decide
theorem key_ne2 : ¬ (Sum.inr ("cells" : Str) : Key) = (Sum.inr ("draws" : Str) : Key) := by decide
theorem key_ne3 : ¬ (Sum.inr ("mixed" : Str) : Key) = (Sum.inr ("draws" : Str) : Key) := by decide
theorem dkV_mixed {δ : Dk} {dc : Addr} : valV (dkV δ dc) (.inr "mixed") = some (.int δ.mixed) := by
  unfold dkV
  rw [valV_neg key_ne1, valV_pos rfl]
theorem dkV_draws {δ : Dk} {dc : Addr} : valV (dkV δ dc) (.inr "draws") = some (.int δ.draws) := by
  unfold dkV
  rw [valV_neg key_ne2, valV_neg key_ne3, valV_pos rfl]
theorem dkV_put {δ : Dk} {dc : Addr} {n : Int} : putK (dkV δ dc) (.inr "draws") (.int n) = dkV { δ with draws := n } dc := by
  unfold dkV putK
  have e1 := key_ne2
  have e2 := key_ne3
  simp only [List.any_cons, List.any_nil, List.map_cons, List.map_nil, decide_eq_false e1, decide_eq_false e2, decide_true, Bool.or_true, Bool.true_or, Bool.false_or, if_true, if_neg e1, if_neg e2]
section
variable {K : PySem.W.Frag} {tb : Tabs} {α : Ab} {g : Gh} {σ : L2.St} {H H' : Hp} {δ δ' : Dk}
/-- the deck is written -/
theorem St.deck (S : St K tb α g σ H) (hδ : α.δ = some δ) {a : Addr} {o : HO} (ha : a = g.dk ∨ a = g.dc) (D : DeckAt (upd H a o) g.dk g.dc δ') : St K tb ⟨α.ρ, some δ'⟩ g σ (upd H a o) ∧ Mv α ⟨α.ρ, some δ'⟩ g H (upd H a o) := by
  obtain ⟨D0, n1, n2, n3⟩ := S.dk δ hδ
  have hid : ∀ b, Hid ⟨α.ρ, some δ'⟩ g b ↔ Hid α g b := fun b => by
    constructor
    · rintro (z | z | ⟨_, z⟩)
      · exact .inl z
      · exact .inr (.inl z)
      · exact .inr (.inr ⟨by rw [hδ]; simp, z⟩)
    · rintro (z | z | ⟨_, z⟩)
      · exact .inl z
      · exact .inr (.inl z)
      · exact .inr (.inr ⟨by simp, z⟩)
  have ha' : Hid α g a := .inr (.inr ⟨by rw [hδ]; simp, ha⟩)
  have V0 : vw ⟨α.ρ, some δ'⟩ g (upd H a o) = vw α g H := by
    rw [vw_eq hid]
    funext b
    unfold vw
    by_cases z : Hid α g b
    · rw [if_pos z, if_pos z]
    · rw [if_neg z, if_neg z, upd_ne]
      rintro rfl
      exact z ha'
  have nO : ¬ g.O a := fun z => ha.elim (fun e => n1 (by rw [← e]; exact z)) fun e => n2 (by rw [← e]; exact z)
  refine ⟨⟨S.len, fun j d e => ?_, fun j ds e => ?_, S.inj, fun j e => ⟨(S.dck j e).1, by simp⟩, fun δ2 e => ?_, fun b z => ?_, fun p hp => ?_, S.otab⟩, by rw [V0]; exact Ext.refl _, fun b z => ?_⟩
  · rw [V0]; exact S.val j d e
  · obtain ⟨h1, h2, xs, h3, h4⟩ := S.own j ds e
    refine ⟨h1, h2, xs, ?_, by rw [V0]; exact h4⟩
    rw [upd_ne]
    · exact h3
    · obtain ⟨q1, q2⟩ := n3 j ⟨ds, e⟩
      exact fun z => ha.elim (fun y => q1 (z.trans y)) fun y => q2 (z.trans y)
  · cases e
    exact ⟨D, n1, n2, n3⟩
  · exact .eq (upd_ne fun y => nO (by rw [← y]; exact z)) (S.oin b z)
  · obtain ⟨ps, q1, q2⟩ := S.tab p hp
    exact ⟨ps, by rw [upd_ne fun z => S.tabHid hp (by rw [z]; exact ha')]; exact q1, q2⟩
  · rw [upd_ne]
    rintro rfl
    exact nO z
end
def isDk (i : Nat) (α : Ab) : Option Dk := match α.ρ[i]? with | some .dck => α.δ | _ => none
theorem isDk_some {i : Nat} {α : Ab} {δ : Dk} (h : isDk i α = some δ) : α.ρ[i]? = some .dck ∧ α.δ = some δ := by
  unfold isDk at h
  split at h
  · rename_i e; exact ⟨e, h⟩
  · cases h
def kMixed (i : Nat) : M PyData := fun α => match isDk i α with | none => none | some δ => some (.int δ.mixed, α)
def kDraws (i : Nat) : M PyData := fun α => match isDk i α with | none => none | some δ => some (.int δ.draws, α)
def kAny (i : Nat) : M Bool := fun α => match isDk i α with | none => none | some δ => some (!δ.cells.isEmpty, α)
def kPop (i : Nat) : M PyData := fun α => match isDk i α with
  | none => none
  | some δ => match δ.cells[δ.cells.length - 1]? with | none => none | some n => some (.int n, ⟨α.ρ, some { δ with cells := δ.cells.dropLast }⟩)
def kApp (i : Nat) (t : M PyData) : M PyData := fun α => match isDk i α with
  | none => none
  | some _ => match t α with
    | some (.int n, α1) => (match isDk i α1 with
      | none => none
      | some δ => if δ.cells.length < 16777216 then some (.none, ⟨α1.ρ, some { δ with cells := δ.cells ++ [n] }⟩) else none)
    | _ => none
def kSet (i : Nat) (t : M PyData) : MS := fun α => match t α with
  | some (.int n, α1) => (match isDk i α1 with
    | none => none
    | some δ => some (.nx, ⟨α1.ρ, some { δ with draws := n }⟩))
  | _ => none
section
variable {X : Cx} {tb : List (Addr × Addr)} {e : Expr} {t : M PyData} {pos p p1 p2 p3 apos cpos : Pos} {x : Str}
theorem dk_seen {K : PySem.W.Frag} {α : Ab} {g : Gh} {σ : L2.St} {H : Hp} {i : Nat} {δ : Dk} (S : St K tb α g σ H) (h : isDk i α = some δ) : σ[i]? = some (some (.ref g.dk)) ∧ H g.dk = some (.dK (dkV δ g.dc)) ∧ H g.dc = some (.lst (δ.cells.map V.int)) := by
  obtain ⟨h1, h2⟩ := isDk_some h
  obtain ⟨⟨q1, q2⟩, _⟩ := S.dk δ h2
  exact ⟨(S.dck i h1).1, q1, q2⟩
theorem re_dkMixed (i : Nat) (hu : X.A.units + 1 < cLine) (hN : X.N[i]? = some x := by rfl) (hv : Vis X.env.scope x := by first | exact Or.inl rfl | exact Or.inr (Or.inl rfl) | exact Or.inr (Or.inr rfl)) (hd : (x == ("__debug__" : Str)) = false := by decide)
    (hcd : (x == ("__classdict__" : Str)) = false := by decide) {j : Nat} : RE X tb (.Subscript (.Name x p1) (.Constant (.str "mixed") j p2) p) (kMixed i) := fun α d α' h σ H g Q S k => by
  unfold kMixed at h
  split at h
  · cases h
  rename_i δ ei
  cases h
  obtain ⟨v0, h1, h2⟩ := dk_seen S ei
  refine U_of (pe_dget hu (pe_var hN hv hd hcd) pe_str (fun _ _ => rfl)) ⟨_, v0, _, _, rfl, .inl ⟨_, .inr "mixed", .of h1, rfl, dkV_mixed.symm⟩, k _ H S (Mv.refl _ _ _) (.int _)⟩
theorem re_dkDraws (i : Nat) (hu : X.A.units + 1 < cLine) (hN : X.N[i]? = some x := by rfl) (hv : Vis X.env.scope x := by first | exact Or.inl rfl | exact Or.inr (Or.inl rfl) | exact Or.inr (Or.inr rfl)) (hd : (x == ("__debug__" : Str)) = false := by decide)
    (hcd : (x == ("__classdict__" : Str)) = false := by decide) {j : Nat} : RE X tb (.Subscript (.Name x p1) (.Constant (.str "draws") j p2) p) (kDraws i) := fun α d α' h σ H g Q S k => by
  unfold kDraws at h
  split at h
  · cases h
  rename_i δ ei
  cases h
  obtain ⟨v0, h1, h2⟩ := dk_seen S ei
  refine U_of (pe_dget hu (pe_var hN hv hd hcd) pe_str (fun _ _ => rfl)) ⟨_, v0, _, _, rfl, .inl ⟨_, .inr "draws", .of h1, rfl, dkV_draws.symm⟩, k _ H S (Mv.refl _ _ _) (.int _)⟩
theorem eqv_nil (ns : List Int) : PyData.eqv (.list (ns.map PyData.int)) (.list []) = ns.isEmpty := by
  cases ns <;> rfl
/-- plain and of few floors -/
def Shp (n : Nat) (d : PyData) : Prop := d.canLay0 = true ∧ d.depth ≤ n
theorem shaped_of {n : Nat} {d : PyData} (h : Shp n d) (hn : n ≤ 64) : SeqAt.shaped d = true := by
  unfold SeqAt.shaped
  rw [h.1, Bool.true_and, decide_eq_true_eq]
  exact Nat.le_trans h.2 hn
theorem shp_all {n : Nat} : ∀ {ds : List PyData}, (∀ d ∈ ds, Shp n d) → PyData.canLayAll0 ds = true ∧ PyData.depthAll ds ≤ n
  | [], _ => ⟨by simp [PyData.canLayAll0], by simp [PyData.depthAll]⟩
  | d :: ds, h => by
    obtain ⟨h1, h2⟩ := h d (by simp)
    obtain ⟨h3, h4⟩ := shp_all (ds := ds) fun x hx => h x (by simp [hx])
    refine ⟨by simp [PyData.canLayAll0, h1, h3], ?_⟩
    simp only [PyData.depthAll]
    omega
theorem shp_none {n : Nat} : Shp n .none := ⟨rfl, by simp [PyData.depth]⟩
theorem shp_int {n : Nat} {i : Int} : Shp n (.int i) := ⟨rfl, by simp [PyData.depth]⟩
theorem shp_bool {n : Nat} {b : Bool} : Shp n (.bool b) := ⟨rfl, by simp [PyData.depth]⟩
theorem shp_list {n : Nat} {ds : List PyData} (h : ∀ d ∈ ds, Shp n d) : Shp (n + 1) (.list ds) := by
  obtain ⟨h1, h2⟩ := shp_all h
  exact ⟨by simpa [PyData.canLay0] using h1, by simp only [PyData.depth]; omega⟩
theorem shp_tuple {n : Nat} {ds : List PyData} (h : ∀ d ∈ ds, Shp n d) : Shp (n + 1) (.tuple ds) := by
  obtain ⟨h1, h2⟩ := shp_all h
  exact ⟨by simpa [PyData.canLay0] using h1, by simp only [PyData.depth]; omega⟩
theorem shaped_ints (ns : List Int) : SeqAt.shaped (.list (ns.map PyData.int)) = true := shaped_of (n := 1) (shp_list fun d h => by
  obtain ⟨i, _, rfl⟩ := List.mem_map.mp h
  exact shp_int) (by decide)
theorem rt_dkAny (i : Nat) (hu : X.A.units + 65 < cLine) (hN : X.N[i]? = some x := by rfl) (hv : Vis X.env.scope x := by first | exact Or.inl rfl | exact Or.inr (Or.inl rfl) | exact Or.inr (Or.inr rfl)) (hd : (x == ("__debug__" : Str)) = false := by decide)
    (hcd : (x == ("__classdict__" : Str)) = false := by decide) {j : Nat} : RT X tb (.Compare (.Subscript (.Name x p1) (.Constant (.str "cells") j p2) p3) [.NotEq] [.List [] apos] p) (kAny i) := fun α d α' h σ H g Q S k => by
  unfold kAny at h
  split at h
  · cases h
  rename_i δ ei
  cases h
  obtain ⟨v0, h1, h2⟩ := dk_seen S ei
  refine UT_of (pt_cmpR (op_neD (by omega)) (pe_dget (by omega) (pe_var hN hv hd hcd) pe_str (fun _ _ => rfl)) (pe_lst pa_nil) (nobehind _ (by decide) (by decide))) ?_
  refine ⟨_, v0, _, _, rfl, .inl ⟨_, .inr "cells", .of h1, rfl, dkV_cells.symm⟩, Nat.zero_le _, fun q hq => ?_⟩
  obtain ⟨S2, w2, q2⟩ := S.lst hq .nil
  obtain ⟨_, h1', h2'⟩ := dk_seen S2 ei
  refine ⟨.list (δ.cells.map .int), .list [], .lst (.of h2') (rpa_dp _ _ dpa_ints), .lst (.of upd_same) .nil, shaped_ints _, rfl, ?_⟩
  rw [eqv_nil]
  exact ⟨_, rfl, k _ S2 w2⟩
theorem re_dkPop (i : Nat) (hu : X.A.units + 1 < cLine) (hN : X.N[i]? = some x := by rfl) (hv : Vis X.env.scope x := by first | exact Or.inl rfl | exact Or.inr (Or.inl rfl) | exact Or.inr (Or.inr rfl)) (hd : (x == ("__debug__" : Str)) = false := by decide)
    (hcd : (x == ("__classdict__" : Str)) = false := by decide) {j : Nat} (hbase : attributeBase (.Subscript (.Name x p1) (.Constant (.str "cells") j p2) p3) "pop" X.env (eval (.Subscript (.Name x p1) (.Constant (.str "cells") j p2) p3) X.env) = eval (.Subscript (.Name x p1) (.Constant (.str "cells") j p2) p3) X.env := by rfl) (hline : (apos.endLine == cpos.line) = true := by rfl) :
    RE X tb (.Call (.Attribute (.Subscript (.Name x p1) (.Constant (.str "cells") j p2) p3) "pop" apos) [] [] cpos) (kPop i) := fun α d α' h σ H g Q S k => by
  unfold kPop at h
  split at h
  · cases h
  rename_i δ ei
  split at h
  · cases h
  rename_i n en
  cases h
  obtain ⟨v0, h1, h2⟩ := dk_seen S ei
  refine U_of (pe_bm0 PySem.F.plainAttrs_list PySem.F.slot_list_pop PySem.F.type_list_pop mt_pop (pe_dget hu (pe_var hN hv hd hcd) pe_str (fun _ _ => rfl)) hbase hline) ?_
  refine ⟨_, v0, _, _, rfl, .inl ⟨_, .inr "cells", .of h1, rfl, dkV_cells.symm⟩, .inl ⟨rfl, _, SqL.of h2⟩, _, _, .int n, rfl, rfl, h2, ?_, ?_⟩
  · rw [List.length_map, List.getElem?_map, en]; rfl
  have ne : g.dk ≠ g.dc := ne_of h1 h2 (by intro z; cases z)
  obtain ⟨S2, w2⟩ := S.deck (isDk_some ei).2 (δ' := { δ with cells := δ.cells.dropLast }) (o := .lst (δ.cells.map V.int).dropLast) (.inr rfl) ⟨by rw [upd_ne ne]; exact h1, by rw [upd_same, List.map_dropLast]⟩
  exact k _ _ S2 w2 (.int n)
theorem re_dkApp (i : Nat) (hu : X.A.units + 1 < cLine) (ht : RE X tb e t) (hN : X.N[i]? = some x := by rfl) (hv : Vis X.env.scope x := by first | exact Or.inl rfl | exact Or.inr (Or.inl rfl) | exact Or.inr (Or.inr rfl)) (hd : (x == ("__debug__" : Str)) = false := by decide)
    (hcd : (x == ("__classdict__" : Str)) = false := by decide) {j : Nat} (hbase : attributeBase (.Subscript (.Name x p1) (.Constant (.str "cells") j p2) p3) "append" X.env (eval (.Subscript (.Name x p1) (.Constant (.str "cells") j p2) p3) X.env) = eval (.Subscript (.Name x p1) (.Constant (.str "cells") j p2) p3) X.env := by rfl)
    (hfew : ((backTo cpos (starEach [e] X.env)).all (fun x => !x.1) && (backToKw cpos (keywordEach [] X.env)).all (fun x => x.1.isSome)
      && decide ([e].length + ([] : List Keyword).length + (if ([] : List Keyword).isEmpty then 0 else 1) < 30)) = true := by rfl)
    (hline : (apos.endLine == cpos.line) = true := by rfl) (hs : starEach [e] X.env = (false, eval e X.env) :: starEach [] X.env := by rfl) :
    RE X tb (.Call (.Attribute (.Subscript (.Name x p1) (.Constant (.str "cells") j p2) p3) "append" apos) [e] [] cpos) (kApp i t) := fun α d α' h σ H g Q S k => by
  unfold kApp at h
  split at h
  · cases h
  rename_i δ0 ei0
  split at h
  case h_2 => cases h
  rename_i n α1 et
  split at h
  · cases h
  rename_i δ ei
  obtain ⟨hl, h⟩ := ite_some h
  cases h
  obtain ⟨v0, h1, h2⟩ := dk_seen S ei0
  refine U_of (pe_bm PySem.F.plainAttrs_list PySem.F.slot_list_append PySem.F.type_list_append mt_append (pe_dget hu (pe_var hN hv hd hcd) pe_str (fun _ _ => rfl)) (pa_cons pe_U pa_nil hs) hbase hfew hline hs rfl) ?_
  refine ⟨_, v0, _, _, rfl, .inl ⟨_, .inr "cells", .of h1, rfl, dkV_cells.symm⟩, .inl ⟨rfl, _, SqL.of h2⟩, ?_⟩
  refine ht _ _ _ et σ H g _ S fun v H1 S1 w1 q1 => ?_
  cases q1
  obtain ⟨_, h3, h4⟩ := dk_seen S1 ei
  refine ⟨_, _, _, rfl, rfl, h4, by rw [List.length_map, sizeLine_eq]; exact hl, ?_⟩
  have ne : g.dk ≠ g.dc := ne_of h3 h4 (by intro z; cases z)
  obtain ⟨S2, w2⟩ := S1.deck (isDk_some ei).2 (δ' := { δ with cells := δ.cells ++ [n] }) (o := .lst (δ.cells.map V.int ++ [V.int n])) (.inr rfl) ⟨by rw [upd_ne ne]; exact h3, by rw [upd_same, List.map_append]; rfl⟩
  exact k _ _ S2 (w1.trans w2) .non
theorem rs_dkSet (i : Nat) (hu : X.A.units + 1 < cLine) (ht : RE X tb e t) (hN : X.N[i]? = some x := by rfl) (hv : Vis X.env.scope x := by first | exact Or.inl rfl | exact Or.inr (Or.inl rfl) | exact Or.inr (Or.inr rfl)) (hd : (x == ("__debug__" : Str)) = false := by decide)
    (hcd : (x == ("__classdict__" : Str)) = false := by decide) {j : Nat} (hs : swapsWith e (some (.Subscript (.Name x p1) (.Constant (.str "draws") j p2) p3)) pos.line X.env = pure false := by rfl) :
    RS X tb (.Assign [.Subscript (.Name x p1) (.Constant (.str "draws") j p2) p3] e pos) (kSet i t) := fun α o α' h σ H g D S P => by
  unfold kSet at h
  split at h
  case h_2 => cases h
  rename_i n α1 et
  split at h
  · cases h
  rename_i δ ei
  cases h
  refine US_of (ps_dput hu (pe_var hN hv hd hcd) pe_str pe_U hs) ?_
  refine ht _ _ _ et σ H g _ S fun v H1 S1 w1 q1 => ?_
  cases q1
  obtain ⟨v0, h3, h4⟩ := dk_seen S1 ei
  refine ⟨_, v0, _, _, rfl, .inl ⟨_, .inr "draws", h3, rfl, ?_, rfl⟩, ?_⟩
  · rw [sizeLine_eq]; show 3 < _; decide
  have ne : g.dk ≠ g.dc := ne_of h3 h4 (by intro z; cases z)
  obtain ⟨S2, w2⟩ := S1.deck (isDk_some ei).2 (δ' := { δ with draws := n }) (a := g.dk) (o := .dK (putK (dkV δ g.dc) (.inr "draws") (.int n))) (.inl rfl) ⟨by rw [upd_same, dkV_put]; rfl, by rw [upd_ne (Ne.symm ne)]; exact h4⟩
  exact P σ _ g S2 (w1.trans w2).g
end
end Pd
end
section
set_option Elab.async false
set_option linter.all false
set_option maxRecDepth 100000
set_option maxHeartbeats 1000000
namespace Pd
open PySem PySem.Spec PyProof.Rows L2

/-! ### looks at scopes -/
def blkC (N : List Str) (sc scope : Scope) (own : List (Str × Nat)) : Bool :=
  decide (scope.kind = .function) && scope.names.all (fun y => decide (scope.names.lookup y.1 = some y.2)) && own.all (fun p => decide (N[p.2]? = some p.1)) &&
  scope.names.all (fun y => !decide (y.2 = .free) || decide (sc.names.lookup y.1 = some .cell) || decide (sc.names.lookup y.1 = some .free)) &&
  scope.names.all (fun y => !(decide (y.2 = .local) || decide (y.2 = .cell)) || (own.map (·.1)).contains y.1 || !N.contains y.1)
theorem blk_by {N : List Str} {sc scope : Scope} {own : List (Str × Nat)} (h : blkC N sc scope own = true) : BlkOk N sc scope own := by
  unfold blkC at h
  simp only [Bool.and_eq_true, decide_eq_true_eq, List.all_eq_true, Bool.or_eq_true, Bool.not_eq_true', decide_eq_false_iff_not, Bool.or_eq_false_iff, List.contains_iff_mem, List.contains_eq_mem] at h
  obtain ⟨⟨⟨⟨h1, h2⟩, h3⟩, h4⟩, h5⟩ := h
  refine ⟨h1, h2, h3, fun y hy e => ?_, fun y hy e => ?_⟩
  · rcases h4 y hy with (q | q) | q
    · exact absurd e q
    · exact .inl q
    · exact .inr q
  · rcases h5 y hy with (q | q) | q
    · exact absurd e fun z => z.elim q.1 q.2
    · exact .inl q
    · exact .inr q
def genC (N : List Str) (sc scope : Scope) (own : List (Str × Nat)) : Bool :=
  decide (scope.kind = .function) && !scope.isCoroutine && scope.names.all (fun y => decide (scope.names.lookup y.1 = some y.2)) && scope.names.all (fun y => !decide (y.2 = .cell)) && decide (scope.names.lookup (".0" : Str) = some NameKind.local) && own.all (fun p => decide (N[p.2]? = some p.1)) &&
  scope.names.all (fun y => !decide (y.2 = .free) || decide (sc.names.lookup y.1 = some .cell) || decide (sc.names.lookup y.1 = some .free)) &&
  scope.names.all (fun y => !decide (y.2 = .local) || (own.map (·.1)).contains y.1 || !N.contains y.1)
theorem gen_by {N : List Str} {sc scope : Scope} {own : List (Str × Nat)} (h : genC N sc scope own = true) : GenOk N sc scope own := by
  unfold genC at h
  simp only [Bool.and_eq_true, decide_eq_true_eq, List.all_eq_true, Bool.or_eq_true, Bool.not_eq_true', decide_eq_false_iff_not, List.contains_eq_mem] at h
  obtain ⟨⟨⟨⟨⟨⟨⟨h1, h2⟩, h3⟩, h4⟩, h5⟩, h6⟩, h7⟩, h8⟩ := h
  refine ⟨h1, h2, h3, h4, h5, h6, fun y hy e => ?_, fun y hy e => ?_⟩
  · rcases h7 y hy with (q | q) | q
    · exact absurd e q
    · exact .inl q
    · exact .inr q
  · rcases h8 y hy with (q | q) | q
    · exact absurd e q
    · exact .inl q
    · exact .inr q
def scC (N ps : List Str) (sc : Scope) : Bool :=
  decide (sc.kind = .function) && !sc.isCoroutine && !sc.isGenerator && decide N.Nodup && decide (N.take ps.length = ps) && ps.all (fun x => decide (sc.names.lookup x = some .local) || decide (sc.names.lookup x = some .cell)) && sc.names.all (fun y => !decide (y.2 = .free))
theorem sc_by {N ps : List Str} {sc : Scope} (h : scC N ps sc = true) : FnScope N ps sc := by
  unfold scC at h
  simp only [Bool.and_eq_true, Bool.not_eq_true', decide_eq_true_eq, List.all_eq_true, Bool.or_eq_true, decide_eq_false_iff_not] at h
  obtain ⟨⟨⟨⟨⟨⟨h1, h2⟩, h3⟩, h4⟩, h5⟩, h6⟩, h7⟩ := h
  exact ⟨h1, h2, h3, h4, h5, h6, h7⟩

/-! ### defs by name -/
/-- how a def binds: some by place, the rest by name, in the order of its parameters; or all by name, backwards -/
def KB (K : PySem.W.Frag) (fd : FuncData) (ps : List Str) : Prop := (∀ (s : Shared) (us ws : List Value), K.In s.heap → us.length + ws.length = ps.length → BindsTo s fd ⟨us, (ps.drop us.length).zip ws⟩ (ps.zip (us ++ ws))) ∧
  ∀ (s : Shared) (ws : List Value), K.In s.heap → ws.length = ps.length → BindsTo s fd ⟨[], ps.reverse.zip ws⟩ (ps.zip ws.reverse)
/-- a def of the text, at its place -/
structure DefD (K : PySem.W.Frag) (mg : Str → Option Value) (x : Str) (st : Stmt) (ps : List Str) : Prop where
  ex : ∃ (f : Addr) (fd : FuncData), Fun K x x st f fd ∧ mg x = some (.ref f) ∧ Binds K fd ps [] ∧ KB K fd ps
/-- a def that is told -/
structure CalD (P : Program) (w : World) (K : PySem.W.Frag) (mg : Str → Option Value) (base : Heap) (tb : Tabs) (k : Nat) (x : Str) (F : FF) : Prop where
  ex : ∃ (f : Addr) (fd : FuncData) (ps : List Str), FnG P w K mg base k f fd ps (spD K tb F) ∧ mg x = some (.ref f) ∧ PySem.W.keepIn K (.ref f) = true ∧ Binds K fd ps []
structure CalK (P : Program) (w : World) (K : PySem.W.Frag) (mg : Str → Option Value) (base : Heap) (tb : Tabs) (k : Nat) (x : Str) (F : FF) (ps : List Str) : Prop where
  ex : ∃ (f : Addr) (fd : FuncData), FnG P w K mg base k f fd ps (spD K tb F) ∧ mg x = some (.ref f) ∧ PySem.W.keepIn K (.ref f) = true ∧ Binds K fd ps [] ∧ KB K fd ps
theorem CalK.c {P : Program} {w : World} {K : PySem.W.Frag} {mg : Str → Option Value} {base : Heap} {tb : Tabs} {k : Nat} {x : Str} {F : FF} {ps : List Str} (c : CalK P w K mg base tb k x F ps) : CalD P w K mg base tb k x F := by
  obtain ⟨f, fd, h1, h2, h3, h4, h5⟩ := c.ex
  exact ⟨f, fd, ps, h1, h2, h3, h4⟩
theorem calD {P : Program} {w : World} {K : PySem.W.Frag} {mg : Str → Option Value} {base : Heap} {tb : Tabs} {k : Nat} {x : Str} {st : Stmt} {N ps : List Str} {body : MS} (D : DefD K mg x st ps) (S : FnScope N ps (defScope st))
    (h : ∀ (f : Addr) (cdv : Value) (A : Around) (outer : List Env) (s : Shared) (H : Hp) (E : XK), RoomG k (A.deeper (envOfC x (defScope st) s.heap.objs.size f cdv)) → RSs (cxOf CX0 P w K mg base N x (defScope st) f cdv A outer s H E).nox tb (defBody st) body) :
    CalK P w K mg base tb (k + 1) x (fAr ps.length (fOf N.length body)) ps := by
  obtain ⟨f, fd, F, hm, hb, hkb⟩ := D.ex
  exact ⟨f, fd, fnG_data F S fun cdv A outer s H E hr => h f cdv A outer s H E hr, hm, F.kp, hb, hkb⟩
/-- a def with generator expressions: its code object stands in the list -/
structure DefT (K : PySem.W.Frag) (mg : Str → Option Value) (base : Heap) (tb : Tabs) (x : Str) (st : Stmt) (ps : List Str) : Prop where
  ex : ∃ (f : Addr) (fd : FuncData) (c P' : Addr) (oc : Value) (od : Option Addr) (kV doc pm : Value) (an : Option Addr) (ct : Value) (osl : Array (Option Value)),
    fd = PySem.W.fnOf x x (defArgs st) (defBody st) (defScope st) .none kV doc pm an (.ref c) ct ∧ K.lookup f = some ⟨oc, od, .func fd, osl⟩ ∧ PySem.W.codeIn K (.ref c) x = true ∧ PySem.W.keepIn K (.ref f) = true ∧ mg x = some (.ref f) ∧ Binds K fd ps [] ∧ KB K fd ps ∧ (c, P') ∈ tb ∧ GxR.TabB base mg c P'
theorem calT {P : Program} {w : World} {K : PySem.W.Frag} {mg : Str → Option Value} {base : Heap} {tb : Tabs} {k : Nat} {x : Str} {st : Stmt} {N ps : List Str} {body : MS} (D : DefT K mg base tb x st ps) (S : FnScope N ps (defScope st))
    (h : ∀ (f c P' : Addr) (A : Around) (outer : List Env) (s : Shared) (H : Hp) (E : XK), (c, P') ∈ tb → GxR.TabB base mg c P' → RoomG k (A.deeper (envOfC x (defScope st) s.heap.objs.size f (.ref c))) → RSs (cxOf CX0 P w K mg base N x (defScope st) f (.ref c) A outer s H E).nox tb (defBody st) body) :
    CalK P w K mg base tb (k + 1) x (fAr ps.length (fOf N.length body)) ps := by
  obtain ⟨f, fd, c, P', oc, od, kV, doc, pm, an, ct, osl, rfl, lk, hcd, kp, hm, hb, hkb, hP, TB⟩ := D.ex
  have arL : ∀ {as δ r}, fAr ps.length (fOf N.length body) as δ = some r → as.length = ps.length ∧ fOf N.length body as δ = some r := fun {as δ r} e => by
    unfold fAr at e
    split at e
    · rename_i q; exact ⟨q, e⟩
    · cases e
  have hpl : ps.length ≤ N.length := by have := congrArg List.length S.pre; rw [List.length_take] at this; omega
  refine ⟨f, _, fnG_of lk hcd S (fun vs H Q E ⟨as, δ, δ', r, g, e, _, hl, _⟩ => by rw [hl]; exact (arL e).1) fun A outer s H vs Q E hr ⟨as, δ, δ', r, g, e, ha, hl, S0, k⟩ => ?_, hm, kp, hb, hkb⟩
  obtain ⟨hn, e⟩ := arL e
  obtain ⟨S1, E1⟩ := S0.start (N := N) (by omega) ha
  refine USs.nox ?_
  unfold fOf at e
  split at e
  · rename_i d α eb
    cases e
    exact h f c P' A outer s H E hP TB hr _ _ _ eb _ H g _ S1 fun v H' g' S2 G q => k v H' g' S2 ⟨G.O, G.dk, G.dc, E1.trans G.ext, G.out⟩ q
  · rename_i α eb
    cases e
    refine h f c P' A outer s H E hP TB hr _ _ _ eb _ H g _ S1 fun σ' H' g' S2 G => ?_
    obtain ⟨S3, E3⟩ := S2.leave
    exact k _ H' g' S3 ⟨G.O, G.dk, G.dc, E1.trans (G.ext.trans E3), G.out⟩ .non
  · cases e
section
variable {X : Cx} {tb : List (Addr × Addr)} {e : Expr} {es : List Expr} {ts : M (List Sl)} {pos p : Pos} {x : Str} {k j : Nat} {F : FF}
theorem re_c (c : CalD X.prog X.w X.K X.mg X.base tb k x F) (hr : RoomG j X.A) (ha : RC X tb (e :: es) ts) (hk : k ≤ j := by decide) (hg : Gl X x := by rfl)
    (hdb : (x == ("__debug__" : Str)) = false := by decide) (he : starEach (e :: es) X.env = (false, eval e X.env) :: starEach es X.env := by rfl) (hpl : (backTo pos (starEach es X.env)).any (·.1) = false := by rfl) :
    RE X tb (.Call (.Name x p) (e :: es) [] pos) (mCallFn F ts) := by
  obtain ⟨f, fd, ps, FG, hm, hkp, hb⟩ := c.ex
  exact re_fn FG (hr.mono hk) hg hm hkp hb ha hdb he hpl
end
theorem room65 {k : Nat} {A : Around} (r : RoomG k A) : A.units + 65 < cLine := by have := r.un; omega
theorem room1 {k : Nat} {A : Around} (r : RoomG k A) : A.units + 1 < cLine := by have := r.un; omega
theorem room0 {k : Nat} {A : Around} (r : RoomG k A) : A.units < cLine := by have := r.un; omega
end Pd
end
section
set_option Elab.async false
set_option linter.all false
set_option maxRecDepth 100000
set_option maxHeartbeats 1000000
namespace Pd
open PySem PySem.Spec PyProof.Rows L2

/-! ### more of comparisons -/
def mChain (f f' : PyData → PyData → Option Bool) (t1 t2 t3 : M PyData) : M Bool := mb t1 fun d1 => mb t2 fun d2 => mb (mo (f d1 d2)) fun b => bif b then mb t3 fun d3 => mo (f' d2 d3) else mr false
section
variable {X : Cx} {tb : List (Addr × Addr)} {e e1 e2 e3 : Expr} {t t1 t2 t3 : M PyData} {pos p p1 p2 p3 : Pos} {x : Str}
theorem re_chain {op op' : CmpOp} {f f' : PyData → PyData → Option Bool} (ho : OpB X (compareOp op) f) (ho' : OpB X (compareOp op') f') (h1 : RE X tb e1 t1) (h2 : RE X tb e2 t2) (h3 : RE X tb e3 t3) (hm : lastMarks [op, op'] [e2, e3] = false := by with_unfolding_all rfl) :
    RE X tb (.Compare e1 [op, op'] [e2, e3] p) (mB (mChain f f' t1 t2 t3)) := fun α d α' h σ H g Q S k => by
  obtain ⟨b0, α4, h, h'⟩ := mb_some h
  cases h'
  obtain ⟨d1, α1, k1, h⟩ := mb_some h
  obtain ⟨d2, α2, k2, h⟩ := mb_some h
  obtain ⟨b, α3, k3, h⟩ := mb_some h
  obtain ⟨hf, rfl⟩ := mo_some k3
  obtain ⟨r, hr, hq⟩ := ho d1 d2 b hf
  cases b with
  | false =>
    cases h
    refine U_of (pe_chain (r' := fun _ _ _ _ => False) hr (fun _ _ _ _ _ _ _ _ _ _ _ _ z => z.elim) pe_U pe_U (tc := U X e3) pe_U hm) ?_
    refine h1 _ _ _ k1 σ H g _ S fun v H1 S1 w1 q1 => h2 _ _ _ k2 σ H1 g _ S1 fun u H2 S2 w2 q2 => ?_
    refine hq H2 v u _ (rp_un (dp_ext w2.ext _ _ q1)) (rp_un q2) ⟨false, rfl, ?_⟩
    rw [if_neg (by decide)]
    exact k _ H2 S2 (w1.trans w2) (.bl _)
  | true =>
    simp only [cond_true] at h
    obtain ⟨d3, α5, k5, h⟩ := mb_some h
    obtain ⟨hf', rfl⟩ := mo_some h
    obtain ⟨r', hr', hq'⟩ := ho' d2 d3 b0 hf'
    refine U_of (pe_chain hr hr' pe_U pe_U pe_U hm) ?_
    refine h1 _ _ _ k1 σ H g _ S fun v H1 S1 w1 q1 => h2 _ _ _ k2 σ H1 g _ S1 fun u H2 S2 w2 q2 => ?_
    refine hq H2 v u _ (rp_un (dp_ext w2.ext _ _ q1)) (rp_un q2) ⟨true, rfl, ?_⟩
    rw [if_pos rfl]
    refine h3 _ _ _ k5 σ H2 g _ S2 fun z H3 S3 w3 q3 => ?_
    exact hq' H3 u z _ (rp_un (dp_ext w3.ext _ _ q2)) (rp_un q3) (k _ H3 S3 ((w1.trans w2).trans w3) (.bl _))
theorem re_cmpP {op : CmpOp} {f : PyData → PyData → Option Bool} (ho : OpB X (compareOp op) f) (i : Nat) (h2 : RE X tb e2 t2) (hm : behindInMarks op e2 = false := by first | exact nobehind _ (by decide) (by decide) | rfl)
    (hN : X.N[i]? = some x := by rfl) (hv : Vis X.env.scope x := by first | exact Or.inl rfl | exact Or.inr (Or.inl rfl) | exact Or.inr (Or.inr rfl)) (hd : (x == ("__debug__" : Str)) = false := by decide)
    (hcd : (x == ("__classdict__" : Str)) = false := by decide) : RE X tb (.Compare (.Name x p1) [op] [e2] p) (mB (m2bP f i t2)) := fun α d α' h σ H g Q S k => by
  obtain ⟨b0, α4, h, h'⟩ := mb_some h
  cases h'
  unfold m2bP at h
  cases hp : peek i α with
  | none => rw [hp] at h; cases h
  | some d0 =>
    rw [hp] at h
    obtain ⟨d2, α2, k2, h⟩ := mb_some h
    cases hp2 : peek i α2 with
    | none => simp only [hp2] at h; cases h
    | some d1 =>
      simp only [hp2] at h
      obtain ⟨hf, rfl⟩ := mo_some h
      obtain ⟨r, hr, hq⟩ := ho d1 d2 b0 hf
      obtain ⟨v, e1, _⟩ := S.peek hp
      refine U_of (pe_cmpR hr (pe_var hN hv hd hcd) pe_U hm) ?_
      refine ⟨v, e1, h2 _ _ _ k2 σ H g _ S fun u H2 S2 w2 q2 => ?_⟩
      obtain ⟨v', e2, q1⟩ := S2.peek hp2
      cases e1.symm.trans e2
      exact hq H2 v u _ q1 (rp_un q2) (k _ H2 S2 w2 (.bl _))
theorem re_globI {i : Int} (h : ∃ t, X.mg x = some (.int i t)) (hg : Gl X x := by rfl) (hd : (x == ("__debug__" : Str)) = false := by decide) : RE X tb (.Name x p) (mr (.int i)) := by
  obtain ⟨t, h⟩ := h
  exact re_glob (v := V.int i) h ⟨t, rfl⟩ (fun _ => .int i) hg hd
/-- isinstance, from the table of built-in types -/
def KitD (K : PySem.W.Frag) : Prop := ∀ d T b, isOf T d = some b → PySem.W.kitOne K (.type (match d with | .none => "NoneType" | .bool _ => "bool" | .int _ => "int" | .str _ => "str" | .tuple _ => "tuple" | .list _ => "list" | .dict _ => "dict")) (.type T) = some b
theorem re_isD {T : Str} {Tn : String} (KD : KitD X.K) (hm : X.mg "isinstance" = none) (hmT : X.mg T = none) (hvT : bootBuiltins T = some (.type Tn)) (h1 : RE X tb e1 t1) (hg : Gl X "isinstance" := by rfl) (hgT : Gl X T := by rfl)
    (hn : T ≠ "__name__" := by decide) (hdb : (T == ("__debug__" : Str)) = false := by decide) (na : starEach [e1, .Name T p2] X.env = (false, eval e1 X.env) :: starEach [.Name T p2] X.env := by rfl) (nb : starEach [.Name T p2] X.env = (false, eval (.Name T p2) X.env) :: starEach [] X.env := by rfl)
    (hpl : (backTo p (starEach [.Name T p2] X.env)).any (·.1) = false := by rfl) : RE X tb (.Call (.Name "isinstance" p1) [e1, .Name T p2] [] p) (m1 (fun d => (isOf Tn d).map .bool) t1) := fun α d α' h σ H g Q S k => by
  obtain ⟨d1, α1, k1, h⟩ := mb_some h
  obtain ⟨hf, rfl⟩ := mo_some h
  obtain ⟨b, hb, rfl⟩ := Option.map_eq_some_iff.mp hf
  have hk := KD _ _ _ hb
  refine U_of (pe_callB call_isi hg hm (by decide +kernel) (pa_cons pe_U (pa_cons (pe_bltn (v := .ty Tn) hgT hmT hvT rfl hn hdb) pa_nil nb) na) (by decide) (by decide) na hpl) ?_
  refine h1 _ _ _ k1 σ H g _ S fun v H1 S1 w1 q1 => ?_
  have q1 := rp_un q1
  cases q1 with
  | non => exact ⟨_, _, _, _, b, rfl, .ty Tn, .base .non, hk, k _ H1 S1 w1 (.bl _)⟩
  | bl c => exact ⟨_, _, _, _, b, rfl, .ty Tn, .base (.bl _), hk, k _ H1 S1 w1 (.bl _)⟩
  | int i => exact ⟨_, _, _, _, b, rfl, .ty Tn, .base (.int _), hk, k _ H1 S1 w1 (.bl _)⟩
  | str z => exact ⟨_, _, _, _, b, rfl, .ty Tn, .base (.str _), hk, k _ H1 S1 w1 (.bl _)⟩
  | lst hh r => exact ⟨_, _, _, _, b, rfl, .ty Tn, .base (.lst hh), hk, k _ H1 S1 w1 (.bl _)⟩
  | tup hh r => exact ⟨_, _, _, _, b, rfl, .ty Tn, .base (.tup hh), hk, k _ H1 S1 w1 (.bl _)⟩
end
theorem bt_len : bootBuiltins "len" = some (.builtin "len") := by decide +kernel
theorem bt_int : bootBuiltins "int" = some (.type "int") := by decide +kernel
theorem bt_bool : bootBuiltins "bool" = some (.type "bool") := by decide +kernel
theorem bt_str : bootBuiltins "str" = some (.type "str") := by decide +kernel
theorem bt_list : bootBuiltins "list" = some (.type "list") := by decide +kernel
theorem bt_tuple : bootBuiltins "tuple" = some (.type "tuple") := by decide +kernel
theorem bt_min : bootBuiltins "min" = some (.builtin "min") := by decide +kernel
theorem bt_max : bootBuiltins "max" = some (.builtin "max") := by decide +kernel
theorem bt_sorted : bootBuiltins "sorted" = some (.builtin "sorted") := by decide +kernel
theorem bt_repr : bootBuiltins "repr" = some (.builtin "repr") := by decide +kernel
/-- the built-ins stand as they were -/
structure Blt (mg : Str → Option Value) : Prop where
  no : ∀ x ∈ (["len", "int", "bool", "str", "list", "tuple", "min", "max", "sorted", "repr", "range", "zip", "enumerate", "all", "isinstance", "set", "sum", "dict"] : List Str), mg x = none
/-- repr of data -/
def dRepr : List PyData → Option PyData
  | [d] => if d.showable = true ∧ d.hasDict = false ∧ d.depth ≤ 64 ∧ d.shown.length ≤ 16777216 then some (.str d.shown) else none
  | _ => none
end Pd
end
section
set_option Elab.async false
set_option linter.all false
set_option maxRecDepth 100000
set_option maxHeartbeats 1000000
namespace Pd
open PySem PySem.Spec PyProof.Rows L2

/-! ### repr -/
def rRep (K : PySem.W.Frag) : List V → Hp → VK → Prop := fun xs H Q => ∃ x d, xs = [x] ∧ Rp K H x d ∧ d.showable = true ∧ d.hasDict = false ∧ d.depth ≤ 64 ∧ d.shown.length ≤ sizeLine ∧ Q (.str d.shown) H
theorem call_repr {X : Cx} {k : Nat} (hr : RoomG k X.A) : CallR X (.builtin "repr") (rRep X.K) := by
  intro pins s σ H xs us Q I r h
  obtain ⟨x, d, rfl, hd, hs, hh, h64, hz, q⟩ := h
  obtain ⟨u, rfl, ru⟩ := vals1 r
  have hu := hr.un
  have rf : ∀ a, u = .ref a → wpAny (model X.prog X.w) X.A (call (.builtin "repr") [u]) (EP X pins σ Q) X.xe s := fun a ea => by
    obtain ⟨as, rd⟩ := Dp.reads I d x u (rp_dp _ _ hd) ru
    subst ea
    refine PySem.repr_of_reads' rd hs (fun z => by rw [hh] at z; cases z) hr.gd (by omega) (fun _ _ e => e) (fun h' u tk hk => ?_) hz
    exact ⟨.str d.shown, H, I.kept (t' := tk) hk, ⟨_, rfl⟩, q⟩
  cases hd with
  | non => cases ru; exact PySem.P.repr_of_none ⟨.str _, H, I.tok _, ⟨_, rfl⟩, q⟩
  | bl b =>
    cases ru
    exact PySem.P.repr_of_bool ⟨.str (PyData.shown (.bool b)), H, I.tok _, ⟨s.toks, by cases b <;> rfl⟩, q⟩
  | int i =>
    obtain ⟨t, rfl⟩ := ru
    refine PySem.P.repr_of_int (by simpa [PyData.showable] using hs) ⟨.str (PyData.shown (.int i)), H, I.tok _, ⟨_, rfl⟩, q⟩
  | str x =>
    obtain ⟨t, rfl⟩ := ru
    exact PySem.P.repr_of_str ⟨.str (PyData.shown (.str x)), H, I.tok _, ⟨_, rfl⟩, q⟩ hz
  | lst hh r => exact rf _ ru
  | tup hh r => exact rf _ ru
theorem cd_repr {X : Cx} {tb : Tabs} {k : Nat} (hr : RoomG k X.A) : CallD X tb (.builtin "repr") dRepr := by
  intro ds d e
  match ds, e with
  | [d0], e =>
    obtain ⟨⟨c1, c2, c3, c4⟩, rfl⟩ := ite_some e
    refine ⟨_, call_repr hr, fun α g σ H vs Q S q k => ?_⟩
    cases q with
    | cons q r => cases r; exact ⟨_, d0, rfl, rp_un q, c1, c2, c3, by rw [sizeLine_eq]; exact c4, k _ H S (Mv.refl _ g H) (.str _)⟩
end Pd
end
section
set_option Elab.async false
set_option linter.all false
set_option maxRecDepth 100000
set_option maxHeartbeats 2000000
namespace PySem
open PySem PySem.Spec PyProof.Rows L2 SrtO Srt PySem.F
section
variable {prog : Program} {w : World} {A : Around} {s : Shared} {E : Value → Shared → Prop}
/-- sorted(u), by what is collected of u -/
theorem sorted_items {u : Value} {Q : Value → Shared → Prop}
    (hcol : wpAny (model prog w) A.in1 (collect u) (fun its s1 => its.length ≤ sizeLine ∧ ∃ ltv : Value → Value → Bool, Swo ltv ∧
      (2 ≤ its.length → ∀ (h₁ : Heap) (a : Addr), h₁.get? a = some (seqObj "list" its.toArray 0) → (∀ b o, s1.heap.get? b = some o → b ≠ a ∧ h₁.get? b = some o) → SortableO prog w A.in1.in1 { s1 with heap := h₁ } a its ltv) ∧
      ∀ out : List Value, Srtd ltv out → Stb ltv out its → ∀ (h' : Heap) (d : Addr), (∀ b o, s1.heap.get? b = some o → h'.get? b = some o) → s1.heap.objs.size ≤ d → (∃ n, h'.get? d = some (seqObj "list" out.toArray n)) → Q (.ref d) { s1 with heap := h' }) E s) :
    wpAny (model prog w) A (call (.builtin "sorted") [u]) Q E s := by
  refine Calls.call_function_entry kind_sorted plain_sorted entry_sorted (args_sorted1 _) ?_
  unfold Builtin.«sorted»
  refine wpAny_bind (m := checkCount "sorted" 1 1 _) (wpAny_pure ?_)
  refine wpAny_bind (wpAny_mono hcol (fun its s1 hh => ?_) fun _ _ z => z)
  obtain ⟨hz, ltv, O, hS, h⟩ := hh
  refine wpAny_bind (wpAny_newList ?_ hz)
  have hoL : (s1.heap.push (seqObj "list" its.toArray 0)).get? s1.heap.objs.size = some (seqObj "list" its.toArray 0) := Heap.get?_push_size _ rfl
  have keep : ∀ b o, s1.heap.get? b = some o → b ≠ s1.heap.objs.size ∧ (s1.heap.push (seqObj "list" its.toArray 0)).get? b = some o := fun b o q => ⟨Nat.ne_of_lt (Heap.lt_size q), Heap.get?_push_of_some _ q⟩
  show wpAny _ _ _ _ _ { s1 with heap := s1.heap.push (seqObj "list" its.toArray 0) }
  refine wpAny_bind (wpAny_holding (wpAny_call_entry PyProof.Rows.slot_list_sort ⟨_, hoL, rfl⟩ PyProof.Rows.entry_list_sort (list_sort_ord O hoL hz (fun h2 => hS h2 _ _ hoL keep) fun out hs hb => ⟨_, rfl, ?_⟩) (args_list_sort _)))
  refine wpAny_pure ⟨_, rfl, ?_⟩
  obtain ⟨ep, he'⟩ := PyProof.Rows.sortedHeap_at (vs := its) (out := out.toArray) hoL
  refine h out hs hb _ _ (fun b o q => ?_) (Nat.le_refl _) ⟨_, he'⟩
  rw [PyProof.Rows.sortedHeap_old (keep b o q).1 (Heap.lt_size (keep b o q).2)]
  exact (keep b o q).2
end
end PySem
end
section
set_option Elab.async false
set_option linter.all false
set_option maxRecDepth 100000
set_option maxHeartbeats 2000000
namespace Pd
open PySem PySem.Spec PyProof.Rows L2 SrtO Srt

/-! ### rows of rows of ints, sorted -/
def IsTI (h : Heap) (v : Value) (ns : List Int) : Prop := ∃ (a : Addr) (xs : Array Value) (o : Obj) (n : Nat), v = .ref a ∧ h.get? a = some o ∧ o.cls = .type "tuple" ∧ o.data = .seq xs n ∧ IntsAre xs.toList ns
theorem ints_uniq : ∀ {vs : List Value} {ns ms : List Int}, IntsAre vs ns → IntsAre vs ms → ns = ms
  | _, _, _, .nil, .nil => rfl
  | _, _, _, .cons n t r, .cons _ _ r' => congrArg (n :: ·) (ints_uniq r r')
theorem IsTI.uniq {h : Heap} {v : Value} {ns ms : List Int} (a : IsTI h v ns) (b : IsTI h v ms) : ns = ms := by
  obtain ⟨a1, xs, o, n, rfl, h1, h2, h3, h4⟩ := a
  obtain ⟨a2, ys, o2, n2, e, k1, k2, k3, k4⟩ := b
  cases e
  rw [h1] at k1
  cases k1
  rw [h3] at k3
  cases k3
  exact ints_uniq h4 k4
theorem IsTI.keeps {h h' : Heap} {v : Value} {ns : List Int} (p : IsTI h v ns) (k : ∀ b o, h.get? b = some o → o.cls = .type "tuple" → h'.get? b = some o) : IsTI h' v ns := by
  obtain ⟨a1, xs, o, n, rfl, h1, h2, h3, h4⟩ := p
  exact ⟨a1, xs, o, n, rfl, k _ _ h1 h2, h2, h3, h4⟩
section
variable {prog : Program} {w : World} {A : Around} {s : Shared} {E : Value → Shared → Prop}
theorem lex_rows {Q : Bool → Shared → Prop} : ∀ {xs ys : List Value} {ns ms : List Int} (i : Nat), IntsAre xs ns → IntsAre ys ms → Q (HT.lexLt ns ms) s → PySem.W.KatLex prog w A true (decide (ns.length < ms.length)) Q (xs.zip ys) i s
  | [], ys, _, ms, i, .nil, h2, q => by
    rw [List.zip_nil_left]
    refine PySem.W.kat_nil ?_
    cases h2 with
    | nil => rw [HT.lexLt_nil_nil] at q; exact q
    | cons m t r => rw [HT.lexLt_nil_cons] at q; exact q
  | _ :: _, [], _, _, i, .cons n t r, .nil, q => by
    rw [List.zip_nil_right]
    refine PySem.W.kat_nil ?_
    rw [HT.lexLt_cons_nil] at q
    exact q
  | _ :: _, _ :: _, _, _, i, .cons (ns := ns) n t r, .cons (ns := ms) m u r', q => by
    rw [List.zip_cons_cons]
    rw [HT.lexLt_cons] at q
    refine PySem.W.kat_cons (SeqAt.EqAt.int_int n t m u prog w _ _ ?_)
    refine PySem.W.kat_go (fun e1 => ?_) (fun e1 => ?_)
    · have ex : n = m := by simpa using e1
      rw [if_pos ex] at q
      have := lex_rows (i + 1) r r' q
      refine PySem.W.kat_yes ?_
      have el : decide ((n :: ns).length < (m :: ms).length) = decide (ns.length < ms.length) := by
        rw [List.length_cons, List.length_cons]
        exact decide_eq_decide.mpr Nat.succ_lt_succ_iff
      rw [el]
      exact this
    · have ex : ¬ n = m := by simpa using e1
      rw [if_neg ex] at q
      refine PySem.W.kat_no ?_
      cases i with
      | zero => exact oneLt_int q
      | succ i =>
        show wpAny (model prog w) A (oneLt' (true && (i + 1 == 0)) _ _) Q (fun _ _ => False) s
        have : (true && (i + 1 == 0)) = false := by simp
        rw [this]
        exact PySem.W.kat_one _ _ (PyProof.Rows.lt_int q)
theorem rows_firsts {h : Heap} : ∀ {vs : List Value}, (∀ v ∈ vs, ∃ ns, IsTI h v ns ∧ ns ≠ []) → ∃ fs : List Value, PySem.W.KatTups h vs fs ∧ fs.length = vs.length ∧ ∀ f ∈ fs, ∃ x t, f = Value.int x t
  | [], _ => ⟨[], PySem.W.KatTups.nil, rfl, fun _ hm => by simp at hm⟩
  | v :: vs, hp => by
    obtain ⟨fs, h1, h2, h3⟩ := rows_firsts (vs := vs) fun v' hm => hp v' (List.mem_cons_of_mem _ hm)
    obtain ⟨ns, ⟨a, xs, o, n, rfl, ho, hc, hd, hi⟩, hne⟩ := hp v List.mem_cons_self
    obtain ⟨x, t, r, ex⟩ : ∃ x t r, xs.toList = Value.int x t :: r := by
      generalize xs.toList = l at hi
      cases hi with
      | nil => exact absurd rfl hne
      | cons n t r => exact ⟨n, t, _, rfl⟩
    have hx : xs[0]? = some (Value.int x t) := by
      rw [← Array.getElem?_toList, ex]; rfl
    refine ⟨.int x t :: fs, PySem.W.KatTups.cons ho hc hd hx h1, by rw [List.length_cons, List.length_cons, h2], fun f hm => ?_⟩
    rcases List.mem_cons.mp hm with rfl | hm
    · exact ⟨x, t, rfl⟩
    · exact h3 f hm
theorem rows_cmp {vs : List Value} {k : Value → List Int} (hp : ∀ v ∈ vs, IsTI s.heap v (k v)) : Cmp prog w A s (tuples' true) (fun p => p.1 ∈ vs) (lt2 fun v u => HT.lexLt (k v) (k u)) := by
  intro p q hm hm'
  have h1 := hp _ hm
  have h2 := hp _ hm'
  show wpAny (model prog w) A (keyLt' (tuples' true) p.1 q.1) (fun r s' => s' = s ∧ r = HT.lexLt (k p.1) (k q.1)) (fun _ _ => False) s
  generalize k p.1 = x at h1 ⊢
  generalize k q.1 = y at h2 ⊢
  obtain ⟨a, xs, o, n, e, ho, hc, hd, hi⟩ := h1
  obtain ⟨a', ys, o', n', e', ho', hc', hd', hi'⟩ := h2
  rw [e, e']
  refine PySem.W.kat_lt ho hd ho' hd' ?_
  have el : decide (xs.size < ys.size) = decide (x.length < y.length) := by
    have l1 := hi.length
    have l2 := hi'.length
    rw [Array.length_toList] at l1 l2
    rw [l1, l2]
  rw [el]
  exact lex_rows 0 hi hi' ⟨rfl, rfl⟩
theorem rows_sortable {a : Addr} {vs : List Value} {k : Value → List Int} (h0 : 0 < vs.length) (hp : ∀ v ∈ vs, IsTI s.heap v (k v)) (hne : ∀ v ∈ vs, k v ≠ []) (ha : ∀ o, s.heap.get? a = some o → o.cls ≠ .type "tuple") : SortableO prog w A s a vs fun v u => HT.lexLt (k v) (k u) := by
  intro h' keep
  have hp' : ∀ v ∈ vs, IsTI h' v (k v) := fun v hm => (hp v hm).keeps fun b o e c => keep b o (fun z => by subst z; exact ha o e c) e
  obtain ⟨fs, h1, h2, h3⟩ := rows_firsts fun v hm => ⟨_, hp' v hm, hne v hm⟩
  refine ⟨tuples' true, fun Q E hq => ?_, rows_cmp hp'⟩
  refine PySem.W.kat_kind (T := .type "int") h1 (by omega) (fun f hm => ?_) (by rfl) ?_
  · obtain ⟨x, t, rfl⟩ := h3 f hm
    exact PySem.W.Looks.now
  · have e : (Value.type "int" != Value.type "tuple") = true := by first | decide +kernel | rfl | decide
    rw [e]
    exact hq
end
end Pd
end
section
set_option Elab.async false
set_option linter.all false
set_option maxRecDepth 100000
set_option maxHeartbeats 2000000
namespace Pd
open PySem PySem.Spec PyProof.Rows L2 SrtO Srt PySem.W

/-! ### rows of ints among which is an empty one, sorted -/
section
variable {prog : Program} {w : World} {A : Around} {s : Shared} {E : Value → Shared → Prop}
theorem lt_one {v u : Value} {ns ms : List Int} {Q : Bool → Shared → Prop} (hu : A.units < cLine) (hv : IsTI s.heap v ns) (hw : IsTI s.heap u ms) (f : Bool) (h : Q (HT.lexLt ns ms) s) : wpAny (model prog w) A (oneLt' f v u) Q E s := by
  obtain ⟨a, xs, ⟨cls, dd, data, sl⟩, n, rfl, ho, hc, hd, hi⟩ := hv
  obtain ⟨b, ys, ⟨cls2, dd2, data2, sl2⟩, n2, rfl, ho2, hc2, hd2, hj⟩ := hw
  simp only at hc hd hc2 hd2
  subst hc hd hc2 hd2
  rw [oneLt'_eq]
  cases f with
  | true =>
    simp only [if_true]
    refine wpAny_bind (wpAny_cRoomFor hu ?_)
    refine wpAny_bind (wpAny_callSpecialIfBound?_slot ⟨_, ho, rfl⟩ PySem.F.slot_tuple_lt ?_)
    refine call_meets PySem.F.slot_tuple_lt ⟨_, ho, rfl⟩ PySem.F.entry_tuple_lt (PySem.F.args_tuple_lt_2 _ _) (HT.tuple_lt_ints a b xs ys n n2 dd dd2 sl sl2 ns ms hi hj) ⟨ho, ho2, ?_⟩
    exact wpAny_truthy_bool h
  | false =>
    simp only [Bool.false_eq_true, if_false]
    refine wpAny_bind (HT.lt_tupInts ⟨_, ho, rfl, n, rfl⟩ ⟨_, ho2, rfl, n2, rfl⟩ hi hj hu ?_)
    exact wpAny_truthy_bool h
theorem firstE {v : Value} {ns : List Int} (hv : IsTI s.heap v ns) {Q : Option Value → Shared → Prop} (h : ∀ o, (o.isSome = true ↔ ns ≠ []) → Q o s) : wpAny (model prog w) A (firstOfTuple' v) Q E s := by
  obtain ⟨a, xs, o, n, rfl, ho, hc, hd, hi⟩ := hv
  rw [kas_first_eq]
  refine wpAny_bind (Looks.here (show Looks (model prog w) s.heap (typeOf (.ref a)) o.cls from (Looks.ld ho).andThen .now) ?_)
  rw [hc, if_neg (by first | decide | simp)]
  refine wpAny_bind (listItems_at ho hd (wpAny_pure (h _ ?_)))
  rw [← Array.getElem?_toList]
  generalize xs.toList = l at hi
  cases hi with
  | nil => simp
  | cons n t r => simp
theorem firstsE {k : Value → List Int} : ∀ (vs : List Value) {Q : List (Option Value) → Shared → Prop}, (∀ v ∈ vs, IsTI s.heap v (k v)) → (∀ fs : List (Option Value), fs.map Option.isSome = vs.map (fun v => decide (k v ≠ [])) → Q fs s) → wpAny (model prog w) A (vs.mapM firstOfTuple') Q E s
  | [], _, _, h => by rw [List.mapM_nil]; exact wpAny_pure (h [] rfl)
  | v :: vs, Q, hp, h => by
    rw [List.mapM_cons]
    refine wpAny_bind (firstE (hp v List.mem_cons_self) fun o ho => wpAny_bind (firstsE vs (fun u hu => hp u (List.mem_cons_of_mem _ hu)) fun fs hf => wpAny_pure (h (o :: fs) ?_)))
    rw [List.map_cons, List.map_cons, hf]
    congr 1
    cases o with
    | none =>
      have : ¬ k v ≠ [] := fun z => by have := ho.mpr z; cases this
      exact (decide_eq_false this).symm
    | some x => exact (decide_eq_true (ho.mp rfl)).symm
theorem kindE {k : Value → List Int} {v0 : Value} {vs : List Value} (hp : ∀ v ∈ v0 :: vs, IsTI s.heap v (k v)) (he : ∃ v ∈ v0 :: vs, k v = []) {Q : SortKind → Shared → Prop} (h : Q (if k v0 = [] then oneType' else general') s) : wpAny (model prog w) A (keyKind' (v0 :: vs).toArray) Q E s := by
  rw [keyKind'_eq, List.mapM_toArray, map_eq_pure_bind]
  refine wpAny_bind (wpAny_bind (firstsE (k := k) (v0 :: vs) hp fun fs hf => wpAny_pure ?_))
  have hna : ¬ (fs.toArray.all fun x => x.isSome) = true := by
    intro z
    obtain ⟨v, hv, e⟩ := he
    have z1 : ∀ x ∈ fs.map Option.isSome, x = true := by
      intro x hx
      obtain ⟨y, hy, rfl⟩ := List.mem_map.mp hx
      rw [List.all_toArray, List.all_eq_true] at z
      exact z y hy
    rw [hf] at z1
    have := z1 _ (List.mem_map.mpr ⟨v, hv, rfl⟩)
    simp [e] at this
  rw [if_neg hna]
  cases fs with
  | nil => cases hf
  | cons f0 fs =>
  have hf0 : f0.isSome = decide (k v0 ≠ []) := (List.cons.inj hf).1
  have e0 : ((f0 :: fs).toArray[0]?.bind id) = f0 := by simp
  rw [e0, hf0]
  by_cases hk : k v0 = []
  · rw [if_pos hk] at h
    rw [if_neg (by simp [hk])]
    rw [oneTypeOnly'_eq, List.mapM_toArray, map_eq_pure_bind]
    refine wpAny_bind (wpAny_bind (wpAny_bind (kas_mapM (r := Value.type "tuple") _ (fun v hv Q' hq => ?_) (wpAny_pure ?_))))
    · obtain ⟨a, xs, o, n, rfl, ho, hc, hd, hi⟩ := hp v hv
      refine Looks.here (show Looks (model prog w) s.heap (typeOf (.ref a)) o.cls from (Looks.ld ho).andThen .now) ?_
      rw [hc]
      exact hq
    · have hall : ((List.map (fun _ => Value.type "tuple") (v0 :: vs)).toArray.all fun x => x == Value.type "tuple") = true := by
        simp only [List.all_toArray, List.all_map, List.all_eq_true]
        intro _ _
        rfl
      have h0 : (List.map (fun _ => Value.type "tuple") (v0 :: vs)).toArray[0]? = some (Value.type "tuple") := by simp
      rw [h0]
      simp only [hall, if_true]
      exact wpAny_pure (wpAny_pure h)
  · rw [if_neg hk] at h
    rw [if_pos (by simp [hk])]
    exact wpAny_pure h
theorem rows_sortableE {a : Addr} {vs : List Value} {k : Value → List Int} (hu : A.units < cLine) (h0 : 0 < vs.length) (hp : ∀ v ∈ vs, IsTI s.heap v (k v)) (he : ∃ v ∈ vs, k v = []) (ha : ∀ o, s.heap.get? a = some o → o.cls ≠ .type "tuple") : SortableO prog w A s a vs fun v u => HT.lexLt (k v) (k u) := by
  intro h' keep
  have hp' : ∀ v ∈ vs, IsTI h' v (k v) := fun v hm => (hp v hm).keeps fun b o e c => keep b o (fun z => by subst z; exact ha o e c) e
  cases vs with
  | nil => cases h0
  | cons v0 vs =>
  refine ⟨if k v0 = [] then oneType' else general', fun Q E hq => kindE (s := { s with heap := h' }) hp' he hq, fun p q hm hm' => ?_⟩
  have h1 := hp' _ hm
  have h2 := hp' _ hm'
  split
  · exact lt_one (s := { s with heap := h' }) (Q := fun r s' => s' = _ ∧ r = HT.lexLt (k p.1) (k q.1)) (E := fun _ _ => False) hu h1 h2 true ⟨rfl, rfl⟩
  · exact lt_one (s := { s with heap := h' }) (Q := fun r s' => s' = _ ∧ r = HT.lexLt (k p.1) (k q.1)) (E := fun _ _ => False) hu h1 h2 false ⟨rfl, rfl⟩
end
end Pd
end
section
set_option Elab.async false
set_option linter.all false
set_option maxRecDepth 100000
set_option maxHeartbeats 2000000
namespace Pd
open PySem PySem.Spec PyProof.Rows L2 SrtO Srt

def rowD (ns : List Int) : PyData := .tuple (ns.map PyData.int)
def toRows : List PyData → Option (List (List Int))
  | [] => some []
  | .tuple ds :: r => match toInts ds, toRows r with | some ns, some ls => some (ns :: ls) | _, _ => none
  | _ => none
theorem toRows_some : ∀ {ds : List PyData} {ls : List (List Int)}, toRows ds = some ls → ds = ls.map rowD
  | [], ls, h => by cases h; rfl
  | .tuple d :: r, ls, h => by
    have h : (match toInts d, toRows r with | some ns, some ls => some (ns :: ls) | _, _ => none) = some ls := h
    split at h
    · rename_i ns ms e1 e2
      cases h
      rw [toRows_some e2, toInts_some e1]; rfl
    · cases h
  | .none :: _, _, h => by cases h
  | .bool _ :: _, _, h => by cases h
  | .str _ :: _, _, h => by cases h
  | .list _ :: _, _, h => by cases h
  | .int _ :: _, _, h => by cases h
  | .dict _ :: _, _, h => by cases h
def sortI (ns : List Int) : List Int := ns.mergeSort fun a b => decide (a ≤ b)
def sortL (ls : List (List Int)) : List (List Int) := ls.mergeSort fun a b => !HT.lexLt b a
def dSort (ds : List PyData) : Option (List PyData) := match toInts ds with
  | some ns => some ((sortI ns).map .int)
  | none => match toRows ds with
    | some ls => if ls.all (fun l => !l.isEmpty) = true then some ((sortL ls).map rowD) else some ((sortL ls).map rowD)
    | none => none
theorem sortI_uniq {ns ms : List Int} (hp : ms.Perm ns) (hs : ms.Pairwise (· ≤ ·)) : ms = sortI ns := by
  refine List.Perm.eq_of_pairwise (le := fun a b : Int => a ≤ b) (fun a b _ _ h1 h2 => by omega) hs ?_ (hp.trans (List.mergeSort_perm ns _).symm)
  refine (List.pairwise_mergeSort (le := fun a b : Int => decide (a ≤ b)) (fun a b c h1 h2 => ?_) (fun a b => ?_) ns).imp fun h => of_decide_eq_true h
  · rw [decide_eq_true_eq] at h1 h2 ⊢; omega
  · rw [Bool.or_eq_true, decide_eq_true_eq, decide_eq_true_eq]; omega
theorem lex_anti : ∀ {a b : List Int}, HT.lexLt a b = false → HT.lexLt b a = false → a = b
  | [], [], _, _ => rfl
  | [], y :: ys, h, _ => by rw [HT.lexLt_nil_cons] at h; cases h
  | x :: xs, [], _, h => by rw [HT.lexLt_nil_cons] at h; cases h
  | x :: xs, y :: ys, h1, h2 => by
    rw [HT.lexLt_cons] at h1 h2
    by_cases e : x = y
    · rw [if_pos e] at h1
      rw [if_pos e.symm] at h2
      rw [e, lex_anti h1 h2]
    · rw [if_neg e] at h1
      rw [if_neg fun z => e z.symm] at h2
      have a := of_decide_eq_false h1
      have b := of_decide_eq_false h2
      omega
theorem lex_total (a b : List Int) : HT.lexLt a b = false ∨ HT.lexLt b a = false := by
  cases e : HT.lexLt a b with
  | false => exact .inl rfl
  | true => exact .inr (NtL.lex_asym _ _ e)
theorem sortL_uniq {ls ms : List (List Int)} (hp : ms.Perm ls) (hs : ms.Pairwise fun a b => HT.lexLt b a = false) : ms = sortL ls := by
  refine List.Perm.eq_of_pairwise (le := fun a b : List Int => HT.lexLt b a = false) (fun a b _ _ h1 h2 => lex_anti h2 h1) hs ?_ (hp.trans (List.mergeSort_perm ls _).symm)
  refine (List.pairwise_mergeSort (le := fun a b : List Int => !HT.lexLt b a) (fun a b c h1 h2 => ?_) (fun a b => ?_) ls).imp fun h => by simpa using h
  · have h1 : HT.lexLt b a = false := by simpa using h1
    have h2 : HT.lexLt c b = false := by simpa using h2
    have := NtL.lex_tr _ _ _ h1 h2
    simp [this]
  · rcases lex_total a b with h | h <;> simp [h]
section
variable {X : Cx} {pins : List (Addr × Obj)} {σ : L2.St} {H : Hp} {s : Shared}
theorem vals_get {vs : List V} {us : List Value} (h : Vals vs us) {u : Value} (hu : u ∈ us) : ∃ v ∈ vs, RelV v u := by
  induction h with
  | nil => exact absurd hu (by simp)
  | cons r t ih =>
    rcases List.mem_cons.mp hu with e | hu
    · subst e; exact ⟨_, List.mem_cons_self, r⟩
    · obtain ⟨v, h1, h2⟩ := ih hu
      exact ⟨v, List.mem_cons_of_mem _ h1, h2⟩
theorem rows_are (I : Inv X pins σ H s) {V' : Hp} (sub : ∀ a o, V' a = some o → H a = some o) : ∀ {ls : List (List Int)} {xs : List V} {its : List Value}, RpA X.K V' xs (ls.map rowD) → Vals xs its → ∀ u ∈ its, ∃ a ns, u = .ref a ∧ Rp X.K V' (.ref a) (rowD ns) ∧ ns ∈ ls ∧ IsTI s.heap u ns
  | [], xs, its, h, r, u, hu => by
    cases h
    cases r
    exact absurd hu (by simp)
  | l :: ls, xs, its, h, r, u, hu => by
    cases h with
    | cons q t =>
      cases r with
      | cons r1 r2 =>
        rcases List.mem_cons.mp hu with e | hu
        · subst e
          unfold rowD at q
          cases q with
          | tup hh ra =>
            cases r1
            refine ⟨_, l, rfl, .tup hh ra, List.mem_cons_self, ?_⟩
            cases dpa_ints_inv ra
            obtain ⟨hz, its2, r2, o, ho, hc, n, hd⟩ := I.hok _ _ (sub _ _ hh)
            exact ⟨_, its2.toArray, o, n, rfl, ho, hc, hd, by simpa using r2.ints⟩
        · obtain ⟨a, ns, h1, h2, h3, h4⟩ := rows_are I sub t r2 u hu
          exact ⟨a, ns, h1, h2, List.mem_cons_of_mem _ h3, h4⟩
theorem rows_map (I : Inv X pins σ H s) {V' : Hp} (sub : ∀ a o, V' a = some o → H a = some o) {k : Value → List Int} (hk : ∀ u ns, IsTI s.heap u ns → k u = ns) : ∀ {ls : List (List Int)} {xs : List V} {its : List Value}, RpA X.K V' xs (ls.map rowD) → Vals xs its → its.map k = ls
  | [], xs, its, h, r => by
    cases h
    cases r
    rfl
  | l :: ls, xs, its, h, r => by
    cases h with
    | cons q t =>
      cases r with
      | cons r1 r2 =>
        rw [List.map_cons, rows_map I sub hk t r2]
        obtain ⟨a, ns, h1, h2, h3, h4⟩ := rows_are I sub (ls := [l]) (.cons q .nil) (.cons r1 .nil) _ (List.mem_singleton.mpr rfl)
        have : ns = l := by simpa using h3
        rw [hk _ _ h4, this]
open Classical in
/-- what the sorting of such items gives -/
theorem sort_core (hu : X.A.units + 2 < cLine) (I : Inv X pins σ H s) {V' : Hp} (sub : ∀ a o, V' a = some o → H a = some o) {xs : List V} {its : List Value} {ds out : List PyData} (r : RpA X.K V' xs ds) (rv : Vals xs its) (hl : its.length ≤ sizeLine) (hs : dSort ds = some out)
    {Q : VK} (q : ∀ p ys, H p = none → RpA X.K V' ys out → Q (.ref p) (upd H p (.lst ys))) : its.length ≤ sizeLine ∧ ∃ ltv : Value → Value → Bool, Swo ltv ∧
      (2 ≤ its.length → ∀ (h₁ : Heap) (a : Addr), h₁.get? a = some (seqObj "list" its.toArray 0) → (∀ b o, s.heap.get? b = some o → b ≠ a ∧ h₁.get? b = some o) → SortableO X.prog X.w X.A.in1.in1 { s with heap := h₁ } a its ltv) ∧
      ∀ out : List Value, Srtd ltv out → Stb ltv out its → ∀ (h' : Heap) (d : Addr), (∀ b o, s.heap.get? b = some o → h'.get? b = some o) → s.heap.objs.size ≤ d → (∃ n, h'.get? d = some (seqObj "list" out.toArray n)) → EP X pins σ Q (.ref d) { s with heap := h' } := by
  refine ⟨hl, ?_⟩
  unfold dSort at hs
  split at hs
  · rename_i ns en
    cases hs
    have i1 := toInts_some en
    subst i1
    have ex := dpa_ints_inv r
    subst ex
    have hi := rv.ints
    refine ⟨ltIv, swo_int, fun h2 h₁ a _ _ => ints_sortable hi h2, fun o h1 h2 h' d kp hd hn => ?_⟩
    obtain ⟨k1, k2, k3⟩ := ints_out hi h1 h2
    obtain ⟨n, hn⟩ := hn
    have e := sortI_uniq k2 k3
    refine ⟨.ref d, upd H d (.lst ((o.map iv).map V.int)), I.laid (t' := s.toks) kp hd ⟨?_, o, n, vals_of_ints k1, hn⟩, rfl, q d _ (I.hok.fresh hd) ?_⟩
    · rw [List.length_map, List.length_map, h2.perm.length_eq]; exact hl
    · rw [e]; exact dpa_ints
  · split at hs
    · rename_i ls el
      have hs : some ((sortL ls).map rowD) = some out := by
        split at hs <;> exact hs
      cases hs
      have i1 := toRows_some el
      subst i1
      let k : Value → List Int := fun u => if h : ∃ ns, IsTI s.heap u ns then Classical.choose h else []
      have hk : ∀ u ns, IsTI s.heap u ns → k u = ns := fun u ns h => by
        have h0 : ∃ ns, IsTI s.heap u ns := ⟨ns, h⟩
        show (if h : ∃ ns, IsTI s.heap u ns then Classical.choose h else []) = ns
        rw [dif_pos h0]
        exact (Classical.choose_spec h0).uniq h
      have are := rows_are I sub r rv
      have hm := rows_map I sub hk r rv
      have hti : ∀ u ∈ its, IsTI s.heap u (k u) := fun u hu => by
        obtain ⟨a, ns, _, _, _, h4⟩ := are u hu
        rw [hk _ _ h4]; exact h4
      refine ⟨fun v u => HT.lexLt (k v) (k u), NtL.swo_lexL k, fun h2 h₁ a ha keep => ?_, fun o h1 h2 h' d kp hd hn => ?_⟩
      · have hcl : ∀ o, h₁.get? a = some o → o.cls ≠ .type "tuple" := fun o e => by
          rw [ha] at e
          cases e
          exact fun z => by
            have z : Value.type "list" = Value.type "tuple" := z
            exact absurd z (by decide)
        by_cases hnn : ∃ u ∈ its, k u = []
        · exact rows_sortableE (s := { s with heap := h₁ }) (by show X.A.units + 1 + 1 < cLine; omega) (by omega) (fun u hu => (hti u hu).keeps fun b o e _ => (keep b o e).2) hnn hcl
        · exact rows_sortable (s := { s with heap := h₁ }) (by omega) (fun u hu => (hti u hu).keeps fun b o e _ => (keep b o e).2) (fun u hu z => hnn ⟨u, hu, z⟩) hcl
      · obtain ⟨n, hn⟩ := hn
        have mem : ∀ u ∈ o, u ∈ its := fun u hu => h2.perm.mem_iff.mp hu
        have hr : ∀ u ∈ o, ∃ a, u = Value.ref a := fun u hu => by
          obtain ⟨a, ns, h1, _⟩ := are u (mem u hu)
          exact ⟨a, h1⟩
        have e : o.map k = sortL ls := sortL_uniq (by rw [← hm]; exact h2.perm.map k) (List.pairwise_map.mpr h1)
        refine ⟨.ref d, upd H d (.lst (o.map backV)), I.laid (t' := s.toks) kp hd ⟨?_, o, n, vals_back hr, hn⟩, rfl, q d _ (I.hok.fresh hd) ?_⟩
        · rw [List.length_map, h2.perm.length_eq]; exact hl
        · rw [← e]
          clear hn e h1 h2
          induction o with
          | nil => exact .nil
          | cons u o ih =>
            obtain ⟨a, ns, e1, e2, _, e4⟩ := are u (mem u (by simp))
            refine .cons ?_ (ih (fun w hw => mem w (by simp [hw])) fun w hw => hr w (by simp [hw]))
            rw [hk _ _ e4]
            subst e1
            exact e2
    · cases hs
end
end Pd
end
section
set_option Elab.async false
set_option linter.all false
set_option maxRecDepth 100000
set_option maxHeartbeats 2000000
namespace Pd
open PySem PySem.Spec PyProof.Rows L2 SrtO Srt

def rSrt (K : PySem.W.Frag) : List V → Hp → VK → Prop := fun vs H Q => ∃ (x : V) (V' : Hp) (ds out : List PyData), vs = [x] ∧ (∀ a o, V' a = some o → H a = some o) ∧ (Rp K V' x (.list ds) ∨ Rp K V' x (.tuple ds)) ∧ dSort ds = some out ∧
  ∀ p ys, H p = none → RpA K V' ys out → Q (.ref p) (upd H p (.lst ys))
def dSorted : List PyData → Option (List PyData)
  | [.list ds] => dSort ds
  | [.tuple ds] => dSort ds
  | _ => none
section
variable {X : Cx}
theorem call_srt (hu : X.A.units + 2 < cLine) : CallR X (.builtin "sorted") (rSrt X.K) := by
  intro pins s σ H vs us Q I r h
  obtain ⟨x, V', ds, out, rfl, sub, hx, hs, q⟩ := h
  obtain ⟨u, rfl, ru⟩ := vals1 r
  have fin : ∀ {xs : List V} {its : List Value} {h' : Heap}, RpA X.K V' xs ds → Vals xs its → xs.length ≤ sizeLine → (∀ b o, s.heap.get? b = some o → h'.get? b = some o) → its.length ≤ sizeLine ∧ ∃ ltv : Value → Value → Bool, Swo ltv ∧
      (2 ≤ its.length → ∀ (h₁ : Heap) (a : Addr), h₁.get? a = some (seqObj "list" its.toArray 0) → (∀ b o, h'.get? b = some o → b ≠ a ∧ h₁.get? b = some o) → SortableO X.prog X.w X.A.in1.in1 { s with heap := h₁ } a its ltv) ∧
      ∀ out : List Value, Srtd ltv out → Stb ltv out its → ∀ (h2 : Heap) (d : Addr), (∀ b o, h'.get? b = some o → h2.get? b = some o) → h'.objs.size ≤ d → (∃ n, h2.get? d = some (seqObj "list" out.toArray n)) → EP X pins σ Q (.ref d) { s with heap := h2 } := fun {xs its h'} ra rv hz kp => by
    have I1 : Inv X pins σ H { s with heap := h' } := I.kept (t' := s.toks) kp
    exact sort_core hu I1 sub ra rv (by rw [← rv.length]; exact hz) hs q
  rcases hx with hx | hx
  · cases hx with
    | lst hh ra =>
      cases ru
      obtain ⟨its, rv, pl, hz⟩ := I.list (SqL.of (sub _ _ hh))
      have hlen := rv.length
      obtain ⟨o, ho, hc, n, hd⟩ := pl.isList
      refine sorted_items (wpAny_collect_seq _ (.inl rfl) ho hc hd (fun h' hk => ?_) (by rw [List.size_toArray]; omega))
      have := fin ra rv hz hk
      simpa using this
  · cases hx with
    | tup hh ra =>
      cases ru
      obtain ⟨its, rv, pl, hz⟩ := I.tuple (SqT.of (sub _ _ hh))
      have hlen := rv.length
      obtain ⟨o, ho, hc, n, hd⟩ := pl
      refine sorted_items (wpAny_collect_seq _ (.inr rfl) ho hc hd (fun h' hk => ?_) (by rw [List.size_toArray]; omega))
      have := fin ra rv hz hk
      simpa using this
theorem cf_sorted {tb : Tabs} (hu : X.A.units + 2 < cLine) : CallF X tb (.builtin "sorted") dSorted := by
  intro ds d e
  match ds, e with
  | [.list xs], e =>
    refine ⟨_, call_srt hu, fun α g σ H vs Q S q k => ?_⟩
    cases q with
    | cons q r => cases r; exact ⟨_, vw α g H, xs, d, rfl, fun a o h => (vw_some h).1, .inl q, e, fun p ys hp hy => k _ _ (S.fresh hp hy)⟩
  | [.tuple xs], e =>
    refine ⟨_, call_srt hu, fun α g σ H vs Q S q k => ?_⟩
    cases q with
    | cons q r => cases r; exact ⟨_, vw α g H, xs, d, rfl, fun a o h => (vw_some h).1, .inr q, e, fun p ys hp hy => k _ _ (S.fresh hp hy)⟩
end
end Pd
end
section
set_option Elab.async false
set_option linter.all false
set_option maxRecDepth 100000
set_option maxHeartbeats 2000000
namespace Pd
open PySem PySem.Spec PyProof.Rows L2 SrtO Srt

section
variable {X : Cx} {tb : List (Addr × Addr)} {elt tg iter : Expr} {ifs : List Expr} {scope : Scope} {own : List (Str × Nat)} {p pos gpos : Pos} {ti : M (List PyData)} {gt : G1} {tt : M Bool} {te : M PyData} {ws : List Nat} {k : Nat} {c P : Addr}
/-- a generator expression that is run to its end -/
theorem tg_read {vs : List Nat} (hP : (c, P) ∈ tb) (hi : RI X tb tg iter ti) (G : GP X tb k scope elt tg ifs gt ws tt te) (hws : ∀ j ∈ ws, j ∈ vs) {α α' : Ab} {zs : List PyData} (h : mLc vs ti gt tt te α = some (zs, α')) :
    ∃ wi, PI X tg iter wi ∧ ∀ (σ : L2.St) (H : Hp) (g : Gh) (Fin : List V → Hp → Prop), St X.K tb α g σ H → (∀ xs H', St X.K tb α' g σ H' → Mv α α' g H H' → RpA X.K (vw α' g H') xs zs → Fin xs H') →
      tGenW P wi (gG X k scope tg) (gTs X k scope ifs) (gE X k scope elt) vs (fun _ => OutT) (fun _ => Fin) σ H := by
  unfold mLc at h
  split at h
  · cases h
  rename_i ds α1 e1
  split at h
  case isFalse => cases h
  rename_i hcond
  rw [Bool.and_eq_true, decide_eq_true_eq] at hcond
  obtain ⟨okv, hlen⟩ := hcond
  split at h
  · cases h
  rename_i zs0 α2 e2
  cases h
  obtain ⟨wi, hPI, hwi⟩ := hi _ _ _ e1
  refine ⟨wi, hPI, fun σ H g Fin S kF => ?_⟩
  unfold tGenW
  refine hwi σ H g _ S fun J H1 S1 w1 hJ => ⟨S1.tab _ hP, fun H2 hT => ?_⟩
  obtain ⟨S2, w2⟩ := S1.grown c hP hT
  let W : Nat → List V → Hp → Prop := fun i xs Hx => ∃ αi ys rest, i ≤ ds.length ∧ lcGo vs gt tt te (ds.drop i) αi = some (rest, α2) ∧ ys ++ rest = zs ∧ ys.length ≤ i ∧
    St X.K tb αi g (L2.wipe σ vs) Hx ∧ Ext (vw α1 g H2) (vw αi g Hx) ∧ (∀ a, g.O a → Hx a = H2 a) ∧ RpA X.K (vw αi g Hx) xs ys
  refine ⟨fun i ys m Hx => m = ds.length - i ∧ W i ys Hx, ⟨_, rfl, ?_⟩, ?_⟩
  · obtain ⟨S3, E3⟩ := S2.wipe vs
    exact ⟨_, [], _, Nat.zero_le _, e2, rfl, Nat.le_refl _, S3, E3, fun _ _ => rfl, .nil⟩
  rintro i xs m Hx ⟨rfl, αi, ys, rest, hi', hgo, hcat, hyl, Si, Ei, Oi, racc⟩
  have E1 : Ext (vw α1 g H1) (vw αi g Hx) := w2.ext.trans Ei
  by_cases hlt : i < ds.length
  · have hdr : ds.drop i = ds[i] :: ds.drop (i + 1) := List.drop_eq_getElem_cons hlt
    rw [hdr] at hgo
    refine .inr ⟨hJ.go Si E1 hlt, fun ys' H' => W (i + 1) ys' H', fun ys' H' w => ⟨ds.length - (i + 1), by omega, rfl, w⟩, fun x H' hy => ?_⟩
    obtain ⟨d, hd, Sy, wy, qy⟩ := hJ.yld Si E1 hlt hy
    have hd' : d = ds[i] := by rw [List.getElem?_eq_getElem hlt] at hd; exact (Option.some.inj hd).symm
    subst hd'
    unfold lcGo at hgo
    split at hgo
    · cases hgo
    rename_i αa ea
    intro A0 s0 H00 C0 cl0 cd0 fp0 r0
    refine G.g A0 s0 H00 C0 cl0 cd0 fp0 r0 _ _ _ ea (L2.wipe σ vs) H' g x _ Sy qy fun σ2 H3 Sa wa la oa => ?_
    have hw : L2.wipe σ2 vs = L2.wipe σ vs := (wipe_same la fun j hj => oa j fun z => hj (hws j z)).trans wipe_wipe
    refine ⟨hw, fun A1 s1 H11 C1 cl1 cd1 fp1 r1 => ?_⟩
    split at hgo
    · cases hgo
    · rename_i αb eb
      refine G.t A1 s1 H11 C1 cl1 cd1 fp1 r1 _ _ _ eb σ2 H3 g _ Sa fun H4 Sb wb => ?_
      rw [if_pos rfl]
      intro A2 s2 H22 C2 cl2 cd2 fp2 r2
      split at hgo
      · cases hgo
      rename_i y αc ec
      split at hgo
      · cases hgo
      rename_i rs αd ed
      cases hgo
      refine G.e A2 s2 H22 C2 cl2 cd2 fp2 r2 _ _ _ ec σ2 H4 g _ Sb fun v H5 Sc wc qc => ?_
      obtain ⟨Se, Ee⟩ := Sc.wipe vs
      rw [hw] at Se
      have E5 := wy.ext.trans (wa.ext.trans (wb.ext.trans wc.ext))
      refine ⟨by rw [dpa_len racc, sizeLine_eq]; omega, ?_⟩
      refine ⟨_, ys ++ [y], rs, hlt, ed, by rw [List.append_assoc]; exact hcat, by rw [List.length_append, List.length_singleton]; omega, Se, Ei.trans (E5.trans Ee), fun a ha => ?_, ?_⟩
      · exact (wc.out a ha).trans ((wb.out a ha).trans ((wa.out a ha).trans ((wy.out a ha).trans (Oi a ha))))
      · exact dpa_app (dpa_ext (E5.trans Ee) _ _ racc) (.cons (dp_ext Ee _ _ qc) .nil)
    · rename_i αb eb
      refine G.t A1 s1 H11 C1 cl1 cd1 fp1 r1 _ _ _ eb σ2 H3 g _ Sa fun H4 Sb wb => ?_
      rw [if_neg (by decide)]
      obtain ⟨Se, Ee⟩ := Sb.wipe vs
      rw [hw] at Se
      have E4 := wy.ext.trans (wa.ext.trans (wb.ext.trans Ee))
      refine ⟨_, ys, rest, hlt, hgo, hcat, by omega, Se, Ei.trans E4, fun a ha => ?_, dpa_ext E4 _ _ racc⟩
      exact (wb.out a ha).trans ((wa.out a ha).trans ((wy.out a ha).trans (Oi a ha)))
  · have hi2 : ds.length ≤ i := by omega
    rw [List.drop_eq_nil_of_le hi2] at hgo
    cases hgo
    rw [List.append_nil] at hcat
    subst hcat
    refine .inl ⟨hJ.stop Si E1 hi2, ?_⟩
    obtain ⟨Sr, Er⟩ := St.rest S2 Si okv Ei
    exact kF xs Hx Sr ⟨(w1.trans w2).ext.trans (Ei.trans Er), fun a ha => (Oi a ha).trans ((w1.trans w2).out a ha)⟩ (dpa_ext Er _ _ racc)
/-- sorted(..) of a generator expression -/
def tSortG (K : PySem.W.Frag) (P : Addr) (wi : TI) (gT : TG) (tT : TT) (tE : TE) (vs : List Nat) : TE := fun σ H Q =>
  tGenW P wi gT tT tE vs (fun _ => OutT) (fun _ ys H' => ∃ V' ds out, (∀ a o, V' a = some o → H' a = some o) ∧ RpA K V' ys ds ∧ dSort ds = some out ∧ ∀ p zs, H' p = none → RpA K V' zs out → Q (.ref p) (upd H' p (.lst zs))) σ H
theorem pe_sortG {wi : TI} {gT : TG} {tT : TT} {tE : TE} (hr : RoomG (k + 4) X.A) (hc : X.calm = true) (hN : X.N.Nodup) (hg : Gl X "sorted") (hm : X.mg "sorted" = none) (TB : GxR.TabB X.base X.mg c P) (hcode : X.env.code = .ref c) (ok : GenOk X.N X.env.scope scope own) (hi : PI X tg iter wi) (G : GParts X k scope elt tg ifs gT tT tE)
    (hs : ∀ v, genFold iter X.env v = pure v)
    (he : starEach [.GeneratorExp elt [⟨tg, iter, ifs, 0⟩] scope gpos] X.env = (false, eval (.GeneratorExp elt [⟨tg, iter, ifs, 0⟩] scope gpos) X.env) :: starEach [] X.env := by rfl) :
    PE X (.Call (.Name "sorted" p) [.GeneratorExp elt [⟨tg, iter, ifs, 0⟩] scope gpos] [] pos) (tSortG X.K P wi gT tT tE (own.map (·.2))) := by
  refine ⟨fun pins s σ H Q I h => ?_⟩
  refine wpAny_Call_Name_kw (ld_blt I hg hm bt_sorted ?_)
  refine PyProof.Rows.callWith_builtin1 ?_ he (by rfl)
  rw [he]
  show wpAny _ _ (spliced ((false, eval (.GeneratorExp elt [⟨tg, iter, ifs, 0⟩] scope gpos) X.env) :: backTo pos (starEach [] X.env))) _ _ s
  refine Calls.spliced_cons (gen_make hr hc hN TB hcode ok hi G (fun _ => outT_mono) hs I h fun u s' s0 H0 fp I0 f0 _ GM => ?_)
  refine Calls.spliced_nil ?_
  have hr3 : RoomG (k + 3) X.A.in1 := RoomG.in1 hr
  refine sorted_items (collect_gx (A := X.A.in1) GM hr3 I0.ok.frames fun s2 H' ys acc cc S a g go e r hle hf => ?_)
  obtain ⟨V', ds, out, sub, rd, hso, q⟩ := hf
  have I2 : Inv X pins σ H' s2 := go.inv I0 f0
  exact sort_core (by have := hr.un; omega) I2 sub rd r (by rw [← r.length]; exact hle) hso q
def mSortG (vs : List Nat) (ti : M (List PyData)) (gt : G1) (tt : M Bool) (te : M PyData) : M (List PyData) := mb (mLc vs ti gt tt te) fun ds => mo (dSort ds)
theorem rf_sortG (hr : RoomG (k + 4) X.A) (hc : X.calm = true) (hN : X.N.Nodup) (gl : Gl X "sorted") (hm : X.mg "sorted" = none) (TB : GxR.TabB X.base X.mg c P) (hcode : X.env.code = .ref c) (hP : (c, P) ∈ tb) (ok : GenOk X.N X.env.scope scope own) (hws : ∀ j ∈ ws, j ∈ own.map (·.2))
    (hi : RI X tb tg iter ti) (G : GP X tb k scope elt tg ifs gt ws tt te) (hs : ∀ v, genFold iter X.env v = pure v := by intro _; rfl)
    (he : starEach [.GeneratorExp elt [⟨tg, iter, ifs, 0⟩] scope gpos] X.env = (false, eval (.GeneratorExp elt [⟨tg, iter, ifs, 0⟩] scope gpos) X.env) :: starEach [] X.env := by rfl) :
    RF X tb (.Call (.Name "sorted" p) [.GeneratorExp elt [⟨tg, iter, ifs, 0⟩] scope gpos] [] pos) (mSortG (own.map (·.2)) ti gt tt te) := fun α d α' h σ H g Q S kQ => by
  obtain ⟨zs, α1, h1, h2⟩ := mb_some h
  obtain ⟨hf, rfl⟩ := mo_some h2
  obtain ⟨wi, hPI, hr'⟩ := tg_read hP hi G hws h1
  refine U_of (pe_sortG hr hc hN gl hm TB hcode ok hPI gparts hs he) ?_
  refine hr' σ H g _ S fun xs H' S' w' r => ?_
  exact ⟨vw α' g H', zs, d, fun a o h => (vw_some h).1, r, hf, fun p ys hp hy => kQ _ _ (.trans w' (S'.fresh hp hy))⟩
end
end Pd
end
section
set_option Elab.async false
set_option linter.all false
set_option maxRecDepth 100000
set_option maxHeartbeats 2000000
namespace PySem
open PySem PySem.Spec PyProof.Rows L2
section
variable {prog : Program} {w : World} {A : Around} {s : Shared} {E : Value → Shared → Prop} {l : Addr}
theorem min_pairT {a b : Int} {t u : Tok} {Q : Value → Shared → Prop} (hh : A.handled = none) (hT : s.heap.IsTuple l (intItems #[(a, t), (b, u)]))
    (h : ∀ h' tk, (∀ c o, s.heap.get? c = some o → h'.get? c = some o) → Q (if b < a then .int b u else .int a t) { s with heap := h', toks := tk }) :
    wpAny (model prog w) A (call (.builtin "min") [.ref l]) Q E s := by
  refine call_min_walk (wpAny_pyIter_tuple hT ?_)
  have hl : l < s.heap.objs.size := Heap.lt_size hT.choose_spec.1
  refine ⟨_, [_, l], [_], _, _, _, _, rfl, Walks.tuple (A := A.in1) hh _ l (Nat.ne_of_lt hl) (intItems #[(a, t), (b, u)]),
    ⟨⟨_, Heap.get?_push_size _ rfl, rfl, rfl⟩, hT.push _⟩, fun c hc => ?_, by simp [intItems], CmpOf.ints_lt (numAt #[(a, t), (b, u)]) (fun _ _ => intItems_at), fun v h' tk hP hk => ?_⟩
  · show c < (s.heap.push _).objs.size
    rw [Heap.size_push]
    rcases List.mem_cons.mp hc with rfl | hc
    · exact Nat.lt_succ_self _
    · rcases List.mem_cons.mp hc with rfl | hc
      · exact Nat.lt_succ_of_lt hl
      · cases hc
  · have hold : ∀ c o, s.heap.get? c = some o → h'.get? c = some o := fun c o e => by
      refine hk c o (fun hm => ?_) (Heap.get?_push_of_some _ e)
      rcases List.mem_cons.mp hm with e1 | hm
      · exact absurd (e1 ▸ Heap.lt_size e) (Nat.lt_irrefl _)
      · cases hm
    have := h h' tk hold
    have hv : v = if b < a then Value.int b u else Value.int a t := by
      have hP' : (intItems #[(a, t), (b, u)])[argBest (fun i j => decide (numAt #[(a, t), (b, u)] i < numAt #[(a, t), (b, u)] j)) 1]? = some v := by
        have hsz2 : (intItems #[(a, t), (b, u)]).size - 1 = 1 := by simp [intItems]
        rw [← hsz2]; exact hP
      by_cases hba : b < a
      · have e : argBest (fun i j => decide (numAt #[(a, t), (b, u)] i < numAt #[(a, t), (b, u)] j)) 1 = 1 := by simp [argBest, numAt, hba]
        rw [e] at hP'
        simpa [intItems, hba] using hP'.symm
      · have e : argBest (fun i j => decide (numAt #[(a, t), (b, u)] i < numAt #[(a, t), (b, u)] j)) 1 = 0 := by simp [argBest, numAt, hba]
        rw [e] at hP'
        simpa [intItems, hba] using hP'.symm
    rw [hv]
    exact this
theorem max_pairT {a b : Int} {t u : Tok} {Q : Value → Shared → Prop} (hh : A.handled = none) (hT : s.heap.IsTuple l (intItems #[(a, t), (b, u)]))
    (h : ∀ h' tk, (∀ c o, s.heap.get? c = some o → h'.get? c = some o) → Q (if b > a then .int b u else .int a t) { s with heap := h', toks := tk }) :
    wpAny (model prog w) A (call (.builtin "max") [.ref l]) Q E s := by
  refine call_max_walk (wpAny_pyIter_tuple hT ?_)
  have hl : l < s.heap.objs.size := Heap.lt_size hT.choose_spec.1
  refine ⟨_, [_, l], [_], _, _, _, _, rfl, Walks.tuple (A := A.in1) hh _ l (Nat.ne_of_lt hl) (intItems #[(a, t), (b, u)]),
    ⟨⟨_, Heap.get?_push_size _ rfl, rfl, rfl⟩, hT.push _⟩, fun c hc => ?_, by simp [intItems], CmpOf.ints_gt (numAt #[(a, t), (b, u)]) (fun _ _ => intItems_at), fun v h' tk hP hk => ?_⟩
  · show c < (s.heap.push _).objs.size
    rw [Heap.size_push]
    rcases List.mem_cons.mp hc with rfl | hc
    · exact Nat.lt_succ_self _
    · rcases List.mem_cons.mp hc with rfl | hc
      · exact Nat.lt_succ_of_lt hl
      · cases hc
  · have hold : ∀ c o, s.heap.get? c = some o → h'.get? c = some o := fun c o e => by
      refine hk c o (fun hm => ?_) (Heap.get?_push_of_some _ e)
      rcases List.mem_cons.mp hm with e1 | hm
      · exact absurd (e1 ▸ Heap.lt_size e) (Nat.lt_irrefl _)
      · cases hm
    have := h h' tk hold
    have hv : v = if b > a then Value.int b u else Value.int a t := by
      have hP' : (intItems #[(a, t), (b, u)])[argBest (fun i j => decide (numAt #[(a, t), (b, u)] i > numAt #[(a, t), (b, u)] j)) 1]? = some v := by
        have hsz2 : (intItems #[(a, t), (b, u)]).size - 1 = 1 := by simp [intItems]
        rw [← hsz2]; exact hP
      by_cases hba : b > a
      · have e : argBest (fun i j => decide (numAt #[(a, t), (b, u)] i > numAt #[(a, t), (b, u)] j)) 1 = 1 := by simp [argBest, numAt, hba, gt_iff_lt] <;> omega
        rw [e] at hP'
        simpa [intItems, hba] using hP'.symm
      · have e : argBest (fun i j => decide (numAt #[(a, t), (b, u)] i > numAt #[(a, t), (b, u)] j)) 1 = 0 := by simp [argBest, numAt, hba, gt_iff_lt] <;> omega
        rw [e] at hP'
        simpa [intItems, hba] using hP'.symm
    rw [hv]
    exact this
end
end PySem
namespace Pd
open PySem PySem.Spec PyProof.Rows L2
def rMinP (K : PySem.W.Frag) : List V → Hp → VK → Prop := fun vs H Q => ∃ (p : Addr) (i j : Int), vs = [V.ref p] ∧ H p = some (.tup [.int i, .int j]) ∧ Q (.int (if j < i then j else i)) H
def rMaxP (K : PySem.W.Frag) : List V → Hp → VK → Prop := fun vs H Q => ∃ (p : Addr) (i j : Int), vs = [V.ref p] ∧ H p = some (.tup [.int i, .int j]) ∧ Q (.int (if j > i then j else i)) H
section
variable {X : Cx}
theorem pair_tup {pins : List (Addr × Obj)} {σ : L2.St} {H : Hp} {s : Shared} (I : Inv X pins σ H s) {p : Addr} {i j : Int} (h : H p = some (.tup [.int i, .int j])) : ∃ t u, s.heap.IsTuple p (intItems #[(i, t), (j, u)]) := by
  obtain ⟨its, rv, pl, hz⟩ := I.tuple (SqT.of h)
  obtain ⟨u1, u2, rfl, ⟨t, rfl⟩, ⟨u, rfl⟩⟩ := vals2 rv
  have pl : s.heap.IsTuple p _ := pl
  exact ⟨t, u, by simpa [intItems] using pl⟩
theorem cr_minP (hc : X.calm = true) : CallR X (.builtin "min") (rMinP X.K) := by
  intro pins s σ H vs us Q I r h
  obtain ⟨p, i, j, rfl, hp, q⟩ := h
  obtain ⟨t, u, hT⟩ := pair_tup I hp
  rw [Vals.ref1 r]
  refine min_pairT (I.ok.hd hc) hT fun h' tk k => ⟨_, H, I.kept k, ?_, q⟩
  by_cases hj : j < i
  · rw [if_pos hj, if_pos hj]; exact ⟨_, rfl⟩
  · rw [if_neg hj, if_neg hj]; exact ⟨_, rfl⟩
theorem cr_maxP (hc : X.calm = true) : CallR X (.builtin "max") (rMaxP X.K) := by
  intro pins s σ H vs us Q I r h
  obtain ⟨p, i, j, rfl, hp, q⟩ := h
  obtain ⟨t, u, hT⟩ := pair_tup I hp
  rw [Vals.ref1 r]
  refine max_pairT (I.ok.hd hc) hT fun h' tk k => ⟨_, H, I.kept k, ?_, q⟩
  by_cases hj : j > i
  · rw [if_pos hj, if_pos hj]; exact ⟨_, rfl⟩
  · rw [if_neg hj, if_neg hj]; exact ⟨_, rfl⟩
def dMinX : List PyData → Option PyData
  | [.int i, .int j] => some (.int (if j < i then j else i))
  | [.tuple [.int i, .int j]] => some (.int (if j < i then j else i))
  | _ => none
def dMaxX : List PyData → Option PyData
  | [.int i, .int j] => some (.int (if j > i then j else i))
  | [.list ds] => match toInts ds with
    | some (n :: ns) => some (.int (ns.foldl max n))
    | _ => none
  | [.tuple [.int i, .int j]] => some (.int (if j > i then j else i))
  | _ => none
theorem cd_minX {tb : Tabs} (hc : X.calm = true) : CallD X tb (.builtin "min") dMinX := by
  intro ds d e
  match ds, e with
  | [.int i, .int j], e => exact cd_min hc _ _ e
  | [.tuple [.int i, .int j]], e =>
    cases e
    refine ⟨_, cr_minP hc, fun α g σ H vs Q S q k => ?_⟩
    cases q with
    | cons q r => cases r; cases q with
      | tup hh r => cases r with
        | cons r1 r2 => cases r2 with
          | cons r2 r3 => cases r1; cases r2; cases r3; exact ⟨_, i, j, rfl, vw_sub hh, k _ H S (Mv.refl _ _ _) (.int _)⟩
theorem cd_maxX {tb : Tabs} (hc : X.calm = true) : CallD X tb (.builtin "max") dMaxX := by
  intro ds d e
  match ds, e with
  | [.int i, .int j], e => exact cd_max hc _ _ e
  | [.list xs], e => exact cd_max hc _ _ e
  | [.tuple [.int i, .int j]], e =>
    cases e
    refine ⟨_, cr_maxP hc, fun α g σ H vs Q S q k => ?_⟩
    cases q with
    | cons q r => cases r; cases q with
      | tup hh r => cases r with
        | cons r1 r2 => cases r2 with
          | cons r2 r3 => cases r1; cases r2; cases r3; exact ⟨_, i, j, rfl, vw_sub hh, k _ H S (Mv.refl _ _ _) (.int _)⟩
end
end Pd
end
section
set_option Elab.async false
set_option linter.all false
set_option maxRecDepth 100000
set_option maxHeartbeats 2000000
namespace Pd
open PySem PySem.Spec PyProof.Rows L2

/-! ### calls by names -/
/-- keyword values: data and the deck, in their order -/
def EK (X : Cx) (tb : Tabs) (kws : List Keyword) (α : Ab) (as : List Sl) (α' : Ab) : Prop := ∀ (σ : L2.St) (H : Hp) (g : Gh) (Q : List V → Hp → Prop), St X.K tb α g σ H →
  (∀ vs H', St X.K tb α' g σ H' → Mv α α' g H H' → vs.length = as.length → (∀ (j : Nat) (d : PyData), as[j]? = some (Sl.val d) → ∃ v, vs[j]? = some v ∧ Rp X.K (vw α' g H') v d) → (∀ (j : Nat), as[j]? = some Sl.dck → vs[j]? = some (V.ref g.dk) ∧ α'.δ ≠ none) → Q vs H') →
  ∀ (pos : Pos) (pins : List (Addr × Obj)) (s : Shared), Inv X pins σ H s → wpAny (model X.prog X.w) X.A (evalAll ((backToKw pos (keywordEach kws X.env)).map (·.2))) (AP X pins σ Q) X.xe s
def RK (X : Cx) (tb : Tabs) (kws : List Keyword) (t : M (List Sl)) : Prop := ∀ α as α', t α = some (as, α') → (as.all argOk = true) ∧ EK X tb kws α as α'
section
variable {X : Cx} {tb : List (Addr × Addr)} {e : Expr} {es : List Expr} {kws : List Keyword} {t : M PyData} {ts us : M (List Sl)} {pos p kpos : Pos} {x nm : Str} {k j : Nat} {F : FF}
theorem rk_nil : RK X tb [] cNil := fun α as α' h => by
  cases h
  refine ⟨rfl, fun σ H g Q S k pos pins s I => ?_⟩
  exact pk_nil.run pos pins s σ H Q I (k [] H S (Mv.refl _ _ _) rfl (fun j d e => by simp at e) fun j e => by simp at e)
theorem rk_d (h1 : RE X tb e t) (h2 : RK X tb kws ts) : RK X tb (⟨nm, e, kpos⟩ :: kws) (cD t ts) := fun α as α' h => by
  unfold cD at h
  split at h
  · cases h
  rename_i d α1 e1
  split at h
  · cases h
  rename_i bs α2 e2
  cases h
  obtain ⟨hb, hE⟩ := h2 _ _ _ e2
  refine ⟨by rw [List.all_cons, hb]; rfl, fun σ H g Q S k pos pins s I => ?_⟩
  refine (pk_cons (te := U X e) (t := fun σ H Q => ∀ (pos : Pos) (pins : List (Addr × Obj)) (s : Shared), Inv X pins σ H s → wpAny (model X.prog X.w) X.A (evalAll ((backToKw pos (keywordEach kws X.env)).map (·.2))) (AP X pins σ Q) X.xe s)
    pe_U ⟨fun pos pins s σ H Q I h => h pos pins s I⟩).run pos pins s σ H Q I ?_
  refine h1 _ _ _ e1 σ H g _ S fun v H1 S1 w1 q1 => hE σ H1 g _ S1 fun vs H2 S2 w2 hl hv hd => ?_
  refine k (v :: vs) H2 S2 (w1.trans w2) (by rw [List.length_cons, List.length_cons, hl]) (fun j d' e => ?_) fun j e => ?_
  · cases j with
    | zero => cases e; exact ⟨v, rfl, dp_ext w2.ext _ _ q1⟩
    | succ j => exact hv j d' (by simpa using e)
  · cases j with
    | zero => cases e
    | succ j => exact hd j (by simpa using e)
/-- the place arguments, then the keywords -/
def cApp (ts us : M (List Sl)) : M (List Sl) := fun α => match ts α with | none => none | some (as, α1) => match us α1 with | none => none | some (bs, α2) => some (as ++ bs, α2)
/-- f(k = v, ..), all by name -/
theorem re_ck0 {ps : List Str} (c : CalK X.prog X.w X.K X.mg X.base tb k x F ps) (hr : RoomG j X.A) (hkw : RK X tb kws ts) (hks : (backToKw pos (keywordEach kws X.env)).filterMap (·.1) = ps := by rfl) (hk : k ≤ j := by decide) (hg : Gl X x := by rfl)
    (hall : (backToKw pos (keywordEach kws X.env)).all (·.1.isSome) = true := by rfl) (hdb : (x == ("__debug__" : Str)) = false := by decide)
    (hpl : ((backTo pos (starEach [] X.env)).any (·.1) || (backToKw pos (keywordEach kws X.env)).any (·.1.isNone)) = false := by rfl) :
    RE X tb (.Call (.Name x p) [] kws pos) (mCallFn F ts) := fun α d α' h σ H g Q S kQ => by
  obtain ⟨f, fd, FG, hm, hkp, hb, hB⟩ := c.ex
  obtain ⟨as, α1, e1, h⟩ := mCallFn_split h
  obtain ⟨hok, hE⟩ := hkw _ _ _ e1
  intro pins s I
  refine wpAny_Call_Name_kw (ld_glob I hg hm ?_ hdb)
  refine PySem.W.callWith_KW0 (h₀ := X.base) I.ok.mod.kin hkp hall ?_ hpl
  refine thn (hE σ H g (fun vs H1 => spD X.K tb F vs H1 Q fun _ _ _ => False) S (fun vs H1 S1 w1 hl hv hd => call_data S1 hok hl hv hd h fun v H2 S2 w2 q => kQ v H2 S2 (w1.trans w2) q) pos pins s I) fun us s1 hh => ?_
  obtain ⟨vs, H1, I1, r, q⟩ := hh
  refine ⟨I1.kIn, ?_⟩
  have hl : vs.length = ps.length := FG.len _ _ _ _ q
  rw [hks]
  have hb' := hB.1 s1 [] us I1.kIn (by rw [List.length_nil, Nat.zero_add, ← r.length]; exact hl)
  refine wpAny_call (codeAny_mono (FG.run X.A X.stack s1 H1 ⟨[], ps.zip us⟩ us vs Q (fun _ _ _ => False) (hr.mono hk) I1.env0 hb' r q) fun res s' hq => ?_)
  cases res with
  | error e => exact False.elim hq
  | ok fl =>
    cases fl with
    | ret u => exact I1.after hq
    | next => exact False.elim hq
    | brk => exact False.elim hq
    | cont => exact False.elim hq
theorem vals_rev {vs : List V} {us : List Value} (r : Vals vs us) : Vals vs.reverse us.reverse := by
  induction r with
  | nil => exact .nil
  | cons h _ ih =>
    rw [List.reverse_cons, List.reverse_cons]
    exact Vals.append ih (.cons h .nil)
theorem hasDk_rev (as : List Sl) : hasDk as.reverse = hasDk as := by
  unfold hasDk
  rw [List.any_reverse]
/-- a def told by its arguments backwards -/
def fRev (F : FF) : FF := fun as δ => F as.reverse δ
theorem mCallFn_rev {as : List Sl} {α : Ab} {r : Option (PyData × Ab)} (h : mCallFn (fRev F) (fun α => some (as, α)) α = r) : mCallFn F (fun α => some (as.reverse, α)) α = r := by
  rw [← h]
  unfold mCallFn fRev
  simp only [hasDk_rev]
theorem rev_at {A : Type} {l : List A} {j : Nat} {x : A} (h : l.reverse[j]? = some x) : j < l.length ∧ l[l.length - 1 - j]? = some x := by
  have hj : j < l.length := by
    have := (List.getElem?_eq_some_iff.mp h).1
    rwa [List.length_reverse] at this
  rw [List.getElem?_reverse hj] at h
  exact ⟨hj, h⟩
/-- f(k = v, ..), all by name, backwards -/
theorem re_ckR {ps : List Str} (c : CalK X.prog X.w X.K X.mg X.base tb k x F ps) (hr : RoomG j X.A) (hkw : RK X tb kws ts) (hks : (backToKw pos (keywordEach kws X.env)).filterMap (·.1) = ps.reverse := by rfl) (hk : k ≤ j := by decide) (hg : Gl X x := by rfl)
    (hall : (backToKw pos (keywordEach kws X.env)).all (·.1.isSome) = true := by rfl) (hdb : (x == ("__debug__" : Str)) = false := by decide)
    (hpl : ((backTo pos (starEach [] X.env)).any (·.1) || (backToKw pos (keywordEach kws X.env)).any (·.1.isNone)) = false := by rfl) :
    RE X tb (.Call (.Name x p) [] kws pos) (mCallFn (fRev F) ts) := fun α d α' h σ H g Q S kQ => by
  obtain ⟨f, fd, FG, hm, hkp, hb, hB⟩ := c.ex
  obtain ⟨as, α1, e1, h⟩ := mCallFn_split h
  have h := mCallFn_rev h
  obtain ⟨hok, hE⟩ := hkw _ _ _ e1
  intro pins s I
  refine wpAny_Call_Name_kw (ld_glob I hg hm ?_ hdb)
  refine PySem.W.callWith_KW0 (h₀ := X.base) I.ok.mod.kin hkp hall ?_ hpl
  refine thn (hE σ H g (fun vs H1 => spD X.K tb F vs.reverse H1 Q fun _ _ _ => False) S (fun vs H1 S1 w1 hl hv hd => call_data (as := as.reverse) (vs := vs.reverse) S1 (by rw [List.all_reverse]; exact hok) (by rw [List.length_reverse, List.length_reverse]; exact hl)
    (fun j d e => by
      obtain ⟨hj, e⟩ := rev_at e
      obtain ⟨v, q1, q2⟩ := hv _ d e
      refine ⟨v, ?_, q2⟩
      rw [List.getElem?_reverse (by omega), hl]
      exact q1)
    (fun j e => by
      obtain ⟨hj, e⟩ := rev_at e
      obtain ⟨q1, q2⟩ := hd _ e
      refine ⟨?_, q2⟩
      rw [List.getElem?_reverse (by omega), hl]
      exact q1) h fun v H2 S2 w2 q => kQ v H2 S2 (w1.trans w2) q) pos pins s I) fun us s1 hh => ?_
  obtain ⟨vs, H1, I1, r, q⟩ := hh
  refine ⟨I1.kIn, ?_⟩
  have hl : vs.reverse.length = ps.length := FG.len _ _ _ _ q
  rw [List.length_reverse] at hl
  rw [hks]
  have hb' := hB.2 s1 us I1.kIn (by rw [← r.length]; exact hl)
  refine wpAny_call (codeAny_mono (FG.run X.A X.stack s1 H1 ⟨[], ps.reverse.zip us⟩ us.reverse vs.reverse Q (fun _ _ _ => False) (hr.mono hk) I1.env0 hb' (vals_rev r) q) fun res s' hq => ?_)
  cases res with
  | error e => exact False.elim hq
  | ok fl =>
    cases fl with
    | ret u => exact I1.after hq
    | next => exact False.elim hq
    | brk => exact False.elim hq
    | cont => exact False.elim hq
end
end Pd
end
section
set_option Elab.async false
set_option linter.all false
set_option maxRecDepth 100000
set_option maxHeartbeats 2000000
namespace Pd
open PySem PySem.Spec PyProof.Rows L2

/-! ### the deck is made -/
def dkStep (c1 c2 c3 c4 : Int) (m c : Int) : Int := (m * c1 + c % c2 + c3) % c4
def dkMix (c1 c2 c3 c4 m0 : Int) (ns : List Int) : Int := ns.foldl (dkStep c1 c2 c3 c4) m0
def dkOf (c1 c2 c3 c4 m0 : Int) (ns : List Int) : Dk := ⟨(ns.take 63).reverse, dkMix c1 c2 c3 c4 m0 (ns.take 63), 0⟩
theorem sql_upd {K : PySem.W.Frag} {H : Hp} {a p : Addr} {xs : List V} {o : HO} (h : SqL K H a xs) (hp : H p = none) : SqL K (upd H p o) a xs := by
  refine h.imp_left fun h => h.imp (fun h => ?_) fun ⟨o', h⟩ => ⟨o', ?_⟩
  · rw [upd_ne (ne_of_none h hp)]; exact h
  · rw [upd_ne (ne_of_none h hp)]; exact h
theorem cut63 (ns : List Int) : cutV (ns.map V.int) none (some 63) = (ns.take 63).map V.int := by
  unfold cutV
  rw [HT.sIx_none, show HT.sIx (ns.map V.int).length (ns.map V.int).length (some 63) = min 63 (ns.map V.int).length from HT.sIx_nat _ _ 63, List.drop_zero, Nat.sub_zero, List.map_take]
  rw [List.length_map]
  by_cases h : 63 ≤ ns.length
  · rw [Nat.min_eq_left h]
  · rw [Nat.min_eq_right (by omega), List.take_of_length_le (by rw [List.length_map]; omega), List.take_of_length_le (by rw [List.length_map]; omega)]
def spDeck (K : PySem.W.Frag) (tb : Tabs) (c1 c2 c3 c4 m0 : Int) : Sp := fun vs H Q _ => ∃ (a : Addr) (ns : List Int) (g : Gh), vs = [.ref a] ∧ SqL K H a (ns.map V.int) ∧ St K tb ⟨[], none⟩ g [] H ∧
  ∀ dk dc H', St K tb ⟨[], some (dkOf c1 c2 c3 c4 m0 ns)⟩ { g with dk := dk, dc := dc } [] H' → (∀ b, g.O b → H' b = H b) → Q (.ref dk) H'
end Pd
namespace Pd
open PySem PySem.Spec PyProof.Rows L2
def rInt1 : List V → Hp → VK → Prop := fun xs H Q => (∃ i, xs = [.int i] ∧ Q (.int i) H) ∨ ∃ k, xs = [.bl k] ∧ Q (.int (if k then 1 else 0)) H
def tStep (c1 c2 c3 c4 : Int) : TE := tOp (rI (fun _ j => 0 < j) fun i j => .int (i % j))
  (tCB rInt1 (tCons (tOp (rI0 fun i j => .int (i + j)) (tOp (rI0 fun i j => .int (i + j)) (tOp (rI CMulW fun i j => .int (i * j)) (tVar 1) (tC (.int c1))) (tOp (rI (fun _ j => 0 < j) fun i j => .int (i % j)) (tCB rInt1 (tCons (tVar 2) tNil)) (tC (.int c2)))) (tC (.int c3))) tNil)) (tC (.int c4))
def tScr (K : PySem.W.Frag) : TE := L2.tSl (rSlL K) (tVar 0) tNoPart (tPart (tC (.int 63)))
def rListOf (K : PySem.W.Frag) : List V → Hp → VK → Prop := fun xs H Q => ∃ p ys, xs = [.ref p] ∧ (SqL K H p ys ∨ SqT K H p ys) ∧ ∀ l, H l = none → Q (.ref l) (upd H l (.lst ys))
def tDeck (K : PySem.W.Frag) (c1 c2 c3 c4 m0 : Int) : TS := tSeq (tAsg (tC (.int m0)) (gName 1)) (tSeq (tFor (iList K (tScr K)) (gName 2) (tAsg (tStep c1 c2 c3 c4) (gName 1)))
  (tRet (tDisp [(tC (.str "cells"), tRevL K (tCB (rListOf K) (tCons (tScr K) tNil))), (tC (.str "mixed"), tVar 1), (tC (.str "draws"), tC (.int 0))])))
theorem dkStep_lt {c1 c2 c3 c4 m c : Int} (h4 : 0 < c4) : 0 ≤ dkStep c1 c2 c3 c4 m c ∧ dkStep c1 c2 c3 c4 m c < c4 := ⟨Int.emod_nonneg _ (by omega), Int.emod_lt_of_pos _ h4⟩
theorem mix_lt {c1 c2 c3 c4 m0 : Int} (h4 : 0 < c4) (h0 : 0 ≤ m0 ∧ m0 < c4) (ns : List Int) : 0 ≤ dkMix c1 c2 c3 c4 m0 ns ∧ dkMix c1 c2 c3 c4 m0 ns < c4 := by
  unfold dkMix
  induction ns generalizing m0 with
  | nil => exact h0
  | cons n ns ih => exact ih (dkStep_lt h4)
theorem log_le {n : Int} (h0 : 0 ≤ n) (h1 : n < 2 ^ 40) : n.natAbs.log2 ≤ 40 := by
  by_cases hz : n.natAbs = 0
  · rw [hz]; decide
  · have : n.natAbs.log2 < 40 := (Nat.log2_lt hz).mpr (by omega)
    omega
theorem mix_take {c1 c2 c3 c4 m0 : Int} {l : List Int} {i : Nat} (h : i < l.length) : dkMix c1 c2 c3 c4 m0 (l.take (i + 1)) = dkStep c1 c2 c3 c4 (dkMix c1 c2 c3 c4 m0 (l.take i)) l[i] := by
  unfold dkMix
  rw [List.take_add_one, List.getElem?_eq_getElem h, List.foldl_append]
  rfl
theorem deck_run {K : PySem.W.Frag} {tb : Tabs} {c1 c2 c3 c4 m0 : Int} (h1 : 0 ≤ c1 ∧ c1 < 2 ^ 40) (h2 : 0 < c2) (h4 : 0 < c4 ∧ c4 < 2 ^ 40) (h0 : 0 ≤ m0 ∧ m0 < c4) {a : Addr} {ns : List Int} {g : Gh} {H : Hp} {D : Ends} (hs : SqL K H a (ns.map V.int)) (S : St K tb ⟨[], none⟩ g [] H)
    (k : ∀ dk dc H', St K tb ⟨[], some (dkOf c1 c2 c3 c4 m0 ns)⟩ { g with dk := dk, dc := dc } [] H' → (∀ b, g.O b → H' b = H b) → D.rt (.ref dk) H') :
    tDeck K c1 c2 c3 c4 m0 D [some (.ref a), none, none] H := by
  -- the slice to go through
  refine ⟨.ref a, rfl, 63, rfl, a, _, rfl, hs, fun p hp => ?_⟩
  rw [cut63]
  obtain ⟨S1, w1, _⟩ := S.new (o := .lst ((ns.take 63).map V.int)) hp
  have hs1 : SqL K (upd H p (.lst ((ns.take 63).map V.int))) a (ns.map V.int) := sql_upd hs hp
  generalize hH1 : upd H p (.lst ((ns.take 63).map V.int)) = H1 at *
  have hp1 : H1 p = some (.lst ((ns.take 63).map V.int)) := by rw [← hH1, upd_same]
  refine ⟨p, rfl, ⟨_, SqL.of hp1⟩, ?_⟩
  have O1 : ∀ b, g.O b → H1 b = H b := w1.out
  refine ⟨fun i m σ Hx => m = (ns.take 63).length - i ∧ i ≤ (ns.take 63).length ∧ Hx = H1 ∧ ∃ c, σ = [some (.ref a), some (.int (dkMix c1 c2 c3 c4 m0 ((ns.take 63).take i))), c], ⟨_, rfl, Nat.zero_le _, rfl, none, rfl⟩, ?_⟩
  rintro i m σ Hx ⟨rfl, hi, rfl, c, rfl⟩
  by_cases hlt : i < (ns.take 63).length
  · have gi : ((ns.take 63).map V.int)[i]? = some (.int (ns.take 63)[i]) := by rw [List.getElem?_map, List.getElem?_eq_getElem hlt]; rfl
    refine .inr ⟨⟨_, _, SqL.of hp1, gi⟩, fun σ' H' => i + 1 ≤ (ns.take 63).length ∧ H' = Hx ∧ ∃ c, σ' = [some (.ref a), some (.int (dkMix c1 c2 c3 c4 m0 ((ns.take 63).take (i + 1)))), c], fun σ' H' w => ⟨_, by omega, rfl, w⟩, fun x H' hy => ?_⟩
    obtain ⟨rfl, fx⟩ := hy
    have ex : x = .int (ns.take 63)[i] := Option.some.inj ((fx _ (SqL.of hp1)).symm.trans gi)
    subst ex
    obtain ⟨b1, b2⟩ := mix_lt (c1 := c1) (c2 := c2) (c3 := c3) (c4 := c4) h4.1 h0 ((ns.take 63).take i)
    have hm : CMulW (dkMix c1 c2 c3 c4 m0 ((ns.take 63).take i)) c1 := by
      have e1 := log_le b1 (by omega : dkMix c1 c2 c3 c4 m0 ((ns.take 63).take i) < 2 ^ 40)
      have e2 := log_le h1.1 h1.2
      unfold CMulW
      omega
    refine ⟨_, rfl, _, _, rfl, rfl, hm, _, rfl, .inl ⟨_, rfl, _, _, rfl, rfl, h2, _, _, rfl, rfl, _, _, rfl, rfl, .inl ⟨_, rfl, _, _, rfl, rfl, h4.1, ?_⟩⟩⟩
    refine ⟨hlt, rfl, some (.int (ns.take 63)[i]), ?_⟩
    rw [mix_take hlt]
    rfl
  · have ei : (ns.take 63).take i = ns.take 63 := List.take_of_length_le (by omega)
    rw [ei]
    refine .inl ⟨⟨_, SqL.of hp1, by rw [List.length_map]; omega⟩, ?_⟩
    -- the dict
    refine fun dk hdk => ?_
    obtain ⟨S2, w2, _⟩ := S1.new (o := .dK []) hdk
    have hs2 : SqL K (upd Hx dk (.dK [])) a (ns.map V.int) := sql_upd hs1 hdk
    have hd2 : (upd Hx dk (.dK [])) dk = some (.dK []) := upd_same
    generalize upd Hx dk (.dK []) = H2 at *
    refine ⟨.ref a, rfl, 63, rfl, a, _, rfl, hs2, fun q hq => ?_⟩
    rw [cut63]
    obtain ⟨S3, w3, _⟩ := S2.new (o := .lst ((ns.take 63).map V.int)) hq
    have hd3 : (upd H2 q (.lst ((ns.take 63).map V.int))) dk = some (.dK []) := by rw [upd_ne (ne_of_none hd2 hq)]; exact hd2
    have hq3 : (upd H2 q (.lst ((ns.take 63).map V.int))) q = some (.lst ((ns.take 63).map V.int)) := upd_same
    generalize upd H2 q (.lst ((ns.take 63).map V.int)) = H3 at *
    refine ⟨q, _, rfl, .inl (SqL.of hq3), fun r hr => ?_⟩
    obtain ⟨S4, w4, _⟩ := S3.new (o := .lst ((ns.take 63).map V.int)) hr
    have hd4 : (upd H3 r (.lst ((ns.take 63).map V.int))) dk = some (.dK []) := by rw [upd_ne (ne_of_none hd3 hr)]; exact hd3
    have hr4 : (upd H3 r (.lst ((ns.take 63).map V.int))) r = some (.lst ((ns.take 63).map V.int)) := upd_same
    generalize upd H3 r (.lst ((ns.take 63).map V.int)) = H4 at *
    refine ⟨r, _, rfl, SqL.of hr4, fun dc hdc => ?_⟩
    have hrev : ((ns.take 63).map V.int).reverse = (ns.take 63).reverse.map V.int := List.map_reverse.symm
    rw [hrev]
    obtain ⟨S5, w5, v5⟩ := S4.new (o := .lst ((ns.take 63).reverse.map V.int)) hdc
    have hd5 : (upd H4 dc (.lst ((ns.take 63).reverse.map V.int))) dk = some (.dK []) := by rw [upd_ne (ne_of_none hd4 hdc)]; exact hd4
    have hc5 : (upd H4 dc (.lst ((ns.take 63).reverse.map V.int))) dc = some (.lst ((ns.take 63).reverse.map V.int)) := upd_same
    have nd : dk ≠ dc := fun z => by rw [z, hc5] at hd5; cases hd5
    generalize upd H4 dc (.lst ((ns.take 63).reverse.map V.int)) = H5 at *
    refine ⟨_, rfl, hd5, [(.inr "cells", .ref dc), (.inr "mixed", .int (dkMix c1 c2 c3 c4 m0 (ns.take 63))), (.inr "draws", .int 0)], rfl, (by show 3 ≤ 15; decide), ?_⟩
    have em : mergeK [] [(.inr "cells", .ref dc), (.inr "mixed", .int (dkMix c1 c2 c3 c4 m0 (ns.take 63))), (.inr "draws", .int 0)] = dkV (dkOf c1 c2 c3 c4 m0 ns) dc := by
      have e1 := key_ne1
      have e2 := key_ne2
      have e3 := key_ne3
      unfold mergeK putK dkV dkOf
      simp only [List.foldl_cons, List.foldl_nil, List.any_nil, List.any_cons, List.nil_append, List.cons_append, decide_eq_false e1, decide_eq_false e2, decide_eq_false e3, Bool.or_false, Bool.false_eq_true, if_false]
    rw [em]
    have mv : ∀ b, g.O b → H5 b = H b := fun b hb => (w5.out b hb).trans ((w4.out b hb).trans ((w3.out b hb).trans ((w2.out b hb).trans (O1 b hb))))
    have nO : ∀ b, g.O b → b ≠ dk ∧ b ≠ dc := fun b hb => ⟨fun z => (S1.oin b hb).1 (by rw [z]; exact hdk), fun z => (S4.oin b hb).1 (by rw [z]; exact hdc)⟩
    refine k dk dc _ ⟨rfl, fun j d e => by simp at e, fun j es e => by simp at e, fun i j a => ?_, fun j e => by simp at e, fun δ e => ?_, fun b hb => ?_, fun t ht => ?_, S5.otab⟩ fun b hb => ?_
    · obtain ⟨ds, a⟩ := a; simp at a
    · cases e
      exact ⟨⟨by rw [upd_same]; rfl, by rw [upd_ne nd.symm]; exact hc5⟩, fun z => (nO _ z).1 rfl, fun z => (nO _ z).2 rfl, fun i ⟨ds, a⟩ => by simp at a⟩
    · exact .eq (upd_ne (nO b hb).1) (S5.oin b hb)
    · obtain ⟨ps, q1, q2⟩ := S5.tab t ht
      exact ⟨ps, by rw [upd_ne fun z => by rw [z, hd5] at q1; cases q1]; exact q1, q2⟩
    · rw [upd_ne (nO b hb).1]; exact mv b hb
end Pd
end
section
set_option Elab.async false
set_option linter.all false
set_option maxRecDepth 100000
set_option maxHeartbeats 2000000
namespace Pd
open PySem PySem.Spec PyProof.Rows L2

/-! ### the law's deck, by its promise -/
structure DeckP (P : Program) (w : World) (K : PySem.W.Frag) (mg : Str → Option Value) (base : Heap) (tb : Tabs) (k : Nat) (x : Str) (c1 c2 c3 c4 m0 : Int) : Prop where
  ex : ∃ (f : Addr) (fd : FuncData) (ps : List Str), FnG P w K mg base k f fd ps (spDeck K tb c1 c2 c3 c4 m0) ∧ mg x = some (.ref f) ∧ PySem.W.keepIn K (.ref f) = true ∧ Binds K fd ps []
theorem deckP {P : Program} {w : World} {K : PySem.W.Frag} {mg : Str → Option Value} {base : Heap} {tb : Tabs} {k : Nat} {x : Str} {st : Stmt} {sn mn cn : Str} {c1 c2 c3 c4 m0 : Int} (D : DefD K mg x st [sn]) (S : FnScope [sn, mn, cn] [sn] (defScope st))
    (h1 : 0 ≤ c1 ∧ c1 < 2 ^ 40) (h2 : 0 < c2) (h4 : 0 < c4 ∧ c4 < 2 ^ 40) (h0 : 0 ≤ m0 ∧ m0 < c4)
    (h : ∀ (f : Addr) (cdv : Value) (A : Around) (outer : List Env) (s : Shared) (H : Hp) (E : XK), RoomG k (A.deeper (envOfC x (defScope st) s.heap.objs.size f cdv)) → PSs (cxOf CX0 P w K mg base [sn, mn, cn] x (defScope st) f cdv A outer s H E).nox (defBody st) (tDeck K c1 c2 c3 c4 m0)) :
    DeckP P w K mg base tb (k + 1) x c1 c2 c3 c4 m0 := by
  obtain ⟨f, fd, F, hm, hb, _⟩ := D.ex
  refine ⟨f, fd, [sn], fnG0 F S (fun vs H Q E ⟨a, ns, g, e, _⟩ => by rw [e]; rfl) fun cdv A outer s H vs Q E hr ⟨a, ns, g, e, hs, S0, q⟩ => ?_, hm, F.kp, hb⟩
  subst e
  exact USs_of (h f cdv A outer s H E hr) (deck_run (D := { nx := fun _ H' => Q .non H', rt := Q }) h1 h2 h4 h0 hs S0 q)
theorem deck_call {X : Cx} {tb : Tabs} {k j : Nat} {x sn : Str} {c1 c2 c3 c4 m0 : Int} (c : DeckP X.prog X.w X.K X.mg X.base tb k x c1 c2 c3 c4 m0) (hr : RoomG j X.A) {p p2 pos : Pos} {σ : L2.St} {H : Hp} {Q : VK} {a : Addr} {ns : List Int} {g : Gh} (hσ : σ[0]? = some (some (.ref a))) (hs : SqL X.K H a (ns.map V.int)) (S : St X.K tb ⟨[], none⟩ g [] H)
    (q : ∀ dk dc H', St X.K tb ⟨[], some (dkOf c1 c2 c3 c4 m0 ns)⟩ { g with dk := dk, dc := dc } [] H' → (∀ b, g.O b → H' b = H b) → Q (.ref dk) H') (hk : k ≤ j := by decide) (hN : X.N[0]? = some sn := by rfl) (hv : Vis X.env.scope sn := by first | exact Or.inl rfl | exact Or.inr (Or.inl rfl) | exact Or.inr (Or.inr rfl))
    (hd : (sn == ("__debug__" : Str)) = false := by decide) (hcd : (sn == ("__classdict__" : Str)) = false := by decide) (hg : Gl X x := by rfl) (hdb : (x == ("__debug__" : Str)) = false := by decide)
    (he : starEach [.Name sn p2] X.env = (false, eval (.Name sn p2) X.env) :: starEach [] X.env := by rfl) (hpl : (backTo pos (starEach [] X.env)).any (·.1) = false := by rfl) : U X (.Call (.Name x p) [.Name sn p2] [] pos) σ H Q := by
  obtain ⟨f, fd, ps, FG, hm, hkp, hb⟩ := c.ex
  intro pins s I
  refine wpAny_Call_Name_kw (ld_glob I hg hm ?_ hdb)
  refine PySem.W.callWith_K (h₀ := X.base) I.ok.mod.kin hkp ?_ he hpl
  refine thn ((pa_cons (pe_var hN hv hd hcd) pa_nil he).run pos pins s σ H (fun vs H1 => vs = [.ref a] ∧ H1 = H) I ⟨_, hσ, rfl, rfl⟩) fun us s1 hh => ?_
  obtain ⟨vs, H1, I1, r, rfl, rfl⟩ := hh
  exact ⟨I1.kIn, run_fnG (E := fun _ _ _ => False) FG (hr.mono hk) hb I1 r ⟨a, ns, g, rfl, hs, S, q⟩⟩

/-! ### the law -/
theorem St.law {K : PySem.W.Frag} {tb : Tabs} {δ : Dk} {g : Gh} {H : Hp} (S : St K tb ⟨[], some δ⟩ g [] H) {n i : Nat} {σ : L2.St} (hl : σ.length = n) (hi : σ[i]? = some (some (.ref g.dk))) : St K tb ⟨(List.replicate n Sl.un).set i .dck, some δ⟩ g σ H := by
  have at_ : ∀ (j : Nat) (s : Sl), ((List.replicate n Sl.un).set i .dck)[j]? = some s → (j = i ∧ s = .dck) ∨ s = .un := fun j s e => by
    have hil : i < n := by rw [← hl]; exact (List.getElem?_eq_some_iff.mp hi).1
    by_cases hj : i = j
    · subst hj
      rw [List.getElem?_set_self (by rw [List.length_replicate]; exact hil)] at e
      exact .inl ⟨rfl, (Option.some.inj e).symm⟩
    · rw [List.getElem?_set_ne hj, List.getElem?_replicate] at e
      split at e
      · exact .inr (Option.some.inj e).symm
      · cases e
  have nown : ∀ j, ¬ ownAt ((List.replicate n Sl.un).set i .dck) j := fun j ⟨ds, e⟩ => by
    rcases at_ j _ e with ⟨_, z⟩ | z <;> cases z
  refine ⟨by rw [List.length_set, List.length_replicate]; exact hl, fun j d e => ?_, fun j ds e => absurd ⟨ds, e⟩ (nown j), fun j k a _ _ => absurd a (nown j), fun j e => ?_, fun δ' e => ?_, S.oin, S.tab, S.otab⟩
  · rcases at_ j _ e with ⟨_, z⟩ | z <;> cases z
  · rcases at_ j _ e with ⟨z, _⟩ | z
    · subst z; exact ⟨hi, by simp⟩
    · cases z
  · obtain ⟨q1, q2, q3, _⟩ := S.dk δ' e
    exact ⟨q1, q2, q3, fun j a => absurd a (nown j)⟩
def gZero : Gh := ⟨fun _ => 0, 0, 0, fun _ => False⟩
theorem St.zero {K : PySem.W.Frag} {tb : Tabs} {H : Hp} (h : ∀ p ∈ tb, H p.2 = some (.tbl #[])) : St K tb ⟨[], none⟩ gZero [] H :=
  ⟨rfl, fun j d e => by simp at e, fun j ds e => by simp at e, fun i j a => by obtain ⟨ds, a⟩ := a; simp at a, fun j e => by simp at e, fun δ e => (by cases e), fun a z => z.elim, fun p hp => ⟨#[], h p hp, by first | exact trivial | simp [TriplesOk] | decide⟩, fun p hp z => z⟩
/-- the law's own promise -/
def spLaw (K : PySem.W.Frag) (tb : Tabs) : Sp := fun vs H Q _ => ∃ (a : Addr) (ns : List Int), vs = [.ref a] ∧ SqL K H a (ns.map V.int) ∧ ns.length ≤ 63 ∧ (∀ z ∈ ns, Builtin.Int.intBits z ≤ 1048576) ∧ (∀ p ∈ tb, H p.2 = some (.tbl #[])) ∧ ∀ H', Q (.bl true) H'
/-- what is to be shown of the law, without a heap -/
def LawTrue (n : Nat) (body : MS) (c1 c2 c3 c4 m0 : Int) : Prop := ∀ ns : List Int, ns.length ≤ 63 → (∀ z ∈ ns, Builtin.Int.intBits z ≤ 1048576) → ∃ α', body ⟨(List.replicate n Sl.un).set 1 .dck, some (dkOf c1 c2 c3 c4 m0 ns)⟩ = some (.rt (.bool true), α')
theorem lawP {P : Program} {w : World} {K : PySem.W.Frag} {mg : Str → Option Value} {base : Heap} {tb : Tabs} {k kd : Nat} {x xd sn dn : Str} {N : List Str} {st : Stmt} {f : Addr} {fd : FuncData} {c1 c2 c3 c4 m0 : Int} {rest : List Stmt} {p1 p2 p3 pos spos : Pos} {body : MS} (F : Fun K x x st f fd) (S : FnScope (sn :: dn :: N) [sn] (defScope st))
    (DP : DeckP P w K mg base tb kd xd c1 c2 c3 c4 m0) (hkd : kd ≤ k) (hst : defBody st = .Assign [.Name dn p1] (.Call (.Name xd p2) [.Name sn p3] [] pos) spos :: rest)
    (hd : (sn == ("__debug__" : Str)) = false) (hcd : (sn == ("__classdict__" : Str)) = false) (hdb : (xd == ("__debug__" : Str)) = false) (hglob : (defScope st).names.lookup xd = some .globalImplicit)
    (hv : Vis (defScope st) sn) (hx : Loc (defScope st) dn)
    (hsw : ∀ (cdv : Value) (A : Around) (outer : List Env) (s : Shared) (H : Hp) (E : XK), swapsWith (.Call (.Name xd p2) [.Name sn p3] [] pos) (some (.Name dn p1)) spos.line (cxOf CX0 P w K mg base (sn :: dn :: N) x (defScope st) f cdv A outer s H E).nox.env = pure false)
    (hrest : ∀ (cdv : Value) (A : Around) (outer : List Env) (s : Shared) (H : Hp) (E : XK), RoomG k (A.deeper (envOfC x (defScope st) s.heap.objs.size f cdv)) → RSs (cxOf CX0 P w K mg base (sn :: dn :: N) x (defScope st) f cdv A outer s H E).nox tb rest body)
    (T : LawTrue (N.length + 2) body c1 c2 c3 c4 m0) : FnG P w K mg base (k + 1) f fd [sn] (spLaw K tb) := by
  refine fnG0 F S (fun vs H Q E ⟨a, ns, e, _⟩ => by rw [e]; rfl) fun cdv A outer s H vs Q E hr ⟨a, ns, e, hs, hl, hbt, hT, q⟩ => ?_
  subst e
  obtain ⟨α', eα⟩ := T ns hl hbt
  rw [hst]
  refine USs_of (pss_cons (ps_set (i := 1) S.nd rfl hx pe_U (hsw cdv A outer s H E) (.inl rfl)) pss_U) ?_
  refine deck_call (g := gZero) (sn := sn) DP hr (σ := start (sn :: dn :: N) [.ref a]) rfl hs (St.zero hT) (fun dk dc H' S' _ => ?_) hkd rfl hv hd hcd ?_ hdb
  · refine hrest cdv A outer s H E hr _ _ _ eα _ H' _ _ (St.law S' (i := 1) (σ := (start (sn :: dn :: N) [.ref a]).set 1 (some (.ref dk))) ?_ ?_) fun v H2 g2 S2 G r => ?_
    · rw [List.length_set]
      unfold L2.start
      rw [List.length_append, List.length_map, List.length_replicate]
      simp only [List.length_cons, List.length_nil]
      omega
    · rw [List.getElem?_set_self]
      unfold L2.start
      rw [List.length_append, List.length_map, List.length_replicate]
      simp only [List.length_cons, List.length_nil]
      omega
    · cases r
      exact q H2
  · exact hglob
end Pd
end
section
set_option Elab.async false
set_option linter.all false
set_option maxRecDepth 100000
set_option maxHeartbeats 2000000
namespace Pd
open PySem PySem.Spec PyProof.Rows L2

/-! ### the end of a law: its call, where no repr is under way -/
section
variable {P : Program} {w : World} {K : PySem.W.Frag} {mg mb : Str → Option Value}
open Classical in
/-- what is tracked at the start: the tables, and the script if it is no piece of the text -/
noncomputable def h0Of (K : PySem.W.Frag) (a : Addr) (vs : List Value) (ns : List Int) (T : List Addr) : Hp := fun b =>
  if b ∈ T then some (.tbl #[]) else if b = a ∧ K.lookup a = none then some (.frz { cls := .type "list", data := .seq vs.toArray } (.lst (ns.map V.int))) else none
theorem h0_tab {a : Addr} {vs : List Value} {ns : List Int} {T : List Addr} {b : Addr} (h : b ∈ T) : h0Of K a vs ns T b = some (.tbl #[]) := if_pos h
theorem h0_some {a : Addr} {vs : List Value} {ns : List Int} {T : List Addr} {b : Addr} {u : HO} (h : h0Of K a vs ns T b = some u) :
    (b ∈ T ∧ u = .tbl #[]) ∨ (b ∉ T ∧ b = a ∧ K.lookup a = none ∧ u = .frz { cls := .type "list", data := .seq vs.toArray } (.lst (ns.map V.int))) := by
  unfold h0Of at h
  split at h
  · rename_i hb; exact .inl ⟨hb, (Option.some.inj h).symm⟩
  · rename_i hb
    split at h
    · rename_i hc; exact .inr ⟨hb, hc.1, hc.2, (Option.some.inj h).symm⟩
    · cases h
/-- the law is called with its script -/
theorem law_callG {k : Nat} {fa a : Addr} {cs : List (Addr × Addr)} {fd : FuncData} {x : Str} {s : Shared} {vs : List Value} {ns : List Int} (hr : RoomG k callerA)
    (inK : K.In s.heap) (glob : s.heap.Ns mainGlobals mg) (blt : s.heap.Ns builtinsNs mb) (bltEq : ∀ x : Str, x ≠ "__name__" → mb x = bootBuiltins x) (lim : s.heap.NoLimit) (noG : s.gens = #[])
    (tabs : ∀ p ∈ cs, s.heap.get? p.2 = some { cls := .none, data := .fields #[] }) (tabsK : ∀ p ∈ cs, K.lookup p.2 = none) (codes : ∀ p ∈ cs, PySem.W.CodeHd s.heap p.1 p.2)
    (bmain : ∃ (bm : Addr) (ob : Obj), mg "__builtins__" = some (.ref bm) ∧ bm ≠ builtinsNs ∧ s.heap.get? bm = some ob ∧ ob.cls = .type "module" ∧ ob.dict = some builtinsNs ∧ ob.data = .plain)
    (scr : s.heap.get? a = some { cls := .type "list", data := .seq vs.toArray }) (iAre : IntsAre vs ns) (few : ns.length ≤ 63) (bits : ∀ z ∈ ns, Builtin.Int.intBits z ≤ 1048576)
    (F : ∀ base : Heap, K.In base → base.Ns mainGlobals mg → (∀ p ∈ cs, GxR.TabB base mg p.1 p.2) → FnG P w K mg base k fa fd [x] (spLaw K cs)) (bnd : ∀ (s : Shared) (u : Value), BindsTo s fd ⟨[u], []⟩ [(x, u)]) :
    codeAny (model P w) callerA (.call (.ref fa) ⟨[.ref a], []⟩) (fun r s' => r = .ok (.ret (.bool true)) ∧ OldK s.heap s'.heap ∧ s'.os = s.os ∧ AllBare s'.gens) s := by
  have len := iAre.length
  have line : ns.length ≤ sizeLine := by rw [sizeLine_eq]; omega
  generalize hT : cs.map (·.2) = T
  have inT : ∀ p ∈ cs, p.2 ∈ T := fun p hp => by rw [← hT]; exact List.mem_map.mpr ⟨p, hp, rfl⟩
  have ofT : ∀ b ∈ T, ∃ p ∈ cs, p.2 = b := fun b hb => by rw [← hT] at hb; exact List.mem_map.mp hb
  have tabAt : ∀ b ∈ T, s.heap.get? b = some { cls := .none, data := .fields #[] } := fun b hb => by
    obtain ⟨p, hp, rfl⟩ := ofT b hb
    exact tabs p hp
  generalize hH : h0Of K a vs ns T = H
  have some_ : ∀ {b : Addr} {u : HO}, H b = some u → (b ∈ T ∧ u = .tbl #[]) ∨ (b ∉ T ∧ b = a ∧ K.lookup a = none ∧ u = .frz { cls := .type "list", data := .seq vs.toArray } (.lst (ns.map V.int))) := fun {b u} h => by
    rw [← hH] at h
    exact h0_some h
  -- what is tracked is laid as rows or as fields
  have free : ∀ {b : Addr} {o : Obj}, s.heap.get? b = some o → (∀ ws n, o.data ≠ .seq ws n) → o.data ≠ .fields #[] → H b = none := fun {b o} e h1 h2 => by
    cases q : H b with
    | none => rfl
    | some u =>
      rcases some_ q with ⟨hb, _⟩ | ⟨_, rfl, _, _⟩
      · rw [tabAt b hb] at e; cases e; exact absurd rfl h2
      · rw [scr] at e; cases e; exact absurd rfl (h1 _ _)
  have inB : ∀ {b : Addr} {o : Obj}, s.heap.get? b = some o → H b = none → (hidT s.heap H).get? b = some o := fun e n => hidT_get e n
  have nsB : ∀ {b : Addr} {m : Str → Option Value}, s.heap.Ns b m → (hidT s.heap H).Ns b m := fun {b m} h => by
    obtain ⟨o, es, ep, e, d, r⟩ := h
    exact ⟨o, es, ep, inB e (free e (fun ws n z => by rw [d] at z; cases z) fun z => by rw [d] at z; cases z), d, r⟩
  have kB : K.In (hidT s.heap H) := fun b o e => inB (inK b o e) (by
    cases q : H b with
    | none => rfl
    | some u =>
      rcases some_ q with ⟨hb, _⟩ | ⟨_, rfl, hk, _⟩
      · obtain ⟨p, hp, rfl⟩ := ofT b hb
        rw [tabsK p hp] at e; cases e
      · rw [hk] at e; cases e)
  have mB : L2.Mod K mg (hidT s.heap H) := by
    obtain ⟨mc, h1, h2⟩ := lim
    exact ⟨kB, nsB glob, ⟨mb, nsB blt, bltEq⟩, mc, nsB h1, h2⟩
  have notGlob : ∀ {b : Addr} {o : Obj}, s.heap.get? b = some o → (∀ es ep, o.data ≠ .dict es ep) → b ≠ mainGlobals := fun {b o} e h z => by
    obtain ⟨o', es, ep, e', d, _⟩ := glob
    rw [z, e'] at e
    cases e
    exact h es ep d
  have tB : ∀ p ∈ cs, GxR.TabB (hidT s.heap H) mg p.1 p.2 := fun p hp => by
    refine ⟨?_, ?_, fun z => notGlob (tabs p hp) (fun es ep => by intro y; cases y) z.symm⟩
    · obtain ⟨o, us, file, tf, flags, tg, inF, text, tt, e1, r1, r2, r3, r4, r5, r6, r7, r8, hne⟩ := codes p hp
      refine ⟨o, us, file, tf, flags, tg, inF, text, tt, inB e1 (free e1 (fun ws n z => ?_) fun z => ?_), r1, r2, r3, r4, r5, r6, r7, r8, hne⟩
      · rw [r2] at z; cases z
      · rw [r2] at z; cases z; simp at r3
    · obtain ⟨bm, ob, b1, b2, b3, b4, b5, b6⟩ := bmain
      refine ⟨bm, ob, b1, b2, notGlob b3 (fun es ep z => by rw [b6] at z; cases z), fun z => ?_, inB b3 (free b3 (fun ws n z => by rw [b6] at z; cases z) fun z => by rw [b6] at z; cases z), b4, b5, b6⟩
      rw [z, tabs p hp] at b3
      cases b3
      cases b6
  have rv := vals_ints iAre
  have okH : HOk P w H s.heap := fun b u q => by
    rcases some_ q with ⟨hb, rfl⟩ | ⟨_, rfl, _, rfl⟩
    · exact tabAt b hb
    · exact ⟨scr, by rw [List.length_map]; exact line, vs, 0, rv, scr⟩
  have e0 : Env0 P w K mg (hidT s.heap H) callerA [] s H := ⟨rfl, mB, fun b o e => of_hidT e, Nat.le_of_eq (hidT_size _ _), trivial, fun b hb => absurd hb (by simp [frs]), okH, .of_eq noG⟩
  have sq : SqL K H a (ns.map V.int) := by
    cases hk : K.lookup a with
    | some o =>
      have e := inK a o hk
      rw [scr] at e
      cases e
      exact .inr ⟨_, vs.toArray, _, hk, rfl, rfl, rfl, by rw [List.size_toArray, len]; exact line, by simpa using rv⟩
    | none =>
      refine .inl (.inr ⟨{ cls := .type "list", data := .seq vs.toArray }, ?_⟩)
      · rw [← hH]
        unfold h0Of
        rw [if_neg, if_pos ⟨rfl, hk⟩]
        intro z
        have := tabAt a z
        rw [scr] at this
        cases this
  have tH : ∀ p ∈ cs, H p.2 = some (.tbl #[]) := fun p hp => by rw [← hH]; exact h0_tab (inT p hp)
  refine codeAny_mono ((F _ kB (nsB glob) tB).run callerA [] s H ⟨[.ref a], []⟩ [.ref a] [.ref a] (fun v _ => v = .bl true) (fun _ _ _ => False) hr e0 (bnd s (.ref a)) (.cons rfl .nil) ⟨a, ns, rfl, sq, few, bits, tH, fun _ => rfl⟩) fun r s' h => ?_
  cases r with
  | error e => exact False.elim h
  | ok fl =>
    cases fl with
    | next => exact False.elim h
    | brk => exact False.elim h
    | cont => exact False.elim h
    | ret u =>
      obtain ⟨v, H', os, bare, un, okH', ru, q⟩ := h
      have q : v = .bl true := q
      subst q
      cases ru
      have old : ∀ b o, b ∉ T → s.heap.get? b = some o → s'.heap.get? b = some o := fun b o nb e => by
        cases q : H b with
        | none => exact un.keep b o e q (fun z => absurd z (by simp [frs])) (by simp)
        | some u =>
          rcases some_ q with ⟨hb, _⟩ | ⟨_, _, _, rfl⟩
          · exact absurd hb nb
          · obtain ⟨e1, _⟩ := okH b _ q
            obtain ⟨e2, _⟩ := okH' b _ (un.frzs b _ _ q)
            rw [e] at e1
            cases e1
            exact e2
      have more : ∀ p ∈ cs, ∃ m : Array Value, s'.heap.get? p.2 = some { cls := .none, data := .fields m } := fun p hp => by
        obtain ⟨m, z⟩ := un.tbls p.2 #[] (tH p hp)
        exact ⟨_, okH' p.2 _ z⟩
      refine ⟨rfl, ⟨fun b o e => ?_, fun b o e => ?_⟩, os, bare⟩
      · by_cases hb : b ∈ T
        · obtain ⟨p, hp, rfl⟩ := ofT b hb
          obtain ⟨m, hm⟩ := more p hp
          rw [tabs p hp] at e
          cases e
          exact .inr (.inl ⟨((codes p hp).tab (tabs p hp)).isCodeTable, rfl, #[], m, rfl, by rw [Array.empty_append]; exact hm⟩)
        · exact .inl (old b o hb e)
      · by_cases hb : b ∈ T
        · obtain ⟨p, hp, rfl⟩ := ofT b hb
          obtain ⟨m, hm⟩ := more p hp
          exact ⟨_, hm⟩
        · exact ⟨o, old b o hb e⟩
end
end Pd
end
section
set_option Elab.async false
set_option linter.all false
set_option maxRecDepth 100000
set_option maxHeartbeats 2000000
namespace Pd
open PySem PySem.Spec PyProof.Rows L2
/-- what the head must tell of a law -/
def LawG (l : PySem.W.OpenLaw) (w : World) (K : PySem.W.Frag) (k : Nat) (x : Str) (mg : Str → Option Value) (fa : Addr) (h : Heap) : Prop :=
  ∃ (fd : FuncData) (cs : List (Addr × Addr)), (∀ p ∈ cs, h.get? p.2 = some { cls := .none, data := .fields #[] }) ∧ (∀ p ∈ cs, K.lookup p.2 = none) ∧ (∀ p ∈ cs, PySem.W.CodeHd h p.1 p.2) ∧ (∀ (s : Shared) (u : Value), BindsTo s fd ⟨[u], []⟩ [(x, u)]) ∧
    ∀ base : Heap, K.In base → base.Ns mainGlobals mg → (∀ p ∈ cs, GxR.TabB base mg p.1 p.2) → FnG l.prog w K mg base k fa fd [x] (spLaw K cs)
theorem walk_G {l : PySem.W.OpenLaw} {n k : Nat} {q : Program} {loose : List Str} {XP : (Str → Option Value) → Heap → Prop} {YP : World → Heap → Prop} {d : DefRec} {K : Params → PySem.W.Frag} {x : Str}
    (hn : l.most = some n) (hn2 : n ≤ 63) (hdf : d.params.defaults = []) (hr : RoomG k callerA) (hY : ∀ (w : World) (h : Heap), YP w h → (K w.params).In h)
    (F : ∀ (w : World) (mg : Str → Option Value) (fa : Addr) (h : Heap), YP w h → (K w.params).In h → h.Ns mainGlobals mg → mg d.name = some (.ref fa) → LawG l w (K w.params) k x mg fa h) :
    PySem.W.WalkO q loose XP YP l.row.toRowW d [] (fun f vs => PySem.call f vs) := by
  refine Att.attach_callB hn hdf fun w s₀ s₁ mg mb fa o pm cd doc a vs ns G Y ho hd hcd hmg hobj hints hlen hbits hg => ?_
  have inK := hY w _ Y
  obtain ⟨fd, cs, h1, h2, h3, h4, h5⟩ := F w mg fa _ Y inK G.T.g hmg
  exact law_callG hr inK G.T.g G.T.b G.T.builtins G.T.nolimit hg h1 h2 h3 G.T.bmain hobj hints (Nat.le_trans hlen hn2) hbits h5 h4
theorem roomG_caller {k : Nat} (h : k ≤ 100) (h1 : callerA.depth + 3 * 100 + 5 < recursionLimit := by decide) (h2 : callerA.units + 16 * 100 + 200 < cLine := by decide) : RoomG k callerA := ⟨⟨rfl, by omega, by omega⟩, rfl⟩
end Pd
end
section
set_option Elab.async false
set_option linter.all false
set_option maxRecDepth 100000
set_option maxHeartbeats 2000000
namespace Pd
open PySem PySem.Spec PyProof.Rows L2 SrtO Srt

/-! ### sets of rows of ints -/
theorem refs_perm : ∀ {L : List (Addr × List Int)} {vs : List Value}, vs.Perm (L.map fun q => Value.ref q.1) → ∃ L1 : List (Addr × List Int), vs = L1.map (fun q => Value.ref q.1) ∧ L1.Perm L := fun {L vs} h => by
  generalize hm : L.map (fun q => Value.ref q.1) = m at h
  induction h generalizing L with
  | nil => exact ⟨[], rfl, by
      have : L = [] := List.map_eq_nil_iff.mp hm
      rw [this]⟩
  | cons x _ ih =>
    cases L with
    | nil => cases hm
    | cons q L =>
      obtain ⟨L1, e1, p1⟩ := ih (List.cons.inj hm).2
      have h1 : Value.ref q.1 = x := (List.cons.inj hm).1
      exact ⟨q :: L1, by rw [List.map_cons, e1, ← h1], p1.cons q⟩
  | swap x y l =>
    cases L with
    | nil => cases hm
    | cons q L =>
      cases L with
      | nil => cases (List.cons.inj hm).2
      | cons r L =>
        have h1 : Value.ref q.1 = _ := (List.cons.inj hm).1
        have h2 : Value.ref r.1 = _ ∧ L.map (fun q => Value.ref q.1) = l := List.cons.inj (List.cons.inj hm).2
        refine ⟨r :: q :: L, ?_, List.Perm.swap q r L⟩
        rw [List.map_cons, List.map_cons, ← h1, ← h2.1, ← h2.2]
  | trans _ _ ih1 ih2 =>
    obtain ⟨L2, e2, p2⟩ := ih2 hm
    obtain ⟨L1, e1, p1⟩ := ih1 e2.symm
    exact ⟨L1, e1, p1.trans p2⟩
def rSrtS (K : PySem.W.Frag) (P : Program) (w : World) : List V → Hp → VK → Prop := fun vs H Q => ∃ (a : Addr) (L : List (Addr × List Int)) (V' : Hp) (out : List PyData), vs = [.ref a] ∧ H a = some (SetTO P w a L) ∧ (∀ b o, V' b = some o → H b = some o) ∧ (∀ p ∈ L, V' p.1 = some (.tup (p.2.map V.int))) ∧
  (∀ L1 : List (Addr × List Int), L1.Perm L → dSort (L1.map fun p => rowD p.2) = some out) ∧ ∀ p ys, H p = none → RpA K V' ys out → Q (.ref p) (upd H p (.lst ys))
theorem rows_rp {K : PySem.W.Frag} {V' : Hp} : ∀ {L : List (Addr × List Int)}, (∀ p ∈ L, V' p.1 = some (.tup (p.2.map V.int))) → RpA K V' (L.map fun p => V.ref p.1) (L.map fun p => rowD p.2)
  | [], _ => .nil
  | p :: L, h => .cons (.tup (h p (by simp)) dpa_ints) (rows_rp fun q hq => h q (by simp [hq]))
theorem call_srtS {X : Cx} (hu : X.A.units + 2 < cLine) (hc : X.calm = true) : CallR X (.builtin "sorted") (rSrtS X.K X.prog X.w) := by
  intro pins s σ H vs us Q I r h
  obtain ⟨a, L, V', out, rfl, ha, sub, hrow, hs, q⟩ := h
  have R0 : SetT0 X.prog X.w s.heap a L := (I.hok a _ ha).1
  obtain ⟨es, ep, t, R⟩ := R0.full fun p hp => I.isT (SqT.of (sub _ _ (hrow p hp)))
  rw [Vals.ref1 r]
  obtain ⟨o, ho, hex, hd⟩ := R.ob
  have hsz := R.size
  have hfew := R.few
  refine sorted_items (collect_set (A := X.A.in1) (I.ok.hd hc) ⟨o, ho, hex.1, hd⟩ R.fits (by unfold scanBound; omega) R.tab.ris R.led fun s1 vs k1 hz g1 o1 pm => ?_)
  have hes : es.toList.map (·.2) = L.map fun q => Value.ref q.1 := by
    rw [R.rows]
    unfold rowsOf
    rw [List.map_map]; rfl
  rw [hes] at pm
  obtain ⟨L1, e1, p1⟩ := refs_perm pm
  have hrow1 : ∀ p ∈ L1, V' p.1 = some (.tup (p.2.map V.int)) := fun p hp => hrow p (p1.mem_iff.mp hp)
  have I1 : Inv X pins σ H s1 := I.call' (ch := []) o1 (Un.kept k1) (I.hok.kept k1) (by rw [g1]; exact I.bare) fun _ z => nomatch z
  refine sort_core hu I1 sub (rows_rp hrow1) (by rw [e1]; exact vals_of_refs L1) ?_ (hs L1 p1) q
  rw [pm.length_eq, List.length_map, sizeLine_eq]
  omega
/-- one more row -/
theorem addT_ok {X : Cx} {pins : List (Addr × Obj)} {σ : L2.St} {H : Hp} {s : Shared} {E : Value → Shared → Prop} {D x : Addr} {L : List (Addr × List Int)} {k : List Int} {Q : Value → Shared → Prop} (I : Inv X pins σ H s) (hu : X.A.units + 65 < cLine) (hD : H D = some (SetTO X.prog X.w D L)) (hrow : ∀ p ∈ L, H p.1 = some (.tup (p.2.map V.int)))
    (hx : H x = some (.tup (k.map V.int))) (few : L.length + 1 < 64)
    (h : ∀ s' L', (k ∈ L.map (·.2) → L' = L) → (k ∉ L.map (·.2) → L'.Perm ((x, k) :: L)) → Inv X pins σ (upd H D (SetTO X.prog X.w D L')) s' → Q .none s') : wpAny (model X.prog X.w) X.A (call (.builtin "set.add") [.ref D, .ref x]) Q E s := by
  have R0 : SetT0 X.prog X.w s.heap D L := (I.hok D _ hD).1
  obtain ⟨es, ep, t, R⟩ := R0.full fun p hp => I.isT (SqT.of (hrow p hp))
  have hxk : IsT X.prog X.w s.heap k x := I.isT (SqT.of hx)
  obtain ⟨o, ho, hex, hd⟩ := R.ob
  refine wpAny_call_entry F.slot_set_add ⟨o, ho, hex.1⟩ F.entry_set_add ?_ (F.args_set_add_2 _ _)
  unfold Builtin.«set.add» Builtin.Frozenset.oneOther
  simp only [List.isEmpty_nil, bind_assoc]
  unfold Builtin.Frozenset.addrOf setAdd
  refine wpAny_bind (wpAny_pure ?_)
  try dsimp only
  refine wpAny_bind (wpAny_pure ?_)
  try dsimp only
  refine wpAny_bind ?_
  refine wpAny_holding ?_
  refine wpAny_bind (wpAny_pyHash_tuple (by show X.A.units + 1 < cLine; omega) hxk ?_)
  refine add_at (A := X.A.in1) (s := { s with toks := s.toks + (k.length + 1) }) R hxk (by show X.A.units + 1 < cLine; omega) few fun b h' L' es' ep' t' sb R' c1 c2 => ?_
  show wpAny _ _ (ret Value.none) _ _ _
  refine wpAny_pure ⟨_, rfl, h _ L' c1 c2 ?_⟩
  obtain ⟨o', ho', _⟩ := R'.ob
  exact I.write (e := D) (t' := s.toks + (k.length + 1)) (by rw [hD]; trivial) (.inl rfl) (fun b u hb hu => (sb.2 b hb).trans hu) ⟨o', ho'⟩ (setTO_new R'.t0)
end Pd
end
section
set_option Elab.async false
set_option linter.all false
set_option maxRecDepth 100000
set_option maxHeartbeats 4000000
namespace Pd
open PySem PySem.Spec PyProof.Rows L2 SrtO Srt PpSet

/-! ### a set comprehension of rows of ints -/
def tScT (P : Program) (w : World) (wi : TI) (g : TG) (tt : TT) (te : TE) (vs : List Nat) : TE := fun σ H Q => wi σ H fun J H1 => ∀ D, H1 D = none → ∃ W : Nat → Nat → Hp → Prop, (∃ m, W 0 m (upd H1 D (SetTO P w D []))) ∧ ∀ i m H, W i m H →
  (J.stop i H ∧ Q (.ref D) H) ∨ (J.go i H ∧ ∃ Nx : Hp → Prop, (∀ H', Nx H' → ∃ m', m' < m ∧ W (i + 1) m' H') ∧ ∀ x H', J.yld i H x H' → g x (L2.wipe σ vs) H' fun σ2 H2 => L2.wipe σ2 vs = L2.wipe σ vs ∧ tt σ2 H2 fun b H3 =>
    if b = true then te σ2 H3 fun y H4 => ∃ (b : Addr) (k : List Int) (L : List (Addr × List Int)), y = .ref b ∧ H4 D = some (SetTO P w D L) ∧ (∀ p ∈ L, H4 p.1 = some (.tup (p.2.map V.int))) ∧ H4 b = some (.tup (k.map V.int)) ∧ L.length + 1 < 64 ∧
      ∀ L' : List (Addr × List Int), (k ∈ L.map (·.2) → L' = L) → (k ∉ L.map (·.2) → L'.Perm ((b, k) :: L)) → Nx (upd H4 D (SetTO P w D L')) else Nx H3)
section
variable {X : Cx}
theorem pe_scT {elt tg iter : Expr} {ifs : List Expr} {scope : Scope} {own : List (Str × Nat)} {pos : Pos} {wi : TI} {g : TG} {tt : TT} {te : TE} (hu : X.A.units + 65 < cLine) (hc : X.calm = true) (hN : X.N.Nodup) (hi : PI X tg iter wi) (ok : BlkOk X.N X.env.scope scope own)
    (hg : ∀ (s : Shared) (H : Hp) (C : Addr) (cl : List (Str × Addr)) (fp : List Addr), PG (X.blk s H scope (compEnvC scope cl C X.env) fp) tg g) (ht : ∀ (s : Shared) (H : Hp) (C : Addr) (cl : List (Str × Addr)) (fp : List Addr), PTs (X.blk s H scope (compEnvC scope cl C X.env) fp) ifs tt)
    (he : ∀ (s : Shared) (H : Hp) (C : Addr) (cl : List (Str × Addr)) (fp : List Addr), PE (X.blk s H scope (compEnvC scope cl C X.env) fp) elt te) (hs : ∀ x, foldedSetIterable iter X.env x = pure x := by intro _; rfl) :
    PE X (.SetComp elt [⟨tg, iter, ifs, 0⟩] scope pos) (tScT X.prog X.w wi g tt te (own.map (·.2))) := by
  refine ⟨fun pins s σ H Q I h => ?_⟩
  rw [eval_SetComp]
  have hasCell : ∀ y ∈ scope.names, y.2 = .free → ∃ c, X.env.cells.lookup y.1 = some c := fun y hy e => (ok.free y hy e).elim (fun k => I.ok.has _ (.inl k)) fun k => I.ok.has _ (.inr k)
  refine wpAny_comprehension_free rfl hs (closure_ok hasCell) ok.kind (fun y hy e => by rw [ok.uniq y hy, e]) (thn (hi.run pins s σ H _ I h) fun xv s1 hx => thn hx fun itv s2 h2 => ?_)
  obtain ⟨it, fp, tn, J, H2, rfl, I2, T, st2, f2, q⟩ := h2
  refine newSet_ok (newEnv_comp ?_)
  generalize hD : s2.heap.objs.size = D
  have hDn : H2 D = none := I2.hok.fresh (Nat.le_of_eq hD)
  obtain ⟨W, ⟨m0, w0⟩, turn⟩ := q D hDn
  generalize hs3 : ({ s2 with heap := s2.heap.push { cls := .type "set", dict := none, data := .set #[] 0 (.fresh 0 0 (!X.w.params.followText "set-order")) } } : Shared) = s3
  have h3 : s3.heap = s2.heap.push { cls := .type "set", dict := none, data := .set #[] 0 (.fresh 0 0 (!X.w.params.followText "set-order")) } := by rw [← hs3]
  have I3 : Inv X pins σ (upd H2 D (SetTO X.prog X.w D [])) s3 := by
    rw [← hs3]
    refine I2.laid (t' := s2.toks) (fun b o e => Heap.get?_push_of_some _ e) (Nat.le_of_eq hD) ?_
    rw [← hD]
    exact setTO_new (setTR_fresh (P := X.prog) (w := X.w) (Heap.get?_push_size _ rfl)).t0
  have lt2 : ∀ b ∈ fp, b < s2.heap.objs.size := fun b hb => by
    obtain ⟨o, e, _⟩ := T.obj _ _ st2 b hb
    exact Heap.lt_size e
  have f3 : ∀ b ∈ fp, FpOk X pins (upd H2 D (SetTO X.prog X.w D [])) b ∧ b < s3.heap.objs.size := fun b hb => by
    have hlt := lt2 b hb
    refine ⟨⟨?_, (f2 b hb).2⟩, by rw [h3, Heap.size_push]; exact Nat.lt_succ_of_lt hlt⟩
    rw [upd_ne (by rw [← hD]; exact Nat.ne_of_lt hlt)]
    exact (f2 b hb).1
  have st3 : tn 0 s3.heap := T.keep _ _ _ st2 fun b _ o e => by rw [h3]; exact Heap.get?_push_of_some _ e
  have I4 := block_start I3 ok hN f3
  generalize hcl : cellsFrom (s3.heap.objs.size + 1) scope.names (cloFrom X.env.cells scope.names []) = cl at I4
  have pg := hg s3 (upd H2 D (SetTO X.prog X.w D [])) s3.heap.objs.size cl fp
  have pt := ht s3 (upd H2 D (SetTO X.prog X.w D [])) s3.heap.objs.size cl fp
  have pe := he s3 (upd H2 D (SetTO X.prog X.w D [])) s3.heap.objs.size cl fp
  have nfp : ∀ b ∈ fp, (upd H2 D (SetTO X.prog X.w D [])) b = none := fun b hb => (f3 b hb).1.1
  show codeAny _ _ (.compStart (.SetComp elt [⟨tg, iter, ifs, 0⟩] scope pos) 0 (.ref it) (.ref D) (compEnvC scope cl s3.heap.objs.size X.env)) (compPost (model X.prog X.w) X.A X.xe _ _ (.ref D) s3.heap.objs.size) { s3 with heap := pushCells (s3.heap.push { cls := .type "dict", data := .dict #[] }) scope.names }
  generalize hce : compEnvC scope cl s3.heap.objs.size X.env = ce at I4 pg pt pe ⊢
  have cL : ce.locals = s3.heap.objs.size := by subst hce; rfl
  generalize hH3 : upd H2 D (SetTO X.prog X.w D []) = H3 at I3 I4 pg pt pe w0 nfp f3
  generalize hs4 : ({ s3 with heap := pushCells (s3.heap.push { cls := .type "dict", data := .dict #[] }) scope.names } : Shared) = s4 at I4 ⊢
  have st4 : tn 0 s4.heap := T.keep _ _ _ st3 fun b _ o e => by rw [← hs4]; exact pushCells_keeps _ _ _ _ (Heap.get?_push_of_some _ e)
  have stat : ∀ {σ' : L2.St} {H' : Hp} {s' : Shared}, Inv (X.blk s3 H3 scope ce fp) [] σ' H' s' → (∀ b ∈ fp, H' b = none) → ∀ b ∈ fp, FpOk (X.blk s3 H3 scope ce fp) [] H' b := fun {σ' H' s'} I' hn b hb =>
    ⟨hn b hb, (I'.ok.exf b hb).1, I'.ok.exfs b hb, .inl hb, fun x c e => (I'.ok.exf b hb).2 x c e, fun p hp => absurd (show p ∈ ([] : List (Addr × Obj)) ++ [] from hp) (by simp)⟩
  refine codeAny_compStart_set ?loop (T.self X.A 0 _ _ _ st4 ?loop)
  refine compLoopS_any (fun n s' => ∃ i H', Inv (X.blk s3 H3 scope ce fp) [] (L2.wipe σ (own.map (·.2))) H' s' ∧ tn i s'.heap ∧ (∀ b ∈ fp, H' b = none) ∧ W i n H') ?_ m0 ⟨0, H3, I4, st4, nfp, w0⟩
  rintro n s5 ⟨i, H5, I5, st5, n5, w5⟩
  rcases turn i n H5 w5 with ⟨stop, qq⟩ | ⟨go, Nx, hNx, step⟩
  · refine thnF (T.done (X.blk s3 H3 scope ce fp) rfl rfl rfl hc i [] s5 _ H5 (fun _ _ => False) I5 (stat I5 n5) st5 stop) fun r s6 ⟨hr, I6⟩ => ?_
    subst hr
    have I7 : Inv X pins σ H5 s6 := I3.call' (ch := fp) I6.os I6.base I6.hok I6.bare fun b hb => ⟨(f3 b hb).1.2.2.2.1, (f3 b hb).1.2.1, (f3 b hb).1.2.2.2.2.1, (f3 b hb).1.2.2.2.2.2⟩
    have nC : H5 s3.heap.objs.size = none := by
      have z : H5 ce.locals = none := I6.free
      rw [cL] at z
      exact z
    obtain ⟨m, hn, _⟩ := I6.loc
    have hn : s6.heap.Ns ce.locals m := hn
    rw [cL] at hn
    refine ⟨m, hn, fun h'' sb => ?_⟩
    obtain ⟨e0, e1, e2, e3, e4, e5⟩ := I3.fpOk (Nat.le_refl _) nC
    exact ⟨.ref D, H5, I7.turned (t' := s6.toks) (fun b o hb e => (sb.2 b hb).trans e) e0 e1 e3 e4 e5, rfl, qq⟩
  · refine thnF (T.item (X.blk s3 H3 scope ce fp) rfl rfl rfl hc i [] s5 _ H5 (fun _ _ => False) I5 (stat I5 n5) st5 go) fun r s6 ⟨u, hr, h6⟩ => ?_
    subst hr
    refine thnF h6 fun _ s7 ⟨x, H7, I7, r7, y7, st7, n7⟩ => ?_
    have I7' := I7.pinned (stat I7 n7) (T.obj _ _ st7)
    refine thnF (pg.run _ s7 _ H7 x u _ I7' r7 (step x H7 y7)) fun _ s8 ⟨σ8, H8, I8, hw8, q8⟩ => ?_
    refine thnF (pt.run _ s8 σ8 H8 _ I8 q8) fun b s9 ⟨H9, I9, q9⟩ => ?_
    have fin : ∀ {s' : Shared} {H' : Hp}, Inv (X.blk s3 H3 scope ce fp) ([] ++ pinsAt fp s7.heap) σ8 H' s' → Nx H' → ∃ m, m < n ∧ ∃ i H', Inv (X.blk s3 H3 scope ce fp) [] (L2.wipe σ (own.map (·.2))) H' s' ∧ tn i s'.heap ∧ (∀ b ∈ fp, H' b = none) ∧ W i m H' := fun {s' H'} I' nx => by
      obtain ⟨m', hm, w'⟩ := hNx H' nx
      have pin' : ∀ b ∈ fp, ∀ o, s7.heap.get? b = some o → s'.heap.get? b = some o ∧ H' b = none := fun b hb o e =>
        let z := I'.pin (b, o) (List.mem_append_right _ (List.mem_append_right _ (mem_pinsAt hb e)))
        ⟨z.1, z.2.1⟩
      have hl : (L2.wipe σ (own.map (·.2))).length = σ8.length := by rw [← hw8, wipe_length]
      refine ⟨m', hm, i + 1, H', (I'.unpinned (pins := [])).weak hl (fun j v e => ?_), T.keep _ _ _ st7 fun b hb o e => (pin' b hb o e).1, fun b hb => ?_, w'⟩
      · rw [← hw8] at e
        exact (wipe_some e).1
      · obtain ⟨o, e, _⟩ := T.obj _ _ st7 b hb
        exact (pin' b hb o e).2
    cases b with
    | false =>
      simp only [Bool.false_eq_true, if_false] at q9 ⊢
      exact fin I9 q9
    | true =>
      simp only [if_true] at q9 ⊢
      refine thnF (pe.run _ s9 σ8 H9 _ I9 q9) fun z s10 ⟨yv, H10, I10, r10, ab, kb, L0, ey, hD10, hr10, hb10, hf10, nx⟩ => ?_
      subst ey
      cases (show z = Value.ref ab from r10)
      exact addT_ok (X := X.blk s3 H3 scope ce fp) I10 hu hD10 hr10 hb10 hf10 fun s11 L' c1 c2 I11 => fin I11 (nx L' c1 c2)
end
end Pd
end
section
set_option Elab.async false
set_option linter.all false
set_option maxRecDepth 100000
set_option maxHeartbeats 4000000
namespace Pd
open PySem PySem.Spec PyProof.Rows L2 SrtO Srt

theorem St.unhide {K : PySem.W.Frag} {tb : Tabs} {α : Ab} {g : Gh} {σ : L2.St} {H : Hp} {p : Addr} (S : St K tb α (g.add p) σ H) : St K tb α g σ H ∧ Ext (vw α (g.add p) H) (vw α g H) := by
  have E : Ext (vw α (g.add p) H) (vw α g H) := ext_hid fun a z => hid_add.mpr (.inl z)
  refine ⟨⟨S.len, fun j d e => ?_, fun j es e => ?_, S.inj, S.dck, fun δ e => ?_, fun a z => S.oin a (.inl z), S.tab, fun q hq z => S.otab q hq (.inl z)⟩, E⟩
  · obtain ⟨v, q1, q2⟩ := S.val j d e
    exact ⟨v, q1, dp_ext E d v q2⟩
  · obtain ⟨q1, q2, ys, q3, q4⟩ := S.own j es e
    exact ⟨q1, fun z => q2 (.inl z), ys, q3, od_ext E q4⟩
  · obtain ⟨q1, q3, q4, q5⟩ := S.dk δ e
    exact ⟨q1, fun z => q3 (.inl z), fun z => q4 (.inl z), q5⟩
/-- each once -/
def dd : List (List Int) → List (List Int)
  | [] => []
  | l :: ls => if l ∈ dd ls then dd ls else l :: dd ls
theorem dd_mem : ∀ {ls : List (List Int)} {r : List Int}, r ∈ dd ls ↔ r ∈ ls
  | [], r => Iff.rfl
  | l :: ls, r => by
    unfold dd
    split
    · rename_i h
      rw [dd_mem, List.mem_cons]
      exact ⟨.inr, fun z => z.elim (fun z => by rw [z]; exact dd_mem.mp h) id⟩
    · rw [List.mem_cons, List.mem_cons, dd_mem]
theorem dd_nodup : ∀ (ls : List (List Int)), (dd ls).Nodup
  | [] => List.nodup_nil
  | l :: ls => by
    unfold dd
    split
    · exact dd_nodup ls
    · rename_i h; exact List.nodup_cons.mpr ⟨h, dd_nodup ls⟩
theorem perm_of_mem {l m : List (List Int)} (h1 : l.Nodup) (h2 : m.Nodup) (h : ∀ r, r ∈ l ↔ r ∈ m) : l.Perm m := by
  induction l generalizing m with
  | nil =>
    cases m with
    | nil => exact .refl _
    | cons x m => exact absurd ((h x).mpr (by simp)) (by simp)
  | cons x l ih =>
    have hx : x ∈ m := (h x).mp (by simp)
    obtain ⟨a, b, rfl⟩ := List.append_of_mem hx
    have hn := List.nodup_append.mp h2
    obtain ⟨hx1, hl⟩ := List.nodup_cons.mp h1
    have hp : (a ++ x :: b).Perm (x :: (a ++ b)) := List.perm_middle
    have h2' := (hp.nodup_iff).mp h2
    obtain ⟨hx2, hab⟩ := List.nodup_cons.mp h2'
    refine ((ih hl hab fun r => ?_).cons x).trans hp.symm
    constructor
    · intro hr
      have hm := (h r).mp (List.mem_cons_of_mem _ hr)
      rcases List.mem_cons.mp (hp.mem_iff.mp hm) with e | e
      · subst e; exact absurd hr hx1
      · exact e
    · intro hr
      have hm := (h r).mpr (hp.mem_iff.mpr (List.mem_cons_of_mem _ hr))
      rcases List.mem_cons.mp hm with e | e
      · subst e; exact absurd hr hx2
      · exact e
def dSortS (ds : List PyData) : Option (List PyData) := match toRows ds with
  | some ls => if ls.all (fun l => !l.isEmpty) = true then some ((sortL (dd ls)).map rowD) else none
  | none => none
theorem toInts_rows {l : List Int} {ls : List (List Int)} : toInts ((l :: ls).map rowD) = none := rfl
theorem toInts_map : ∀ l : List Int, toInts (l.map PyData.int) = some l
  | [] => rfl
  | n :: l => by
    show (toInts (l.map PyData.int)).map (n :: ·) = _
    rw [toInts_map l]; rfl
theorem toRows_map : ∀ ls : List (List Int), toRows (ls.map rowD) = some ls
  | [] => rfl
  | l :: ls => by
    show (match toInts (l.map PyData.int), toRows (ls.map rowD) with | some ns, some ls => some (ns :: ls) | _, _ => none) = _
    rw [toInts_map l, toRows_map ls]
theorem sortS_ok {ls : List (List Int)} {L1 : List (Addr × List Int)} (hne : ls.all (fun l => !l.isEmpty) = true) (hn : (L1.map (·.2)).Nodup) (hm : ∀ r, r ∈ L1.map (·.2) ↔ r ∈ ls) : dSort (L1.map fun p => rowD p.2) = some ((sortL (dd ls)).map rowD) := by
  have hp : (L1.map (·.2)).Perm (dd ls) := perm_of_mem hn (dd_nodup ls) fun r => (hm r).trans dd_mem.symm
  have e0 : (L1.map fun p => rowD p.2) = (L1.map (·.2)).map rowD := by rw [List.map_map]; rfl
  have hs : sortL (L1.map (·.2)) = sortL (dd ls) := by
    refine sortL_uniq ((List.mergeSort_perm _ _).trans hp) ?_
    refine (List.pairwise_mergeSort (le := fun a b : List Int => !HT.lexLt b a) (fun a b c h1 h2 => ?_) (fun a b => ?_) _).imp fun h => by simpa using h
    · have h1 : HT.lexLt b a = false := by simpa using h1
      have h2 : HT.lexLt c b = false := by simpa using h2
      have := NtL.lex_tr _ _ _ h1 h2
      simp [this]
    · rcases lex_total a b with h | h <;> simp [h]
  rw [e0, ← hs]
  cases hL : L1.map (·.2) with
  | nil => simp [dSort, toInts, sortI, sortL]
  | cons l r =>
    unfold dSort
    rw [toInts_rows, toRows_map]
    simp only
    rw [if_pos]
    refine List.all_eq_true.mpr fun x hx => ?_
    exact List.all_eq_true.mp hne x ((hm x).mp (by rw [hL]; exact hx))
def mSortS (vs : List Nat) (ti : M (List PyData)) (gt : G1) (tt : M Bool) (te : M PyData) : M (List PyData) := fun α => match ti α with
  | none => none
  | some (ds, α1) => if okVs vs α1.ρ && decide (ds.length < 63) then (match lcGo vs gt tt te ds (α1.wipe vs) with
    | none => none
    | some (ys, α2) => match dSortS ys with | none => none | some out => some (out, α1.rest α2 vs)) else none
section
variable {X : Cx} {tb : List (Addr × Addr)} {elt tg iter : Expr} {ifs : List Expr} {scope : Scope} {own : List (Str × Nat)} {p pos spos : Pos} {ti : M (List PyData)} {gt : G1} {tt : M Bool} {te : M PyData} {ws : List Nat}
theorem mapRow_app {as bs : List PyData} {ls : List (List Int)} (h : as ++ bs = ls.map rowD) : ∃ l1 l2, ls = l1 ++ l2 ∧ as = l1.map rowD ∧ bs = l2.map rowD := by
  obtain ⟨l1, l2, h1, h2, h3⟩ := List.append_eq_map_iff.mp h
  exact ⟨l1, l2, h1, h2.symm, h3.symm⟩
theorem rf_sortS (hu : X.A.units + 65 < cLine) (hc : X.calm = true) (hN : X.N.Nodup) (gl : Gl X "sorted") (hm : X.mg "sorted" = none) (hi : RI X tb tg iter ti) (ok : BlkOk X.N X.env.scope scope own) (hws : ∀ j ∈ ws, j ∈ own.map (·.2))
    (hg : ∀ (s : Shared) (H : Hp) (C : Addr) (cl : List (Str × Addr)) (fp : List Addr), RG (X.blk s H scope (compEnvC scope cl C X.env) fp) tb tg gt ws) (ht : ∀ (s : Shared) (H : Hp) (C : Addr) (cl : List (Str × Addr)) (fp : List Addr), RTs (X.blk s H scope (compEnvC scope cl C X.env) fp) tb ifs tt)
    (he : ∀ (s : Shared) (H : Hp) (C : Addr) (cl : List (Str × Addr)) (fp : List Addr), RE (X.blk s H scope (compEnvC scope cl C X.env) fp) tb elt te) (hs : ∀ x, foldedSetIterable iter X.env x = pure x := by intro _; rfl)
    (hst : starEach [.SetComp elt [⟨tg, iter, ifs, 0⟩] scope spos] X.env = (false, eval (.SetComp elt [⟨tg, iter, ifs, 0⟩] scope spos) X.env) :: starEach [] X.env := by rfl) :
    RF X tb (.Call (.Name "sorted" p) [.SetComp elt [⟨tg, iter, ifs, 0⟩] scope spos] [] pos) (mSortS (own.map (·.2)) ti gt tt te) := fun α zs α' h σ H g Q S k => by
  generalize hvs : own.map (·.2) = vs at *
  unfold mSortS at h
  split at h
  · cases h
  rename_i ds α1 e1
  split at h
  case isFalse => cases h
  rename_i hcond
  rw [Bool.and_eq_true, decide_eq_true_eq] at hcond
  obtain ⟨okv, hlen⟩ := hcond
  split at h
  · cases h
  rename_i ys0 α2 e2
  split at h
  · cases h
  rename_i out0 eo
  cases h
  unfold dSortS at eo
  split at eo
  case h_2 => cases eo
  rename_i rows er
  obtain ⟨hne, rfl⟩ := ite_some eo
  have eys := toRows_some er
  subst eys
  obtain ⟨wi, hPI, hwi⟩ := hi _ _ _ e1
  refine U_of (pe_callB (call_srtS (by omega) hc) gl hm bt_sorted (pa_cons (pe_scT (g := bG X scope tg) (tt := bTs X scope ifs) (te := bE X scope elt) hu hc hN hPI ok (fun s H0 C cl fp => ⟨fun pins s' σ H v u Q I r h => h s H0 C cl fp pins s' u I r⟩) (fun s H0 C cl fp => ⟨fun pins s' σ H Q I h => h s H0 C cl fp pins s' I⟩) (fun s H0 C cl fp => ⟨fun pins s' σ H Q I h => h s H0 C cl fp pins s' I⟩) hs) pa_nil hst) (by decide) (by decide) hst) ?_
  rw [hvs]
  show tScT X.prog X.w wi (bG X scope tg) (bTs X scope ifs) (bE X scope elt) vs σ H fun v H1 => rSrtS X.K X.prog X.w [v] H1 Q
  unfold tScT
  refine hwi σ H g _ S fun J H1 S1 w1 hJ => ?_
  intro D hD
  have nO : ¬ g.O D := fun z => (S1.oin D z).1 hD
  let W : Nat → Hp → Prop := fun i Hx => ∃ αi done rest L, i ≤ ds.length ∧ lcGo vs gt tt te (ds.drop i) αi = some (rest.map rowD, α2) ∧ done ++ rest = rows ∧ done.length ≤ i ∧
    St X.K tb αi (g.add D) (L2.wipe σ vs) Hx ∧ Ext (vw α1 g H1) (vw αi (g.add D) Hx) ∧ (∀ a, g.O a → Hx a = H1 a) ∧ Hx D = some (SetTO X.prog X.w D L) ∧ (L.map (·.2)).Nodup ∧ (∀ r, r ∈ L.map (·.2) ↔ r ∈ done) ∧ L.length ≤ i ∧ ∀ q ∈ L, vw αi (g.add D) Hx q.1 = some (.tup (q.2.map V.int))
  refine ⟨fun i m Hx => m = ds.length - i ∧ W i Hx, ⟨_, rfl, ?_⟩, ?_⟩
  · have F := S1.fresh hD (.nil)
    obtain ⟨S2, V2⟩ := F.st.hide (D := D) (o := SetTO X.prog X.w D []) (.inr rfl)
    have uu : upd (upd H1 D (.lst [])) D (SetTO X.prog X.w D []) = upd H1 D (SetTO X.prog X.w D []) := by
      funext b
      by_cases e : b = D
      · rw [e, upd_same, upd_same]
      · rw [upd_ne e, upd_ne e, upd_ne e]
    rw [uu] at S2 V2
    obtain ⟨S3, E3⟩ := S2.wipe vs
    refine ⟨_, [], rows, [], Nat.zero_le _, e2, rfl, Nat.le_refl _, S3, F.ext.trans (by rw [← V2]; exact E3), fun a ha => upd_ne fun z => nO (by rw [← z]; exact ha), upd_same, List.nodup_nil, fun r => Iff.rfl, Nat.le_refl _, fun q hq => by simp at hq⟩
  rintro i m Hx ⟨rfl, αi, done, rest, L, hi', hgo, hcat, hdl, Si, Ei, Oi, hDx, hnd, hmem, hLl, hrow⟩
  by_cases hlt : i < ds.length
  · have hdr : ds.drop i = ds[i] :: ds.drop (i + 1) := List.drop_eq_getElem_cons hlt
    rw [hdr] at hgo
    refine .inr ⟨hJ.go Si Ei hlt, W (i + 1), fun H' w => ⟨ds.length - (i + 1), by omega, rfl, w⟩, fun x H' hy => ?_⟩
    obtain ⟨d, hd, Sy, wy, qy⟩ := hJ.yld Si Ei hlt hy
    have hd' : d = ds[i] := by rw [List.getElem?_eq_getElem hlt] at hd; exact (Option.some.inj hd).symm
    subst hd'
    unfold lcGo at hgo
    split at hgo
    · cases hgo
    rename_i αa ea
    intro s0 H00 C0 cl0 fp0
    refine hg s0 H00 C0 cl0 fp0 _ _ _ ea (L2.wipe σ vs) H' (g.add D) x _ Sy qy fun σ2 H2 Sa wa la oa => ?_
    have hw : L2.wipe σ2 vs = L2.wipe σ vs := (wipe_same la fun j hj => oa j fun z => hj (hws j z)).trans wipe_wipe
    refine ⟨hw, fun s1 H11 C1 cl1 fp1 => ?_⟩
    split at hgo
    · cases hgo
    · rename_i αb eb
      refine ht s1 H11 C1 cl1 fp1 _ _ _ eb σ2 H2 (g.add D) _ Sa fun H3 Sb wb => ?_
      rw [if_pos rfl]
      intro s2 H22 C2 cl2 fp2
      split at hgo
      · cases hgo
      rename_i y αc ec
      split at hgo
      · cases hgo
      rename_i rs αd ed
      have hgo' := Option.some.inj hgo
      have hy1 : y :: rs = rest.map rowD := congrArg Prod.fst hgo'
      have ha1 : αd = α2 := congrArg Prod.snd hgo'
      subst ha1
      cases rest with
      | nil => cases hy1
      | cons r rest =>
        have hyr : y = rowD r := (List.cons.inj hy1).1
        have hrs : rs = rest.map rowD := (List.cons.inj hy1).2
        subst hyr hrs
        refine he s2 H22 C2 cl2 fp2 _ _ _ ec σ2 H3 (g.add D) _ Sb fun v H4 Sc wc qc => ?_
        have dD : ∀ {a : Addr}, (g.add D).O a → H4 a = Hx a := fun {a} h => (wc.out a h).trans ((wb.out a h).trans ((wa.out a h).trans (wy.out a h)))
        have eD : H4 D = some (SetTO X.prog X.w D L) := (dD (.inr rfl)).trans hDx
        have ext4 : Ext (vw αi (g.add D) Hx) (vw αc (g.add D) H4) := wy.ext.trans (wa.ext.trans (wb.ext.trans wc.ext))
        unfold rowD at qc
        cases qc with
        | @tup b xs _ hb ra =>
        cases dpa_ints_inv ra
        refine ⟨b, r, L, rfl, eD, fun q hq => (vw_some (ext4.T (hrow q hq))).1, (vw_some hb).1, by omega, fun L' c1 c2 => ?_⟩
        obtain ⟨Sd, Vd⟩ := Sc.hide (D := D) (o := SetTO X.prog X.w D L') (.inr rfl)
        obtain ⟨Se, Ee⟩ := Sd.wipe vs
        rw [hw] at Se
        have ext5 : Ext (vw αc (g.add D) H4) (vw (αc.wipe vs) (g.add D) (upd H4 D (SetTO X.prog X.w D L'))) := by rw [← Vd]; exact Ee
        have hrow5 : ∀ q ∈ L, vw (αc.wipe vs) (g.add D) (upd H4 D (SetTO X.prog X.w D L')) q.1 = some (.tup (q.2.map V.int)) := fun q hq => ext5.T (ext4.T (hrow q hq))
        have hb5 := ext5.T hb
        refine ⟨_, done ++ [r], rest, L', hlt, ed, by rw [List.append_assoc]; exact hcat, by rw [List.length_append, List.length_singleton]; omega, Se, Ei.trans (ext4.trans ext5), fun a ha => ?_, upd_same, ?_⟩
        · rw [upd_ne fun z => nO (by rw [← z]; exact ha)]
          exact (dD (.inl ha)).trans (Oi a ha)
        · by_cases hr : r ∈ L.map (·.2)
          · rw [c1 hr]
            refine ⟨hnd, fun z => ?_, by omega, by rw [c1 hr] at hrow5; exact hrow5⟩
            rw [hmem z, List.mem_append, List.mem_singleton]
            exact ⟨.inl, fun h => h.elim id fun h => by rw [h]; exact (hmem r).mp hr⟩
          · have hp := c2 hr
            refine ⟨?_, fun z => ?_, ?_, fun q hq => ?_⟩
            · refine ((hp.map (·.2)).nodup_iff).mpr ?_
              rw [List.map_cons]
              exact List.nodup_cons.mpr ⟨hr, hnd⟩
            · rw [(hp.map (·.2)).mem_iff, List.map_cons, List.mem_cons, hmem z, List.mem_append, List.mem_singleton]
              exact ⟨fun h => h.symm, fun h => h.symm⟩
            · rw [hp.length_eq, List.length_cons]; omega
            · rcases List.mem_cons.mp (hp.mem_iff.mp hq) with e | hq
              · subst e; exact hb5
              · exact hrow5 q hq
    · rename_i αb eb
      refine ht s1 H11 C1 cl1 fp1 _ _ _ eb σ2 H2 (g.add D) _ Sa fun H3 Sb wb => ?_
      rw [if_neg (by decide)]
      have dD : ∀ {a : Addr}, (g.add D).O a → H3 a = Hx a := fun {a} h => (wb.out a h).trans ((wa.out a h).trans (wy.out a h))
      obtain ⟨Se, Ee⟩ := Sb.wipe vs
      rw [hw] at Se
      have ext4 : Ext (vw αi (g.add D) Hx) (vw (αb.wipe vs) (g.add D) H3) := wy.ext.trans (wa.ext.trans (wb.ext.trans Ee))
      exact ⟨_, done, rest, L, hlt, hgo, hcat, by omega, Se, Ei.trans ext4, fun a ha => (dD (.inl ha)).trans (Oi a ha), (dD (.inr rfl)).trans hDx, hnd, hmem, by omega, fun q hq => ext4.T (hrow q hq)⟩
  · have hi2 : ds.length ≤ i := by omega
    rw [List.drop_eq_nil_of_le hi2] at hgo
    have hgo' := Option.some.inj hgo
    have hr0 : rest = [] := List.map_eq_nil_iff.mp (congrArg Prod.fst hgo').symm
    have ha1 : αi = α2 := congrArg Prod.snd hgo'
    subst hr0 ha1
    rw [List.append_nil] at hcat
    subst hcat
    refine .inl ⟨hJ.stop Si Ei hi2, ?_⟩
    obtain ⟨Sr, Er⟩ := St.rest S1 Si okv Ei
    obtain ⟨Su, Eu⟩ := Sr.unhide
    refine ⟨D, L, vw (α1.rest αi vs) g Hx, (sortL (dd done)).map rowD, rfl, hDx, fun b o z => (vw_some z).1, fun q hq => Eu.T (Er.T (hrow q hq)), fun L1 p1 => ?_, fun q ys hq hy => ?_⟩
    · exact sortS_ok hne (((p1.map (·.2)).nodup_iff).mpr hnd) fun r => ((p1.map (·.2)).mem_iff).trans (hmem r)
    · exact k _ _ (.trans ⟨w1.ext.trans (Ei.trans (Er.trans Eu)), fun a ha => (Oi a ha).trans (w1.out a ha)⟩ (Su.fresh hq hy))
end
end Pd
end
section
set_option Elab.async false
set_option linter.all false
set_option maxRecDepth 100000
set_option maxHeartbeats 400000
namespace Pd
open PySem PySem.Spec PyProof.Rows L2
/-- .. with any piece of the text that stands in the heap (the tables of code objects left out) -/
theorem walk_GE {l : PySem.W.OpenLaw} {n k : Nat} {q : Program} {loose : List Str} {XP : (Str → Option Value) → Heap → Prop} {YP : World → Heap → Prop} {d : DefRec} {x : Str}
    (hn : l.most = some n) (hn2 : n ≤ 63) (hdf : d.params.defaults = []) (hr : RoomG k callerA)
    (F : ∀ (w : World) (mg : Str → Option Value) (fa : Addr) (h : Heap), YP w h → h.Ns mainGlobals mg → mg d.name = some (.ref fa) → ∃ K : PySem.W.Frag, K.In h ∧ LawG l w K k x mg fa h) :
    PySem.W.WalkO q loose XP YP l.row.toRowW d [] (fun f vs => PySem.call f vs) := by
  refine Att.attach_callB hn hdf fun w s₀ s₁ mg mb fa o pm cd doc a vs ns G Y ho hd hcd hmg hobj hints hlen hbits hg => ?_
  obtain ⟨K, inK, fd, cs, h1, h2, h3, h4, h5⟩ := F w mg fa _ Y G.T.g hmg
  exact law_callG hr inK G.T.g G.T.b G.T.builtins G.T.nolimit hg h1 h2 h3 G.T.bmain hobj hints (Nat.le_trans hlen hn2) hbits h5 h4
/-- a piece of the text without some addresses -/
def dropK' (K : PySem.W.Frag) (T : List Addr) : PySem.W.Frag := K.filter fun p => !T.contains p.1
theorem mem_look {l : PySem.W.Frag} {a : Addr} {o : Obj} (h : l.lookup a = some o) : (a, o) ∈ l := by
  obtain ⟨l1, l2, e, -⟩ := List.lookup_eq_some_iff.mp h
  rw [e]
  exact List.mem_append_right _ List.mem_cons_self
theorem dropK_lookup {K : PySem.W.Frag} {T : List Addr} {a : Addr} {o : Obj} (h : (dropK' K T).lookup a = some o) : (a, o) ∈ K ∧ a ∉ T := by
  unfold dropK' at h
  have := List.mem_filter.mp (mem_look h)
  exact ⟨this.1, by simpa using this.2⟩
theorem dropK_none {K : PySem.W.Frag} {T : List Addr} {a : Addr} (h : a ∈ T) : (dropK' K T).lookup a = none := by
  cases e : (dropK' K T).lookup a with
  | none => rfl
  | some o => exact absurd h (dropK_lookup e).2
end Pd
end
section
set_option Elab.async false
set_option linter.all false
set_option maxRecDepth 100000
set_option maxHeartbeats 400000
namespace Pd
open PySem PySem.Spec PyProof.Rows L2
/-! ### the facts of a head, collected -/
theorem dropK_look {K : PySem.W.Frag} {T : List Addr} {f : Addr} {o : Obj} (l : K.lookup f = some o) (n : T.contains f = false) : (dropK' K T).lookup f = some o := by
  unfold dropK'
  induction K with
  | nil => exact l
  | cons p K ih =>
    obtain ⟨a, q⟩ := p
    rw [List.lookup_cons] at l
    by_cases e : f = a
    · subst e
      rw [beq_self_eq_true] at l
      rw [List.filter_cons_of_pos (by simpa using n), List.lookup_cons, beq_self_eq_true]
      exact l
    · have e' : (f == a) = false := by simpa using e
      rw [e'] at l
      by_cases c : T.contains a = true
      · rw [List.filter_cons_of_neg (by simpa using c)]
        exact ih l
      · rw [List.filter_cons_of_pos (by simpa using c), List.lookup_cons, e']
        exact ih l
theorem dropK_code {K : PySem.W.Frag} {T : List Addr} {c : Addr} {q : Str} (h : PySem.W.codeIn K (.ref c) q = true) (n : T.contains c = false) : PySem.W.codeIn (dropK' K T) (.ref c) q = true := by
  unfold PySem.W.codeIn at h ⊢
  cases e : K.lookup c with
  | none => simp only [e] at h; cases h
  | some o =>
    simp only [dropK_look e n]
    simp only [e] at h
    exact h
theorem keep_fn {K : PySem.W.Frag} {f : Addr} {oc : Value} {od : Option Addr} {fd : FuncData} {sl : Array (Option Value)} (l : K.lookup f = some ⟨oc, od, .func fd, sl⟩) : PySem.W.keepIn K (.ref f) = true := by
  unfold PySem.W.keepIn
  simp only [l]
theorem dropK_sub {K : PySem.W.Frag} {T : List Addr} {f : Addr} {o : Obj} (l : (dropK' K T).lookup f = some o) : K.lookup f = some o := by
  have nT := (dropK_lookup l).2
  unfold dropK' at l
  induction K with
  | nil => exact l
  | cons p K ih =>
    obtain ⟨a, q⟩ := p
    rw [List.lookup_cons]
    by_cases c : T.contains a = true
    · rw [List.filter_cons_of_neg (by simpa using c)] at l
      have e : (f == a) = false := by
        simp only [beq_eq_false_iff_ne]
        rintro rfl
        exact nT (by simpa using c)
      rw [e]
      exact ih l
    · rw [List.filter_cons_of_pos (by simpa using c), List.lookup_cons] at l
      split at l
      · exact l
      · exact ih l
theorem dropK_in {K : PySem.W.Frag} {T : List Addr} {h : Heap} (X : K.In h) : (dropK' K T).In h := fun a o e => X a o (dropK_sub e)
section
variable {K : PySem.W.Frag} {T : List Addr} {h : Heap} {mg : Str → Option Value} {x : Str} {st : Stmt} {ps : List Str} {f : Addr} {oc : Value} {od : Option Addr} {kV dc pm : Value} {an : Option Addr} {cd ct : Value} {sl : Array (Option Value)}
/-- how a def of the text binds, by place and by name -/
def BindG (x : Str) (st : Stmt) (ps : List Str) : Prop := (∀ (kV doc pm : Value) (an : Option Addr) (cdv ct : Value) (us ws : List Value), us.length + ws.length = ps.length → bindArgs (PySem.W.fnOf x x (defArgs st) (defBody st) (defScope st) .none kV doc pm an cdv ct) ⟨us, (ps.drop us.length).zip ws⟩ = pure (ps.zip (us ++ ws))) ∧
  ∀ (kV doc pm : Value) (an : Option Addr) (cdv ct : Value) (ws : List Value), ws.length = ps.length → bindArgs (PySem.W.fnOf x x (defArgs st) (defBody st) (defScope st) .none kV doc pm an cdv ct) ⟨[], ps.reverse.zip ws⟩ = pure (ps.zip ws.reverse)
theorem bindG_1 (b : BindG x st ps) : ∀ (us : List Value), us.length = ps.length → bindArgs (PySem.W.fnOf x x (defArgs st) (defBody st) (defScope st) .none kV dc pm an cd ct) ⟨us, []⟩ = pure (ps.zip us) := fun us hl => by
  have := b.1 kV dc pm an cd ct us [] (by simpa using hl)
  rw [List.zip_nil_right, List.append_nil] at this
  exact this
theorem fun_of (l : K.lookup f = some ⟨oc, od, .func (PySem.W.fnOf x x (defArgs st) (defBody st) (defScope st) .none kV dc pm an cd ct), sl⟩) (c : ∃ ca, cd = .ref ca ∧ PySem.W.codeIn K (.ref ca) x = true ∧ T.contains ca = false) (n : T.contains f = false) :
    Fun (dropK' K T) x x st f (PySem.W.fnOf x x (defArgs st) (defBody st) (defScope st) .none kV dc pm an cd ct) := by
  obtain ⟨ca, rfl, hc, nc⟩ := c
  have l' := dropK_look l n
  exact fun_mk l' (dropK_code hc nc) (keep_fn l')
theorem defD_of (X : K.In h) (G : h.Ns mainGlobals mg) (a : PySem.W.nsIn K mainGlobals x = some (some (.ref f))) (l : K.lookup f = some ⟨oc, od, .func (PySem.W.fnOf x x (defArgs st) (defBody st) (defScope st) .none kV dc pm an cd ct), sl⟩)
    (c : ∃ ca, cd = .ref ca ∧ PySem.W.codeIn K (.ref ca) x = true ∧ T.contains ca = false) (n : T.contains f = false) (b : BindG x st ps) : DefD (dropK' K T) mg x st ps :=
  ⟨f, _, fun_of l c n, PySem.W.mg_of X G a, .all (bindG_1 b), ⟨fun s us ws _ hl => .of_eq (b.1 kV dc pm an cd ct us ws hl), fun s ws _ hl => .of_eq (b.2 kV dc pm an cd ct ws hl)⟩⟩
theorem defT_of {base : Heap} {tb : Tabs} {ca P' : Addr} (X : K.In h) (G : h.Ns mainGlobals mg) (a : PySem.W.nsIn K mainGlobals x = some (some (.ref f))) (l : K.lookup f = some ⟨oc, od, .func (PySem.W.fnOf x x (defArgs st) (defBody st) (defScope st) .none kV dc pm an (.ref ca) ct), sl⟩)
    (c : PySem.W.codeIn K (.ref ca) x = true) (nc : T.contains ca = false) (n : T.contains f = false) (b : BindG x st ps) (hP : (ca, P') ∈ tb) (TB : ∀ p ∈ tb, GxR.TabB base mg p.1 p.2) : DefT (dropK' K T) mg base tb x st ps :=
  ⟨f, _, ca, P', oc, od, kV, dc, pm, an, ct, sl, rfl, dropK_look l n, dropK_code c nc, keep_fn (dropK_look l n), PySem.W.mg_of X G a, .all (bindG_1 b), ⟨fun s us ws _ hl => .of_eq (b.1 kV dc pm an (.ref ca) ct us ws hl), fun s ws _ hl => .of_eq (b.2 kV dc pm an (.ref ca) ct ws hl)⟩, hP, TB _ hP⟩
theorem blt_of (X : K.In h) (G : h.Ns mainGlobals mg) (a : (["len", "int", "bool", "str", "list", "tuple", "min", "max", "sorted", "repr", "range", "zip", "enumerate", "all", "isinstance", "set", "sum", "dict"] : List Str).all (fun x => match PySem.W.nsIn K mainGlobals x with | some none => true | _ => false) = true) : Blt mg := by
  refine ⟨fun x hx => PySem.W.mg_none_of X G ?_⟩
  have := List.all_eq_true.mp a x hx
  split at this
  · assumption
  · cases this
theorem kitD {K : PySem.W.Frag} : KitD K := by
  intro d T b h
  refine kit_ty ?_
  revert h
  cases d <;> simp only [isOf] <;> intro h <;> (repeat' (split at h)) <;> simp_all <;> (first | rfl | (rename_i q; rcases q with rfl | rfl | rfl | rfl | rfl | rfl <;> rfl) | (rename_i q; rcases q with rfl | rfl | rfl | rfl | rfl <;> rfl) | (rename_i q; rcases q with rfl | rfl | rfl | rfl <;> rfl) | (rename_i q; rcases q with rfl | rfl <;> rfl) | skip)
/-- the tables, and what is known of them -/
theorem lawG_of {l : PySem.W.OpenLaw} {w : World} {k : Nat} {fa f : Addr} {cs : List (Addr × Addr)} (X : K.In h) (G : h.Ns mainGlobals mg) (hfa : mg x = some (.ref fa))
    (a : PySem.W.nsIn K mainGlobals "law" = some (some (.ref f))) (e : x = "law")
    (h1 : ∀ p ∈ cs, K.lookup p.2 = some { cls := .none, data := .fields #[] }) (hT : T = cs.map (·.2)) (h3 : ∀ p ∈ cs, PySem.W.codeHdIn K p.1 p.2 = true)
    {sn : Str} (hb : ∃ fd : FuncData, (∀ (s : Shared) (u : Value), BindsTo s fd ⟨[u], []⟩ [(sn, u)]) ∧ ∀ base : Heap, (dropK' K T).In base → base.Ns mainGlobals mg → (∀ p ∈ cs, GxR.TabB base mg p.1 p.2) → FnG l.prog w (dropK' K T) mg base k f fd [sn] (spLaw (dropK' K T) cs)) :
    ∃ K' : PySem.W.Frag, K'.In h ∧ LawG l w K' k sn mg fa h := by
  subst e
  have e := hfa.symm.trans (PySem.W.mg_of X G a)
  cases e
  obtain ⟨fd, b, run⟩ := hb
  refine ⟨dropK' K T, dropK_in X, fd, cs, fun p hp => X _ _ (h1 p hp), fun p hp => dropK_none (by rw [hT]; exact List.mem_map_of_mem hp), fun p hp => PySem.W.codeHd_of_K X (h3 p hp), b, run⟩
end
section
theorem ln0 {A : Type} {l : List A} (h : l.length = 0) : l = [] := List.eq_nil_of_length_eq_zero h
theorem ln1 {A : Type} {l : List A} (h : l.length = 1) : ∃ a, l = [a] := by
  match l, h with
  | [a], _ => exact ⟨a, rfl⟩
theorem ln2 {A : Type} {l : List A} (h : l.length = 2) : ∃ a b, l = [a, b] := by
  match l, h with
  | [a, b], _ => exact ⟨a, b, rfl⟩
theorem ln3 {A : Type} {l : List A} (h : l.length = 3) : ∃ a b c, l = [a, b, c] := by
  match l, h with
  | [a, b, c], _ => exact ⟨a, b, c, rfl⟩
theorem sp0 {A : Type} {us ws : List A} (h : us.length + ws.length = 0) : us = [] ∧ ws = [] := ⟨ln0 (by omega), ln0 (by omega)⟩
theorem sp1 {A : Type} {us ws : List A} (h : us.length + ws.length = 1) : (∃ a, us = [a] ∧ ws = []) ∨ ∃ a, us = [] ∧ ws = [a] := by
  cases us with
  | nil => obtain ⟨a, e⟩ := ln1 (l := ws) (by simpa using h); exact .inr ⟨a, rfl, e⟩
  | cons a us =>
    have h : us.length + 1 + ws.length = 1 := h
    obtain ⟨rfl, rfl⟩ := sp0 (us := us) (ws := ws) (by omega)
    exact .inl ⟨a, rfl, rfl⟩
theorem sp2 {A : Type} {us ws : List A} (h : us.length + ws.length = 2) : (∃ a b, us = [a, b] ∧ ws = []) ∨ (∃ a b, us = [a] ∧ ws = [b]) ∨ ∃ a b, us = [] ∧ ws = [a, b] := by
  cases us with
  | nil => obtain ⟨a, b, e⟩ := ln2 (l := ws) (by simpa using h); exact .inr (.inr ⟨a, b, rfl, e⟩)
  | cons a us =>
    have h : us.length + 1 + ws.length = 2 := h
    rcases sp1 (us := us) (ws := ws) (by omega) with ⟨b, rfl, rfl⟩ | ⟨b, rfl, rfl⟩
    · exact .inl ⟨a, b, rfl, rfl⟩
    · exact .inr (.inl ⟨a, b, rfl, rfl⟩)
theorem sp3 {A : Type} {us ws : List A} (h : us.length + ws.length = 3) : (∃ a b c, us = [a, b, c] ∧ ws = []) ∨ (∃ a b c, us = [a, b] ∧ ws = [c]) ∨ (∃ a b c, us = [a] ∧ ws = [b, c]) ∨ ∃ a b c, us = [] ∧ ws = [a, b, c] := by
  cases us with
  | nil => obtain ⟨a, b, c, e⟩ := ln3 (l := ws) (by simpa using h); exact .inr (.inr (.inr ⟨a, b, c, rfl, e⟩))
  | cons a us =>
    have h : us.length + 1 + ws.length = 3 := h
    rcases sp2 (us := us) (ws := ws) (by omega) with ⟨b, c, rfl, rfl⟩ | ⟨b, c, rfl, rfl⟩ | ⟨b, c, rfl, rfl⟩
    · exact .inl ⟨a, b, c, rfl, rfl⟩
    · exact .inr (.inl ⟨a, b, c, rfl, rfl⟩)
    · exact .inr (.inr (.inl ⟨a, b, c, rfl, rfl⟩))
end
end Pd
end
section
set_option Elab.async false
set_option linter.all false
set_option maxRecDepth 100000
set_option maxHeartbeats 2000000
namespace Pd
open PySem PySem.Spec PyProof.Rows L2

/-! ### dicts of one's own -/
section
variable {κ : Type} [DecidableEq κ]
def vD (es : List (κ × PyData)) (k : κ) : Option PyData := (es.find? fun p => decide (p.1 = k)).map (·.2)
def putD (es : List (κ × PyData)) (k : κ) (d : PyData) : List (κ × PyData) :=
  if (es.any fun p => decide (p.1 = k)) = true then es.map (fun p => if p.1 = k then (p.1, d) else p) else es ++ [(k, d)]
/-- the same keys, and the data of the values -/
def DK (K : PySem.W.Frag) (H : Hp) (kvs : List (κ × V)) (es : List (κ × PyData)) : Prop := kvs.map (·.1) = es.map (·.1) ∧ RpA K H (kvs.map (·.2)) (es.map (·.2))
variable {K : PySem.W.Frag} {H : Hp}
theorem DK.nil : DK K H ([] : List (κ × V)) [] := ⟨rfl, .nil⟩
theorem DK.cons {p : κ × V} {q : κ × PyData} {kvs : List (κ × V)} {es : List (κ × PyData)} (e : p.1 = q.1) (r : Rp K H p.2 q.2) (t : DK K H kvs es) : DK K H (p :: kvs) (q :: es) :=
  ⟨by rw [List.map_cons, List.map_cons, e, t.1], .cons r t.2⟩
theorem DK.inv {p : κ × V} {kvs : List (κ × V)} {es : List (κ × PyData)} (h : DK K H (p :: kvs) es) : ∃ q es', es = q :: es' ∧ p.1 = q.1 ∧ Rp K H p.2 q.2 ∧ DK K H kvs es' := by
  obtain ⟨h1, h2⟩ := h
  cases es with
  | nil => cases h1
  | cons q es =>
    rw [List.map_cons, List.map_cons, List.cons.injEq] at h1
    cases h2 with
    | cons a b => exact ⟨q, es, rfl, h1.1, a, h1.2, b⟩
theorem DK.inv0 {es : List (κ × PyData)} (h : DK K H ([] : List (κ × V)) es) : es = [] := by
  cases es with
  | nil => rfl
  | cons q es => cases h.1
theorem DK.len {kvs : List (κ × V)} {es : List (κ × PyData)} (h : DK K H kvs es) : kvs.length = es.length := by
  have := congrArg List.length h.1
  simpa using this
theorem DK.app {kvs ks : List (κ × V)} {es fs : List (κ × PyData)} (h : DK K H kvs es) (t : DK K H ks fs) : DK K H (kvs ++ ks) (es ++ fs) :=
  ⟨by rw [List.map_append, List.map_append, h.1, t.1], by rw [List.map_append, List.map_append]; exact dpa_app h.2 t.2⟩
theorem DK.val : ∀ {kvs : List (κ × V)} {es : List (κ × PyData)} (k : κ), DK K H kvs es → (valV kvs k = none ∧ vD es k = none) ∨ ∃ v d, valV kvs k = some v ∧ vD es k = some d ∧ Rp K H v d
  | [], _, k, h => by cases h.inv0; exact .inl ⟨rfl, rfl⟩
  | p :: kvs, _, k, h => by
    obtain ⟨q, es, rfl, e, r, t⟩ := h.inv
    by_cases hk : p.1 = k
    · refine .inr ⟨p.2, q.2, valV_pos hk, ?_, r⟩
      unfold vD; rw [List.find?_cons, show decide (q.1 = k) = true from decide_eq_true (e ▸ hk)]; rfl
    · rw [valV_neg hk]
      have : vD (q :: es) k = vD es k := by
        unfold vD; rw [List.find?_cons, show decide (q.1 = k) = false from decide_eq_false (e ▸ hk)]
      rw [this]
      exact DK.val k t
theorem DK.any : ∀ {kvs : List (κ × V)} {es : List (κ × PyData)} (k : κ), DK K H kvs es → (kvs.any fun p => decide (p.1 = k)) = es.any fun p => decide (p.1 = k)
  | [], _, k, h => by cases h.inv0; rfl
  | p :: kvs, _, k, h => by
    obtain ⟨q, es, rfl, e, _, t⟩ := h.inv
    rw [List.any_cons, List.any_cons, e, DK.any k t]
theorem DK.repl : ∀ {kvs : List (κ × V)} {es : List (κ × PyData)} (k : κ) {v : V} {d : PyData}, DK K H kvs es → Rp K H v d → DK K H (kvs.map fun p => if p.1 = k then (p.1, v) else p) (es.map fun p => if p.1 = k then (p.1, d) else p)
  | [], _, k, _, _, h, _ => by cases h.inv0; exact .nil
  | p :: kvs, _, k, v, d, h, w => by
    obtain ⟨q, es, rfl, e, r, t⟩ := h.inv
    rw [List.map_cons, List.map_cons]
    refine .cons ?_ ?_ (DK.repl k t w)
    · rw [e]; split <;> first | exact e | rfl
    · rw [e]
      split
      · exact w
      · exact r
theorem DK.put {kvs : List (κ × V)} {es : List (κ × PyData)} (k : κ) {v : V} {d : PyData} (h : DK K H kvs es) (w : Rp K H v d) : DK K H (putK kvs k v) (putD es k d) := by
  unfold putK putD
  rw [h.any k]
  split
  · exact h.repl k w
  · exact h.app (.cons rfl w .nil)
end
/-! keys -/
def keyD : PyData → Option Key
  | .int i => some (.inl i)
  | .str s => some (.inr s)
  | _ => none
def keysD : List PyData → Option (List Key)
  | [] => some []
  | d :: ds => match keyD d, keysD ds with | some k, some ks => some (k :: ks) | _, _ => none
def keyT : PyData → Option (List Key)
  | .tuple ds => keysD ds
  | _ => none
def keyP : Key → PyData
  | .inl i => .int i
  | .inr s => .str s
section
variable {K : PySem.W.Frag} {H : Hp}
theorem rp_key {v : V} {d : PyData} {k : Key} (r : Rp K H v d) (h : keyD d = some k) : v = kV k := by
  cases r with
  | int i => cases h; rfl
  | str x => cases h; rfl
  | non => cases h
  | bl => cases h
  | lst => cases h
  | tup => cases h
theorem rp_keys : ∀ {ds : List PyData} {vs : List V} {ks : List Key}, RpA K H vs ds → keysD ds = some ks → vs = ks.map kV
  | [], _, _, r, h => by cases r; cases h; rfl
  | d :: ds, _, _, r, h => by
    unfold keysD at h
    split at h
    · rename_i k ks e1 e2
      cases h
      cases r with
      | cons a b => rw [List.map_cons, rp_key a e1, rp_keys b e2]
    · cases h
theorem rp_keyT {v : V} {d : PyData} {ks : List Key} (r : Rp K H v d) (h : keyT d = some ks) : ∃ b, v = .ref b ∧ H b = some (.tup (ks.map kV)) := by
  cases r with
  | tup e q => exact ⟨_, rfl, by rw [← rp_keys q h]; exact e⟩
  | non => cases h
  | bl => cases h
  | int => cases h
  | str => cases h
  | lst => cases h
theorem rp_kV : ∀ k : Key, Rp K H (kV k) (keyP k)
  | .inl i => .int i
  | .inr s => .str s
end
/-- what a dict tells of a key; a dict with one key more -/
def OD.look : OD → PyData → Option (Option PyData)
  | .l _, _ => none
  | .k es, d => (keyD d).map (vD es)
  | .t es, d => (keyT d).map (vD es)
def OD.put : OD → PyData → PyData → Option OD
  | .l _, _, _ => none
  | .k es, d, y => match keyD d with | some kk => if es.length < 16777216 then some (.k (putD es kk y)) else none | none => none
  | .t es, d, y => match keyT d with | some kk => if es.length < 16777216 then some (.t (putD es kk y)) else none | none => none
def OD.len : OD → Option Nat
  | .l _ => none
  | .k es => some es.length
  | .t es => some es.length
def OD.keys : OD → Option (List PyData)
  | .l _ => none
  | .k es => some (es.map fun p => keyP p.1)
  | .t es => some (es.map fun p => .tuple (p.1.map keyP))
def objOf (i : Nat) (α : Ab) : Option OD := match α.ρ[i]? with | some (.obj o) => some o | _ => none
theorem objOf_some {i : Nat} {α : Ab} {o : OD} (h : objOf i α = some o) : α.ρ[i]? = some (.obj o) := by
  unfold objOf at h
  split at h
  · rename_i o' e; cases h; exact e
  · cases h
section
variable {K : PySem.W.Frag} {tb : Tabs} {α : Ab} {g : Gh} {σ : L2.St} {H : Hp}
theorem St.look {i : Nat} {o : OD} {y : V} {d : PyData} {r : Option PyData} (S : St K tb α g σ H) (h : objOf i α = some o) (q : Rp K (vw α g H) y d) (e : o.look d = some r) :
    ∃ rv, DGet H (g.ad i) y rv ∧ ((rv = none ∧ r = none) ∨ ∃ v z, rv = some v ∧ r = some z ∧ Rp K (vw α g H) v z) := by
  obtain ⟨_, _, ho, h1, h2⟩ := S.own i _ (objOf_some h)
  cases o with
  | l ds => cases e
  | k es =>
    obtain ⟨kvs, rfl, h3⟩ := h2
    obtain ⟨k, ek, rfl⟩ := Option.map_eq_some_iff.mp e
    rw [rp_key q ek]
    exact ⟨_, DGet.k h1, (show DK K (vw α g H) kvs es from h3).val k⟩
  | t es =>
    obtain ⟨kvs, rfl, h3⟩ := h2
    obtain ⟨k, ek, rfl⟩ := Option.map_eq_some_iff.mp e
    obtain ⟨b, rfl, eb⟩ := rp_keyT q ek
    exact ⟨_, DGet.t h1 (vw_sub eb), (show DK K (vw α g H) kvs es from h3).val k⟩
theorem St.putO {i : Nat} {o o' : OD} {y v : V} {d z : PyData} (S : St K tb α g σ H) (h : objOf i α = some o) (q : Rp K (vw α g H) y d) (qv : Rp K (vw α g H) v z) (e : o.put d z = some o') :
    ∃ H', DPut H (g.ad i) y v H' ∧ St K tb (α.set i (.obj o')) g σ H' ∧ Mv α (α.set i (.obj o')) g H H' := by
  obtain ⟨_, _, ho, h1, h2⟩ := S.own i _ (objOf_some h)
  cases o with
  | l ds => cases e
  | k es =>
    obtain ⟨kvs, rfl, h3⟩ := h2
    have D : DK K (vw α g H) kvs es := h3
    simp only [OD.put] at e
    split at e
    · rename_i k ek
      obtain ⟨hl, e⟩ := ite_some e
      cases e
      rw [rp_key q ek]
      refine ⟨_, DPut.k h1 (by rw [D.len, sizeLine_eq]; exact hl), S.writeO (objOf_some h) ⟨_, rfl, D.put k qv⟩⟩
    · cases e
  | t es =>
    obtain ⟨kvs, rfl, h3⟩ := h2
    have D : DK K (vw α g H) kvs es := h3
    simp only [OD.put] at e
    split at e
    · rename_i k ek
      obtain ⟨hl, e⟩ := ite_some e
      cases e
      obtain ⟨b, rfl, eb⟩ := rp_keyT q ek
      refine ⟨_, DPut.t h1 (vw_sub eb) (by rw [D.len, sizeLine_eq]; exact hl), S.writeO (objOf_some h) ⟨_, rfl, D.put k qv⟩⟩
    · cases e
theorem St.isD {i : Nat} {o : OD} {d : PyData} {r : Option PyData} (S : St K tb α g σ H) (h : objOf i α = some o) (e : o.len ≠ none) : IsD H (g.ad i) := by
  obtain ⟨_, _, ho, h1, h2⟩ := S.own i _ (objOf_some h)
  cases o with
  | l ds => exact absurd rfl e
  | k es => obtain ⟨kvs, rfl, _⟩ := h2; exact .inl ⟨_, .inl h1⟩
  | t es => obtain ⟨kvs, rfl, _⟩ := h2; exact .inr ⟨_, .inl h1⟩
theorem St.objSeen {i : Nat} {o : OD} (S : St K tb α g σ H) (h : objOf i α = some o) : σ[i]? = some (some (.ref (g.ad i))) := (S.own i _ (objOf_some h)).1
end
/-! readings -/
def mDGet (i : Nat) (t : M PyData) : M PyData := fun α => match objOf i α with
  | none => none
  | some _ => match t α with
    | none => none
    | some (d, α1) => match objOf i α1 with
      | none => none
      | some o => match o.look d with | some (some z) => some (z, α1) | _ => none
def mDIn (f : Bool → Bool) (i : Nat) (t : M PyData) : M Bool := fun α => match t α with
  | none => none
  | some (d, α1) => match objOf i α1 with
    | none => none
    | some o => match o.look d with | some r => some (f r.isSome, α1) | none => none
def mDGet1 (i : Nat) (t : M PyData) : M PyData := fun α => match objOf i α with
  | none => none
  | some o0 => if o0.len = none then none else match t α with
    | none => none
    | some (d, α1) => match objOf i α1 with
      | none => none
      | some o => match o.look d with | some r => some (r.getD .none, α1) | none => none
def mDGet2 (i : Nat) (t u : M PyData) : M PyData := fun α => match objOf i α with
  | none => none
  | some o0 => if o0.len = none then none else match t α with
    | none => none
    | some (d, α1) => match u α1 with
      | none => none
      | some (e, α2) => match objOf i α2 with
        | none => none
        | some o => match o.look d with | some r => some (r.getD e, α2) | none => none
def mLenD (i : Nat) : M PyData := fun α => match objOf i α with | none => none | some o => match o.len with | some n => some (.int n, α) | none => none
def sDPut (i : Nat) (tv ti : M PyData) : MS := fun α => match tv α with
  | none => none
  | some (z, α1) => match objOf i α1 with
    | none => none
    | some _ => match ti α1 with
      | none => none
      | some (d, α2) => match objOf i α2 with
        | none => none
        | some o => match o.put d z with | some o' => some (.nx, α2.set i (.obj o')) | none => none
def sOwnO (i : Nat) (t : M OD) : MS := fun α => match t α with | none => none | some (o, α1) => if i < α1.ρ.length then some (.nx, α1.set i (.obj o)) else none
def mListD (i : Nat) : M (List PyData) := fun α => match objOf i α with | none => none | some o => match o.keys with | some ds => some (ds, α) | none => none
section
variable {X : Cx} {tb : List (Addr × Addr)} {e e1 e2 : Expr} {t t1 t2 u : M PyData} {pos p p1 p2 p3 apos cpos : Pos} {x : Str}
theorem re_dget (i : Nat) (hu : X.A.units + 1 < cLine) (h1 : RE X tb e t) (hs : NoSl e := by intro _ _; rfl) (hN : X.N[i]? = some x := by rfl) (hv : Vis X.env.scope x := by first | exact Or.inl rfl | exact Or.inr (Or.inl rfl) | exact Or.inr (Or.inr rfl)) (hd : (x == ("__debug__" : Str)) = false := by decide)
    (hcd : (x == ("__classdict__" : Str)) = false := by decide) : RE X tb (.Subscript (.Name x p) e pos) (mDGet i t) := fun α d α' h σ H g Q S k => by
  unfold mDGet at h
  split at h
  · cases h
  rename_i o0 ho0
  split at h
  · cases h
  rename_i d1 α1 e1
  split at h
  · cases h
  rename_i o ho
  split at h
  case h_2 => cases h
  rename_i z ez
  cases h
  refine U_of (pe_dget hu (pe_var hN hv hd hcd) pe_U hs) ?_
  refine ⟨_, S.objSeen ho0, h1 _ _ _ e1 σ H g _ S fun y H1 S1 w1 q1 => ?_⟩
  obtain ⟨rv, gt, h2⟩ := S1.look ho q1 ez
  rcases h2 with ⟨_, h3⟩ | ⟨v, z', rfl, h3, r⟩
  · cases h3
  · cases h3
    exact ⟨_, v, rfl, gt, k v H1 S1 w1 r⟩
theorem rt_din (i : Nat) (hu : X.A.units + 1 < cLine) (h1 : RE X tb e t) (hN : X.N[i]? = some x := by rfl) (hv : Vis X.env.scope x := by first | exact Or.inl rfl | exact Or.inr (Or.inl rfl) | exact Or.inr (Or.inr rfl)) (hd : (x == ("__debug__" : Str)) = false := by decide)
    (hcd : (x == ("__classdict__" : Str)) = false := by decide) (hm : behindInMarks .In (.Name x p) = false := by first | exact nobehind _ (by decide) (by decide) | rfl) : RT X tb (.Compare e [.In] [.Name x p] pos) (mDIn id i t) := fun α b α' h σ H g Q S k => by
  unfold mDIn at h
  split at h
  · cases h
  rename_i d1 α1 e1
  split at h
  · cases h
  rename_i o ho
  split at h
  case h_2 => cases h
  rename_i r er
  cases h
  refine UT_of (pt_cmp (pc_din hu pe_U (pe_var hN hv hd hcd)) hm) ?_
  refine h1 _ _ _ e1 σ H g _ S fun y H1 S1 w1 q1 => ?_
  obtain ⟨rv, gt, h2⟩ := S1.look ho q1 er
  refine ⟨_, S1.objSeen ho, _, rv, rfl, gt, ?_⟩
  have e : rv.isSome = r.isSome := by
    rcases h2 with ⟨rfl, rfl⟩ | ⟨v, z, rfl, rfl, _⟩ <;> rfl
  exact ⟨_, rfl, by rw [e]; exact k H1 S1 w1⟩
theorem rt_dnotin (i : Nat) (hu : X.A.units + 1 < cLine) (h1 : RE X tb e t) (hN : X.N[i]? = some x := by rfl) (hv : Vis X.env.scope x := by first | exact Or.inl rfl | exact Or.inr (Or.inl rfl) | exact Or.inr (Or.inr rfl)) (hd : (x == ("__debug__" : Str)) = false := by decide)
    (hcd : (x == ("__classdict__" : Str)) = false := by decide) (hm : behindInMarks .NotIn (.Name x p) = false := by first | exact nobehind _ (by decide) (by decide) | rfl) : RT X tb (.Compare e [.NotIn] [.Name x p] pos) (mDIn (!·) i t) := fun α b α' h σ H g Q S k => by
  unfold mDIn at h
  split at h
  · cases h
  rename_i d1 α1 e1
  split at h
  · cases h
  rename_i o ho
  split at h
  case h_2 => cases h
  rename_i r er
  cases h
  refine UT_of (pt_cmp (pc_dnotin hu pe_U (pe_var hN hv hd hcd)) hm) ?_
  refine h1 _ _ _ e1 σ H g _ S fun y H1 S1 w1 q1 => ?_
  obtain ⟨rv, gt, h2⟩ := S1.look ho q1 er
  refine ⟨_, S1.objSeen ho, _, rv, rfl, gt, ?_⟩
  have e : rv.isSome = r.isSome := by
    rcases h2 with ⟨rfl, rfl⟩ | ⟨v, z, rfl, rfl, _⟩ <;> rfl
  exact ⟨_, rfl, by rw [e]; exact k H1 S1 w1⟩
theorem re_din (i : Nat) (hu : X.A.units + 1 < cLine) (h1 : RE X tb e t) (hN : X.N[i]? = some x := by rfl) (hv : Vis X.env.scope x := by first | exact Or.inl rfl | exact Or.inr (Or.inl rfl) | exact Or.inr (Or.inr rfl)) (hd : (x == ("__debug__" : Str)) = false := by decide)
    (hcd : (x == ("__classdict__" : Str)) = false := by decide) (hm : behindInMarks .In (.Name x p) = false := by first | exact nobehind _ (by decide) (by decide) | rfl) : RE X tb (.Compare e [.In] [.Name x p] pos) (mB (mDIn id i t)) := fun α b α' h0 σ H g Q S k => by
  obtain ⟨b0, α0, h, h'⟩ := mb_some h0
  cases h'
  unfold mDIn at h
  split at h
  · cases h
  rename_i d1 α1 e1
  split at h
  · cases h
  rename_i o ho
  split at h
  case h_2 => cases h
  rename_i r er
  cases h
  refine U_of (pe_cmp (pc_din hu pe_U (pe_var hN hv hd hcd)) hm) ?_
  refine h1 _ _ _ e1 σ H g _ S fun y H1 S1 w1 q1 => ?_
  obtain ⟨rv, gt, h2⟩ := S1.look ho q1 er
  refine ⟨_, S1.objSeen ho, _, rv, rfl, gt, ?_⟩
  have e : rv.isSome = r.isSome := by
    rcases h2 with ⟨rfl, rfl⟩ | ⟨v, z, rfl, rfl, _⟩ <;> rfl
  exact k _ H1 S1 w1 (by rw [e]; exact .bl _)
theorem re_dnotin (i : Nat) (hu : X.A.units + 1 < cLine) (h1 : RE X tb e t) (hN : X.N[i]? = some x := by rfl) (hv : Vis X.env.scope x := by first | exact Or.inl rfl | exact Or.inr (Or.inl rfl) | exact Or.inr (Or.inr rfl)) (hd : (x == ("__debug__" : Str)) = false := by decide)
    (hcd : (x == ("__classdict__" : Str)) = false := by decide) (hm : behindInMarks .NotIn (.Name x p) = false := by first | exact nobehind _ (by decide) (by decide) | rfl) : RE X tb (.Compare e [.NotIn] [.Name x p] pos) (mB (mDIn (!·) i t)) := fun α b α' h0 σ H g Q S k => by
  obtain ⟨b0, α0, h, h'⟩ := mb_some h0
  cases h'
  unfold mDIn at h
  split at h
  · cases h
  rename_i d1 α1 e1
  split at h
  · cases h
  rename_i o ho
  split at h
  case h_2 => cases h
  rename_i r er
  cases h
  refine U_of (pe_cmp (pc_dnotin hu pe_U (pe_var hN hv hd hcd)) hm) ?_
  refine h1 _ _ _ e1 σ H g _ S fun y H1 S1 w1 q1 => ?_
  obtain ⟨rv, gt, h2⟩ := S1.look ho q1 er
  refine ⟨_, S1.objSeen ho, _, rv, rfl, gt, ?_⟩
  have e : rv.isSome = r.isSome := by
    rcases h2 with ⟨rfl, rfl⟩ | ⟨v, z, rfl, rfl, _⟩ <;> rfl
  exact k _ H1 S1 w1 (by rw [e]; exact .bl _)
theorem re_dget1 (i : Nat) (hu : X.A.units + 1 < cLine) (h1 : RE X tb e t) (m : M1 X (.Name x p) "get" apos e cpos := by exact ⟨rfl, rfl, rfl, rfl⟩) (hN : X.N[i]? = some x := by rfl) (hv : Vis X.env.scope x := by first | exact Or.inl rfl | exact Or.inr (Or.inl rfl) | exact Or.inr (Or.inr rfl)) (hd : (x == ("__debug__" : Str)) = false := by decide)
    (hcd : (x == ("__classdict__" : Str)) = false := by decide) : RE X tb (.Call (.Attribute (.Name x p) "get" apos) [e] [] cpos) (mDGet1 i t) := fun α d α' h σ H g Q S k => by
  unfold mDGet1 at h
  split at h
  · cases h
  rename_i o0 ho0
  split at h
  · cases h
  rename_i hl
  split at h
  · cases h
  rename_i d1 α1 e1
  split at h
  · cases h
  rename_i o ho
  split at h
  case h_2 => cases h
  rename_i r er
  cases h
  refine U_of (pe_dget1 hu (pe_var hN hv hd hcd) pe_U m) ?_
  refine ⟨_, S.objSeen ho0, _, rfl, S.isD (d := .none) (r := none) ho0 hl, h1 _ _ _ e1 σ H g _ S fun y H1 S1 w1 q1 => ?_⟩
  obtain ⟨rv, gt, h2⟩ := S1.look ho q1 er
  refine ⟨rv, gt, ?_⟩
  rcases h2 with ⟨rfl, rfl⟩ | ⟨v, z, rfl, rfl, q2⟩
  · exact k _ H1 S1 w1 .non
  · exact k _ H1 S1 w1 q2
theorem re_dget2 (i : Nat) (hu : X.A.units + 1 < cLine) (h1 : RE X tb e1 t1) (h2 : RE X tb e2 t2) (m : M2 X (.Name x p) "get" apos e1 e2 cpos := by exact ⟨rfl, rfl, rfl, rfl⟩) (hN : X.N[i]? = some x := by rfl) (hv : Vis X.env.scope x := by first | exact Or.inl rfl | exact Or.inr (Or.inl rfl) | exact Or.inr (Or.inr rfl)) (hd : (x == ("__debug__" : Str)) = false := by decide)
    (hcd : (x == ("__classdict__" : Str)) = false := by decide) : RE X tb (.Call (.Attribute (.Name x p) "get" apos) [e1, e2] [] cpos) (mDGet2 i t1 t2) := fun α d α' h σ H g Q S k => by
  unfold mDGet2 at h
  split at h
  · cases h
  rename_i o0 ho0
  split at h
  · cases h
  rename_i hl
  split at h
  · cases h
  rename_i d1 α1 k1
  split at h
  · cases h
  rename_i d2 α2 k2
  split at h
  · cases h
  rename_i o ho
  split at h
  case h_2 => cases h
  rename_i r er
  cases h
  refine U_of (pe_dget2 hu (pe_var hN hv hd hcd) pe_U pe_U m) ?_
  refine ⟨_, S.objSeen ho0, _, rfl, S.isD (d := .none) (r := none) ho0 hl, h1 _ _ _ k1 σ H g _ S fun y H1 S1 w1 q1 => h2 _ _ _ k2 σ H1 g _ S1 fun z H2 S2 w2 q2 => ?_⟩
  obtain ⟨rv, gt, h3⟩ := S2.look ho (dp_ext w2.ext _ _ q1) er
  refine ⟨rv, gt, ?_⟩
  rcases h3 with ⟨rfl, rfl⟩ | ⟨v, z', rfl, rfl, q3⟩
  · exact k _ H2 S2 (w1.trans w2) q2
  · exact k _ H2 S2 (w1.trans w2) q3
theorem rs_dput (i : Nat) (hu : X.A.units + 1 < cLine) (hv1 : RE X tb e1 t1) (hi1 : RE X tb e2 t2) (hs : swapsWith e1 (some (.Subscript (.Name x p1) e2 p2)) pos.line X.env = pure false := by rfl)
    (hN : X.N[i]? = some x := by rfl) (hv : Vis X.env.scope x := by first | exact Or.inl rfl | exact Or.inr (Or.inl rfl) | exact Or.inr (Or.inr rfl)) (hd : (x == ("__debug__" : Str)) = false := by decide)
    (hcd : (x == ("__classdict__" : Str)) = false := by decide) : RS X tb (.Assign [.Subscript (.Name x p1) e2 p2] e1 pos) (sDPut i t1 t2) := fun α o α' h σ H g D S P => by
  unfold sDPut at h
  split at h
  · cases h
  rename_i z α1 ev
  split at h
  · cases h
  rename_i o0 ho0
  split at h
  · cases h
  rename_i d α2 ei
  split at h
  · cases h
  rename_i o1 ho1
  split at h
  case h_2 => cases h
  rename_i o2 ho2
  cases h
  refine US_of (ps_dput hu (pe_var hN hv hd hcd) pe_U pe_U hs) ?_
  refine hv1 _ _ _ ev σ H g _ S fun v H1 S1 w1 q1 => ?_
  refine ⟨_, S1.objSeen ho0, hi1 _ _ _ ei σ H1 g _ S1 fun y H2 S2 w2 q2 => ?_⟩
  obtain ⟨H3, dp, S3, w3⟩ := S2.putO ho1 q2 (dp_ext w2.ext _ _ q1) ho2
  exact ⟨_, H3, rfl, dp, P σ _ g S3 ((w1.trans w2).trans w3).g⟩
theorem rs_ownO {ts : M OD} (i : Nat) (hN : X.N.Nodup) (h1 : RO X tb e ts) (hi : X.N[i]? = some x := by rfl) (hx : Loc X.env.scope x := by first | exact Or.inl rfl | exact Or.inr rfl) (hs : swapsWith e (some (.Name x p)) pos.line X.env = pure false := by rfl)
    (hf : X.fn x = true ∨ X.env.scope.names.lookup x = some .local := by first | exact .inl rfl | exact .inr rfl) : RS X tb (.Assign [.Name x p] e pos) (sOwnO i ts) := fun α o α' h σ H g D S P => by
  unfold sOwnO at h
  split at h
  · cases h
  rename_i d α1 e1
  obtain ⟨hl, h⟩ := ite_some h
  cases h
  refine US_of (ps_set hN hi hx pe_U hs hf) ?_
  refine h1 _ _ _ e1 σ H g _ S fun pa H' F => ?_
  obtain ⟨S2, E2⟩ := F.own hl
  exact P _ H' _ S2 ⟨rfl, rfl, rfl, E2, F.out⟩
/-- {} -/
theorem ro_k : RO X tb (.Dict [] [] pos) (mr (.k [])) := fun α d α' h σ H g Q S kQ => by
  cases h
  exact U_of pe_dnewK fun p hp => kQ _ _ (S.freshO hp ⟨[], rfl, rfl, .nil⟩)
theorem ro_t : RO X tb (.Dict [] [] pos) (mr (.t [])) := fun α d α' h σ H g Q S kQ => by
  cases h
  exact U_of pe_dnewT fun p hp => kQ _ _ (S.freshO hp ⟨[], rfl, rfl, .nil⟩)
/-- len(d) -/
theorem call_len_dK : CallR X (.builtin "len") (fun xs H Q => ∃ (p : Addr) (kvs : List (Key × V)), xs = [.ref p] ∧ H p = some (.dK kvs) ∧ Q (.int ((kvs.length : Nat) : Int)) H) := by
  intro pins s σ H xs us Q I r h
  obtain ⟨p, kvs, rfl, hp, q⟩ := h
  obtain ⟨u, rfl, rx⟩ := vals1 r
  obtain rfl : u = .ref p := rx
  exact d_len I (.inl hp) fun t s' I' => ⟨.int ((kvs.length : Nat) : Int), H, I', ⟨t, rfl⟩, q⟩
theorem re_lenD (i : Nat) (hg : Gl X "len") (hm : X.mg "len" = none) (hN : X.N[i]? = some x := by rfl) (hv : Vis X.env.scope x := by first | exact Or.inl rfl | exact Or.inr (Or.inl rfl) | exact Or.inr (Or.inr rfl)) (hd : (x == ("__debug__" : Str)) = false := by decide)
    (hcd : (x == ("__classdict__" : Str)) = false := by decide) (he : starEach [.Name x p2] X.env = (false, eval (.Name x p2) X.env) :: starEach [] X.env := by rfl) : RE X tb (.Call (.Name "len" p1) [.Name x p2] [] p) (mLenD i) := fun α d α' h σ H g Q S k => by
  unfold mLenD at h
  split at h
  · cases h
  rename_i o ho
  split at h
  case h_2 => cases h
  rename_i n hn
  cases h
  obtain ⟨e1, _, h0, h1, h2⟩ := S.own i _ (objOf_some ho)
  cases o with
  | l ds => cases hn
  | k es =>
    cases hn
    obtain ⟨kvs, rfl, h3⟩ := h2
    refine U_of (pe_callB call_len_dK hg hm (by decide +kernel) (pa_cons (pe_var hN hv hd hcd) pa_nil he) (by decide) (by decide) he) ?_
    refine ⟨_, e1, _, kvs, rfl, h1, k _ H S (Mv.refl _ g H) ?_⟩
    rw [(show DK X.K (vw _ g H) kvs es from h3).len]
    exact .int _
  | t es =>
    cases hn
    obtain ⟨kvs, rfl, h3⟩ := h2
    refine U_of (pe_callB call_len_dT hg hm (by decide +kernel) (pa_cons (pe_var hN hv hd hcd) pa_nil he) (by decide) (by decide) he) ?_
    refine ⟨_, e1, _, kvs, rfl, h1, k _ H S (Mv.refl _ g H) ?_⟩
    rw [(show DK X.K (vw _ g H) kvs es from h3).len]
    exact .int _
end
end Pd
end
section
set_option Elab.async false
set_option linter.all false
set_option maxRecDepth 100000
set_option maxHeartbeats 2000000
namespace Pd
open PySem PySem.Spec PyProof.Rows L2 SrtO Srt

/-! ### the keys of a dict of one's own, collected -/
section
variable {X : Cx} {pins : List (Addr × Obj)} {σ : L2.St} {H : Hp} {s : Shared} {A : Around} {E : Value → Shared → Prop} {R : List Value → Shared → Prop}
theorem coll_dK (hh : A.handled = none) {p : Addr} {kvs : List (Key × V)} (I : Inv X pins σ H s) (hk : H p = some (.dK kvs))
    (h : ∀ h' tk its, (∀ b o, s.heap.get? b = some o → h'.get? b = some o) → its.length ≤ sizeLine → Vals (kvs.map fun kv => kV kv.1) its → R its { s with heap := h', toks := tk }) : wpAny (model X.prog X.w) A (collect (.ref p)) R E s := by
  obtain ⟨z, lo, vs, rel, dd⟩ := dk_of I.hok hk
  obtain ⟨ep, hat⟩ := dd.dictAt
  have l2 : kvs.length = vs.length := rel.length
  refine PySem.W.kdu_collect (PySem.W.kdl_dict (knd := mixKind X.prog X.w) (kvs := vs) (ep := ep) lo) hh hat (by omega) fun h' tk acc hk hacc => ?_
  have ek : (kvs.map fun kv => kV kv.1) = vs.map fun q => kV q.1 := by
    have := congrArg (List.map kV) rel.keys
    rw [List.map_map, List.map_map] at this
    exact this
  refine h h' tk _ hk (by rw [Array.length_toList, hacc.1]; omega) ?_
  rw [ek]
  exact keys_at (by rw [Array.length_toList, hacc.1]) fun j v e => by
    obtain ⟨k, x, e1, e2⟩ := hacc.2 j v (by rw [← Array.getElem?_toList]; exact e)
    exact ⟨k, x, e1, e2⟩
theorem coll_dT (hh : A.handled = none) {p : Addr} {kvs : List (List Key × V)} (I : Inv X pins σ H s) (hk : H p = some (.dT kvs))
    (h : ∀ h' tk its bs, (∀ b o, s.heap.get? b = some o → h'.get? b = some o) → its.length ≤ sizeLine → IsKeys H kvs bs → Vals (bs.map V.ref) its → R its { s with heap := h', toks := tk }) : wpAny (model X.prog X.w) A (collect (.ref p)) R E s := by
  obtain ⟨z, hs, ks, pr, o, es, ep, ho, hx, hdt, he, hn⟩ := (show ObjOk X.prog X.w H s.heap p (.dT kvs) from I.hok _ _ hk)
  have l1 : es.size = ks.length := size_of_entries he
  have l2 : kvs.length = ks.length := Paired.length pr
  refine PySem.W.kdu_collect (kdl_raw hs hx hdt) hh ho (by omega) fun h' tk acc' kp it => ?_
  have ea : acc'.toList = ks.map fun x => Value.ref x.2.1 := by
    have hl : acc'.toList.length = ks.length := by rw [Array.length_toList, it.1]; exact l1
    apply List.ext_getElem?
    intro j
    rw [List.getElem?_map]
    cases hj : acc'.toList[j]? with
    | none =>
      have h1 := List.getElem?_eq_none_iff.mp hj
      rw [List.getElem?_eq_none (by omega)]
      all_goals rfl
    | some v =>
      obtain ⟨en, hen, hv⟩ := it.2 j v (by rw [← Array.getElem?_toList]; exact hj)
      have qe := entry_at he j
      rw [hen] at qe
      cases hb : ks[j]? with
      | none =>
        rw [hb] at qe
        exact nomatch (show some en = none from qe)
      | some b =>
        rw [hb] at qe
        have e2 : en = entryOfKey (tupleKind (mixKind X.prog X.w)) b := Option.some.inj qe
        rw [hv, e2]
        all_goals rfl
  have eb : acc'.toList = (ks.map fun x => x.2.1).map Value.ref := by rw [ea, List.map_map]; all_goals rfl
  refine h h' tk _ (ks.map fun x => x.2.1) kp (by rw [Array.length_toList, it.1]; omega) (isKeys_of pr) ?_
  rw [eb]
  exact vals_refs _
end
section
variable {K : PySem.W.Frag} {tb : Tabs} {α : Ab} {g : Gh} {σ : L2.St} {H : Hp}
theorem rpa_kV : ∀ ks : List Key, RpA K H (ks.map kV) (ks.map keyP)
  | [] => .nil
  | k :: ks => .cons (rp_kV k) (rpa_kV ks)
/-- the data of the keys of the dict at p, in sight in V -/
def CollD (H V' : Hp) (p : Addr) (ds : List PyData) : Prop :=
  (∃ kvs : List (Key × V), H p = some (.dK kvs) ∧ ds = (kvs.map (·.1)).map keyP) ∨
  ∃ kvs : List (List Key × V), H p = some (.dT kvs) ∧ (∀ a xs, H a = some (.tup xs) → V' a = some (.tup xs)) ∧ ds = (kvs.map (·.1)).map fun k => .tuple (k.map keyP)
theorem keys_dT {V' : Hp} (vis : ∀ a xs, H a = some (.tup xs) → V' a = some (.tup xs)) : ∀ {kvs : List (List Key × V)} {bs : List Addr}, IsKeys H kvs bs → RpA K V' (bs.map V.ref) ((kvs.map (·.1)).map fun k => .tuple (k.map keyP))
  | [], _, q => by cases q; exact .nil
  | p :: kvs, _, q => by
    cases q with
    | cons a b => exact .cons (.tup (vis _ _ a) (rpa_kV _)) (keys_dT vis b)
theorem St.collD {i : Nat} {o : OD} {ds : List PyData} (S : St K tb α g σ H) (ho : objOf i α = some o) (hk : o.keys = some ds) : CollD H (vw α g H) (g.ad i) ds := by
  obtain ⟨_, _, h0, h1, h2⟩ := S.own i _ (objOf_some ho)
  cases o with
  | l ds => cases hk
  | k es =>
    cases hk
    obtain ⟨kvs, rfl, h3, _⟩ := h2
    exact .inl ⟨kvs, h1, by rw [h3, List.map_map]; rfl⟩
  | t es =>
    cases hk
    obtain ⟨kvs, rfl, h3, _⟩ := h2
    exact .inr ⟨kvs, h1, fun a xs h => S.vis h, by rw [h3, List.map_map]; rfl⟩
end
/-- what is collected of a dict -/
theorem coll_of {X : Cx} {pins : List (Addr × Obj)} {σ : L2.St} {H V' : Hp} {s : Shared} {A : Around} {E : Value → Shared → Prop} {R : List Value → Shared → Prop} (hh : A.handled = none) {p : Addr} {ds : List PyData}
    (I : Inv X pins σ H s) (hc : CollD H V' p ds)
    (h : ∀ h' tk its xs, (∀ b o, s.heap.get? b = some o → h'.get? b = some o) → its.length ≤ sizeLine → RpA X.K V' xs ds → Vals xs its → R its { s with heap := h', toks := tk }) : wpAny (model X.prog X.w) A (collect (.ref p)) R E s := by
  rcases hc with ⟨kvs, h1, rfl⟩ | ⟨kvs, h1, vis, rfl⟩
  · refine coll_dK hh I h1 fun h' tk its k1 k2 k3 => h h' tk its _ k1 k2 ?_ k3
    have e1 : (kvs.map fun kv => kV kv.1) = (kvs.map (·.1)).map kV := by rw [List.map_map]; rfl
    rw [e1]
    exact rpa_kV _
  · exact coll_dT hh I h1 fun h' tk its bs k1 k2 k3 k4 => h h' tk its _ k1 k2 (keys_dT vis k3) k4
/-- sorted(d) -/
def rSrtD (K : PySem.W.Frag) : List V → Hp → VK → Prop := fun vs H Q => ∃ p V' ds out, vs = [.ref p] ∧ (∀ a o, V' a = some o → H a = some o) ∧ CollD H V' p ds ∧ dSort ds = some out ∧
  ∀ p ys, H p = none → RpA K V' ys out → Q (.ref p) (upd H p (.lst ys))
theorem call_srtD {X : Cx} (hu : X.A.units + 2 < cLine) (hc : X.calm = true) : CallR X (.builtin "sorted") (rSrtD X.K) := by
  intro pins s σ H vs us Q I r h
  obtain ⟨p, V', ds, out, rfl, sub, hx, hs, q⟩ := h
  obtain ⟨u, rfl, ru⟩ := vals1 r
  cases ru
  refine sorted_items (coll_of (A := X.A.in1) (I.ok.hd hc) I hx fun h' tk its xs kp hz ra rv => ?_)
  have I1 : Inv X pins σ H { s with heap := h', toks := tk } := I.kept kp
  exact sort_core hu I1 sub ra rv hz hs q
def mSortD (i : Nat) : M (List PyData) := fun α => match objOf i α with | none => none | some o => match o.keys with | none => none | some ds => match dSort ds with | some out => some (out, α) | none => none
section
variable {X : Cx} {tb : List (Addr × Addr)} {p p1 p2 : Pos} {x : Str}
theorem rf_sortD (i : Nat) (hu : X.A.units + 2 < cLine) (hc : X.calm = true) (hg : Gl X "sorted") (hm : X.mg "sorted" = none) (hN : X.N[i]? = some x := by rfl) (hv : Vis X.env.scope x := by first | exact Or.inl rfl | exact Or.inr (Or.inl rfl) | exact Or.inr (Or.inr rfl)) (hd : (x == ("__debug__" : Str)) = false := by decide)
    (hcd : (x == ("__classdict__" : Str)) = false := by decide) (he : starEach [.Name x p2] X.env = (false, eval (.Name x p2) X.env) :: starEach [] X.env := by rfl) : RF X tb (.Call (.Name "sorted" p1) [.Name x p2] [] p) (mSortD i) := fun α d α' h σ H g Q S k => by
  unfold mSortD at h
  split at h
  · cases h
  rename_i o ho
  split at h
  · cases h
  rename_i ds hk
  split at h
  case h_2 => cases h
  rename_i out hs
  cases h
  refine U_of (pe_callB (call_srtD hu hc) hg hm bt_sorted (pa_cons (pe_var hN hv hd hcd) pa_nil he) (by decide) (by decide) he) ?_
  exact ⟨_, S.objSeen ho, _, vw _ g H, ds, _, rfl, fun a o h => (vw_some h).1, S.collD ho hk, hs, fun p ys hp hy => k _ _ (S.fresh hp hy)⟩
/-- list(d) -/
theorem call_listD (hc : X.calm = true) : CallR X (.type "list") (fun vs H Q => ∃ p V' ds, vs = [.ref p] ∧ CollD H V' p ds ∧ ∀ p ys, H p = none → RpA X.K V' ys ds → Q (.ref p) (upd H p (.lst ys))) := by
  intro pins s σ H vs us Q I r h
  obtain ⟨p, V', ds, rfl, hx, q⟩ := h
  rcases hx with ⟨kvs, h1, rfl⟩ | ⟨kvs, h1, vis, rfl⟩
  · refine call_list_dK hc pins s σ H _ us Q I r ⟨p, kvs, rfl, h1, fun p hp => q _ _ hp ?_⟩
    have e1 : (kvs.map fun kv => kV kv.1) = (kvs.map (·.1)).map kV := by rw [List.map_map]; rfl
    rw [e1]
    exact rpa_kV _
  · exact call_list_dT hc pins s σ H _ us Q I r ⟨p, kvs, rfl, .inl h1, fun p bs hp hb => q _ _ hp (keys_dT vis hb)⟩
theorem rf_listD (i : Nat) (hc : X.calm = true) (hg : Gl X "list") (hm : X.mg "list" = none) (hN : X.N[i]? = some x := by rfl) (hv : Vis X.env.scope x := by first | exact Or.inl rfl | exact Or.inr (Or.inl rfl) | exact Or.inr (Or.inr rfl)) (hd : (x == ("__debug__" : Str)) = false := by decide)
    (hcd : (x == ("__classdict__" : Str)) = false := by decide) (he : starEach [.Name x p2] X.env = (false, eval (.Name x p2) X.env) :: starEach [] X.env := by rfl) : RF X tb (.Call (.Name "list" p1) [.Name x p2] [] p) (mListD i) := fun α d α' h σ H g Q S k => by
  unfold mListD at h
  split at h
  · cases h
  rename_i o ho
  split at h
  case h_2 => cases h
  rename_i ds hk
  cases h
  refine U_of (pe_callTy (call_listD hc) hg hm (by decide +kernel) (pa_cons (pe_var hN hv hd hcd) pa_nil he) (by decide) (by decide) he) ?_
  exact ⟨_, S.objSeen ho, _, vw _ g H, _, rfl, S.collD ho hk, fun p ys hp hy => k _ _ (S.fresh hp hy)⟩
end
end Pd
end
section
set_option Elab.async false
set_option linter.all false
set_option maxRecDepth 100000
set_option maxHeartbeats 2000000
namespace Pd
open PySem PySem.Spec PyProof.Rows L2 SrtO Srt

/-! ### sorted(set(..)) -/
/-- the set of ints at a -/
def SetIO (w : World) (a : Addr) (S : Int → Bool) (n : Nat) : HO := .ext fun h => SetR w h a S n
theorem setIO_new {P : Program} {w : World} {H : Hp} {h : Heap} {a : Addr} {S : Int → Bool} {n : Nat} (R : SetR w h a S n) : ObjOk P w H h a (SetIO w a S n) :=
  ⟨R, let ⟨o, _, _, _, ho, _⟩ := R; ⟨o, ho⟩, fun h1 h2 r k => r.at k⟩
/-- each once -/
def ddI : List Int → List Int
  | [] => []
  | l :: ls => if l ∈ ddI ls then ddI ls else l :: ddI ls
theorem ddI_mem : ∀ {ls : List Int} {r : Int}, r ∈ ddI ls ↔ r ∈ ls
  | [], r => Iff.rfl
  | l :: ls, r => by
    unfold ddI
    split
    · rename_i h
      rw [ddI_mem, List.mem_cons]
      exact ⟨.inr, fun z => z.elim (fun z => by rw [z]; exact ddI_mem.mp h) id⟩
    · rw [List.mem_cons, List.mem_cons, ddI_mem]
theorem ddI_nodup : ∀ (ls : List Int), (ddI ls).Nodup
  | [] => List.nodup_nil
  | l :: ls => by
    unfold ddI
    split
    · exact ddI_nodup ls
    · rename_i h; exact List.nodup_cons.mpr ⟨h, ddI_nodup ls⟩
theorem ddI_sort {ns ms : List Int} (hp : ms.Pairwise (· < ·)) (hm : ∀ k, k ∈ ms ↔ k ∈ ns) : ms = sortI (ddI ns) := by
  refine sortI_uniq ?_ (hp.imp fun h => Int.le_of_lt h)
  exact (List.perm_ext_iff_of_nodup (hp.imp fun h => Int.ne_of_lt h) (ddI_nodup ns)).mpr fun k => (hm k).trans ddI_mem.symm
def dSortSet : PyData → Option (List PyData)
  | .tuple ds => match toInts ds with | some ns => if ns.length < 63 then some ((sortI (ddI ns)).map .int) else none | none => none
  | .list ds => if ds.length < 64 then dSortS ds else none
  | _ => none
section
variable {X : Cx}
theorem call_setI (hc : X.calm = true) : CallR X (.type "set") (fun xs H Q => ∃ (p : Addr) (ns : List Int), xs = [.ref p] ∧ SqT X.K H p (ns.map V.int) ∧ ns.length < 63 ∧
    ∀ a c, H a = none → c ≤ ns.length → Q (.ref a) (upd H a (SetIO X.w a (fun j => decide (j ∈ ns)) c))) := by
  intro pins s σ H xs us Q I r h
  obtain ⟨p, ns, rfl, hp, hl, q⟩ := h
  rw [Vals.ref1 r]
  obtain ⟨its, rv, ht, hz⟩ := I.tuple hp
  refine call_set_tupI ns (I.ok.hd hc) ht (by simpa using rv.ints) (by unfold scanBound; omega) fun h' tk c R hle k => ?_
  exact ⟨.ref s.heap.objs.size, _, I.laid (t' := tk) (o := SetIO X.w s.heap.objs.size (fun j => decide (j ∈ ns)) c) k (Nat.le_refl _) (setIO_new R), rfl, q _ c (I.hok.fresh (Nat.le_refl _)) hle⟩
theorem call_srtI (hc : X.calm = true) : CallR X (.builtin "sorted") (fun xs H Q => ∃ (a : Addr) (S : Int → Bool) (c : Nat), xs = [.ref a] ∧ H a = some (SetIO X.w a S c) ∧ c < 64 ∧
    ∀ (p : Addr) (ms : List Int), H p = none → ms.Pairwise (· < ·) → (∀ k, k ∈ ms ↔ S k = true) → Q (.ref p) (upd H p (.lst (ms.map V.int)))) := by
  intro pins s σ H xs us Q I r h
  obtain ⟨a, S, c, rfl, ha, hl, q⟩ := h
  rw [Vals.ref1 r]
  have R : SetR X.w s.heap a S c := (I.hok a _ ha).1
  refine sorted_set (P := X.prog) R (I.ok.hd hc) hl fun s' p out c' ns k g o hp hg hi pw hm hn => ?_
  have hn' : H p = none := I.hok.fresh hp
  have hlen : (ns.map V.int).length ≤ sizeLine := by rw [List.length_map, sizeLine_eq]; omega
  have J : Inv X pins σ (upd H p (.lst (ns.map V.int))) { s with heap := s'.heap, gens := s'.gens, drawn := s'.drawn, toks := s'.toks } :=
    I.call (ch := []) (Un.laid k hp hn') (I.hok.laid k hp ⟨hlen, out.toList, c', vals_of_ints hi, hg⟩) (by rw [g]; exact I.bare) (fun _ z => nomatch z)
  have e : s' = { s with heap := s'.heap, gens := s'.gens, drawn := s'.drawn, toks := s'.toks } := by
    cases s'
    cases s
    cases o
    rfl
  rw [e]
  exact ⟨.ref p, _, J, rfl, q p ns hn' pw hm⟩
/-- sorted(set of rows), each once -/
theorem call_srtS2 (hu : X.A.units + 2 < cLine) (hc : X.calm = true) : CallR X (.builtin "sorted") (fun vs H Q => ∃ (a : Addr) (L : List (Addr × List Int)) (V' : Hp) (out : List PyData), vs = [.ref a] ∧ H a = some (SetTO X.prog X.w a L) ∧ (∀ b o, V' b = some o → H b = some o) ∧ (∀ p ∈ L, V' p.1 = some (.tup (p.2.map V.int))) ∧
    ((L.map (·.2)).Nodup → ∀ L1 : List (Addr × List Int), L1.Perm L → dSort (L1.map fun p => rowD p.2) = some out) ∧ ∀ p ys, H p = none → RpA X.K V' ys out → Q (.ref p) (upd H p (.lst ys))) := by
  intro pins s σ H vs us Q I r h
  obtain ⟨a, L, V', out, rfl, ha, sub, hrow, hs, q⟩ := h
  have R0 : SetT0 X.prog X.w s.heap a L := (I.hok a _ ha).1
  obtain ⟨es, ep, t, R⟩ := R0.full fun p hp => I.isT (SqT.of (sub _ _ (hrow p hp)))
  exact call_srtS hu hc pins s σ H _ us Q I r ⟨a, L, V', out, rfl, ha, sub, hrow, hs R.nd, q⟩
end
/-- rows of ints, by their addresses -/
theorem rows_inv {K : PySem.W.Frag} {V' : Hp} : ∀ {ls : List (List Int)} {vs : List V}, RpA K V' vs (ls.map rowD) → ∃ ks : List (Addr × List Int), vs = ks.map (fun p => V.ref p.1) ∧ ks.map (·.2) = ls ∧ ∀ p ∈ ks, V' p.1 = some (.tup (p.2.map V.int))
  | [], _, r => by cases r; exact ⟨[], rfl, rfl, fun p hp => by simp at hp⟩
  | l :: ls, _, r => by
    cases r with
    | cons a b =>
      obtain ⟨ks, e1, e2, e3⟩ := rows_inv b
      unfold rowD at a
      cases a with
      | @tup x xs _ hx ra =>
      cases dpa_ints_inv ra
      refine ⟨(x, l) :: ks, by rw [List.map_cons, e1], by rw [List.map_cons, e2], fun p hp => ?_⟩
      rcases List.mem_cons.mp hp with e | hp
      · rw [e]; exact hx
      · exact e3 p hp
section
variable {X : Cx} {tb : List (Addr × Addr)} {p p1 p2 p3 : Pos} {e : Expr} {t : M PyData}
def mSortSet (t : M PyData) : M (List PyData) := mb t fun d => mo (dSortSet d)
theorem rf_sortSet (hu : X.A.units + 64 < cLine) (hc : X.calm = true) (hg : Gl X "sorted") (hm : X.mg "sorted" = none) (hg2 : Gl X "set") (hm2 : X.mg "set" = none) (h1 : RE X tb e t)
    (he : starEach [.Call (.Name "set" p2) [e] [] p3] X.env = (false, eval (.Call (.Name "set" p2) [e] [] p3) X.env) :: starEach [] X.env := by rfl) (he2 : starEach [e] X.env = (false, eval e X.env) :: starEach [] X.env := by rfl) :
    RF X tb (.Call (.Name "sorted" p1) [.Call (.Name "set" p2) [e] [] p3] [] p) (mSortSet t) := fun α out α' h σ H g Q S k => by
  obtain ⟨d, α1, e1, h2⟩ := mb_some h
  obtain ⟨hf, rfl⟩ := mo_some h2
  unfold dSortSet at hf
  split at hf
  · rename_i ds
    split at hf
    case h_2 => cases hf
    rename_i ns en
    obtain ⟨hl, hf⟩ := ite_some hf
    cases hf
    have := toInts_some en
    subst this
    refine U_of (pe_callB (call_srtI hc) hg hm bt_sorted (pa_cons (pe_callTy (call_setI hc) hg2 hm2 (by decide +kernel) (pa_cons pe_U pa_nil he2) (by decide) (by decide) he2) pa_nil he) (by decide) (by decide) he) ?_
    refine h1 _ _ _ e1 σ H g _ S fun v H1 S1 w1 q1 => ?_
    cases q1 with
    | tup hh ra =>
    cases dpa_ints_inv ra
    refine ⟨_, ns, rfl, SqT.of (vw_sub hh), hl, fun a c ha hle => ?_⟩
    obtain ⟨S2, w2, _⟩ := S1.new (o := SetIO X.w a (fun j => decide (j ∈ ns)) c) ha
    refine ⟨a, _, c, rfl, upd_same, by omega, fun p ms hp pw hms => ?_⟩
    rw [ddI_sort pw fun k => (hms k).trans decide_eq_true_iff]
    exact k _ _ (.trans (w1.trans w2) (S2.fresh hp dpa_ints))
  · rename_i ds
    split at hf
    case isFalse => cases hf
    rename_i hl
    unfold dSortS at hf
    split at hf
    case h_2 => cases hf
    rename_i ls el
    obtain ⟨hne, hf⟩ := ite_some hf
    have := toRows_some el
    subst this
    cases hf
    refine U_of (pe_callB (call_srtS2 (by omega) hc) hg hm bt_sorted (pa_cons (pe_callTy (cr_setOfT hc hu) hg2 hm2 (by decide +kernel) (pa_cons pe_U pa_nil he2) (by decide) (by decide) he2) pa_nil he) (by decide) (by decide) he) ?_
    refine h1 _ _ _ e1 σ H g _ S fun v H1 S1 w1 q1 => ?_
    cases q1 with
    | lst hh ra =>
    obtain ⟨ks, rfl, ek, hk⟩ := rows_inv ra
    refine ⟨_, ks, rfl, SqL.of (vw_sub hh), fun p hp => SqT.of (vw_sub (hk p hp)), ?_, fun a L ha hL1 hL2 => ?_⟩
    · have := congrArg List.length ek
      rw [List.length_map] at this
      rw [List.length_map] at hl
      omega
    · obtain ⟨S2, w2, _⟩ := S1.new (o := SetTO X.prog X.w a L) ha
      refine ⟨a, L, vw _ g (upd H1 a (SetTO X.prog X.w a L)), (sortL (dd ls)).map rowD, rfl, upd_same, fun b o z => vw_sub z, fun p hp => w2.ext.T (hk p (hL1 p hp)), fun nd L1 p1 => ?_, fun p ys hp hy => ?_⟩
      · refine sortS_ok hne (((p1.map (·.2)).nodup_iff).mpr nd) fun r => ((p1.map (·.2)).mem_iff).trans ?_
        rw [← ek]
        constructor
        · intro hr
          obtain ⟨q, hq, e⟩ := List.mem_map.mp hr
          exact List.mem_map.mpr ⟨q, hL1 q hq, e⟩
        · intro hr
          obtain ⟨q, hq, e⟩ := List.mem_map.mp hr
          rw [← e]
          exact hL2 q hq
      · exact k _ _ (.trans (w1.trans w2) (S2.fresh hp hy))
  · cases hf
end
end Pd
end
section
set_option Elab.async false
set_option linter.all false
set_option maxRecDepth 100000
set_option maxHeartbeats 2000000
namespace Pd
open PySem PySem.Spec PyProof.Rows L2 SrtO Srt

/-! ### dicts with tuple keys, by a display of one pair and by dict(pairs) -/
theorem dt_new {P : Program} {w : World} {H' : Hp} {h' : Heap} {a : Addr} {kvs : List (List Key × V)} {xs : List (List Key × Addr × Value)} (z : kvs.length ≤ sizeLine) (hd : (a == sysModules) = false) (rel : KT H' kvs xs) (dd : h'.DictOfH (tupleKind (mixKind P w)) a xs) :
    ObjOk P w H' h' a (.dT kvs) := by
  obtain ⟨o, es, ep, h1, h2, h3, h4, _, h5⟩ := dd
  exact ⟨z, hd, xs, rel, o, es, ep, h1, h2, h3, h4, h5⟩
def tDisp1T (tk tv : TE) : TE := fun σ H Q => ∀ p, H p = none → tk σ (upd H p (.dT [])) fun x H1 => tv σ H1 fun y H2 => H2 p = some (.dT []) ∧ ∃ ks b, x = .ref b ∧ H2 b = some (.tup (ks.map kV)) ∧ Q (.ref p) (upd H2 p (.dT [(ks, y)]))
theorem pe_disp1T {X : Cx} {pos : Pos} {k v : Expr} {tk tv : TE} (hu : X.A.units < cLine) (hk : PE X k tk) (hv : PE X v tv) : PE X (.Dict [some k] [v] pos) (tDisp1T tk tv) := by
  refine ⟨fun pins s σ H Q I q => ?_⟩
  have hn := I.hok.fresh (Nat.le_refl s.heap.objs.size)
  have I1 := I.laid (a := s.heap.objs.size) (o := .dT []) (h' := s.heap.push { cls := .type "dict", data := .dict #[] }) (t' := s.toks) (fun _ _ q => Heap.get?_push_of_some _ q) (Nat.le_refl _) (dt_empty s.heap I.big)
  have hne := pairTrees_length [some k] [v] X.env pos rfl rfl
  have h0 : pairTrees [some k] [v] X.env pos ≠ [] := fun z => by rw [z] at hne; cases hne
  have hl15 : (pairTrees [some k] [v] X.env pos).length ≤ 15 := by rw [hne]; show 1 ≤ 15; decide
  rw [arm_eval_Dict, zip_pairTrees [some k] [v] X.env pos rfl rfl, dictDisplay_pairs _ h0 (by omega)]
  refine wpAny_bind (wpAny_standAt (wpAny_bind ?_))
  refine wpAny_subDictH (knd := tupleKind (mixKind X.prog X.w)) hu hl15 ?_
  refine thn ((pps_cons hk hv pps_nil).run pins _ σ _ (fun ps H3 => ∃ x y, ps = [(x, y)] ∧ H3 s.heap.objs.size = some (.dT []) ∧ ∃ ks b, x = .ref b ∧ H3 b = some (.tup (ks.map kV)) ∧ Q (.ref s.heap.objs.size) (upd H3 s.heap.objs.size (.dT [(ks, y)]))) I1 ?_) fun ws s2 ⟨ps, H2, I2, rel, x, y, ep, e, ks, b, ex, eb, q2⟩ => ?_
  · have := q _ hn
    unfold tDisp1T at q
    show tPairs [(tk, tv)] σ (upd H s.heap.objs.size (.dT [])) _
    show tk σ (upd H s.heap.objs.size (.dT [])) fun x H1 => tv σ H1 fun y H2 => ∃ x' y', [(x, y)] = [(x', y')] ∧ _
    refine cast ?_ this
    congr 1
    funext x H1
    congr 1
    funext y H2
    refine propext ⟨fun h => ⟨x, y, rfl, h⟩, fun ⟨x', y', he, h⟩ => ?_⟩
    cases he
    exact h
  subst ep ex
  cases rel with
  | @cons _ w1 _ ws' h t =>
  cases t
  obtain ⟨kv, vv⟩ := w1
  obtain ⟨r1, r2⟩ := h
  obtain rfl : kv = Value.ref b := r1
  obtain ⟨z, hd, xs0, r0, dd⟩ := dt_of I2.hok e
  cases r0
  refine ⟨[(ks, b, vv)], ⟨rfl, rfl, key_of I2.hok eb, trivial⟩, dd, fun h' tk dd' hs => wpAny_pure ⟨.ref s.heap.objs.size, _, ?_, rfl, q2⟩⟩
  have he : ∃ q, h'.get? s.heap.objs.size = some q := let ⟨q, _, _, hq, _⟩ := dd'; ⟨q, hq⟩
  have nb : b ≠ s.heap.objs.size := ne_of eb e (by intro z; cases z)
  refine d_write I2 (by rw [e]; exact True.intro) hs he (dt_new (xs := [(ks, b, vv)]) (by rw [sizeLine_eq]; show 1 ≤ _; decide) hd (.cons ⟨rfl, by rw [upd_ne nb]; exact eb, r2⟩ .nil) ?_)
  exact dd'
section
variable {X : Cx} {tb : List (Addr × Addr)} {e e1 e2 : Expr} {t t1 t2 : M PyData} {pos p p1 p2 : Pos}
def mDisp1T (t1 t2 : M PyData) : M OD := mb t1 fun k => mb t2 fun d => mo (match keyT k with | some ks => some (.t [(ks, d)]) | none => none)
theorem ro_disp1T (hu : X.A.units < cLine) (h1 : RE X tb e1 t1) (h2 : RE X tb e2 t2) : RO X tb (.Dict [some e1] [e2] pos) (mDisp1T t1 t2) := fun α o α' h σ H g Q S kQ => by
  obtain ⟨k, α1, k1, h⟩ := mb_some h
  obtain ⟨d, α2, k2, h⟩ := mb_some h
  obtain ⟨hf, rfl⟩ := mo_some h
  split at hf
  case h_2 => cases hf
  rename_i ks ek
  cases hf
  refine U_of (pe_disp1T hu pe_U pe_U) ?_
  intro p hp
  have F0 : FreshO X.K tb α α g σ H (upd H p (.dT [])) p (.t []) := S.freshO hp ⟨[], rfl, rfl, .nil⟩
  refine h1 _ _ _ k1 σ _ (g.add p) _ F0.st fun v H1 S1 w1 q1 => h2 _ _ _ k2 σ H1 (g.add p) _ S1 fun u H2 S2 w2 q2 => ?_
  have e0 : H2 p = some (.dT []) := (w2.out p (.inr rfl)).trans ((w1.out p (.inr rfl)).trans upd_same)
  obtain ⟨b, rfl, eb⟩ := rp_keyT (dp_ext w2.ext _ _ q1) ek
  refine ⟨e0, ks, b, rfl, vw_sub eb, kQ _ _ ?_⟩
  obtain ⟨Sd, Vd⟩ := S2.hide (D := p) (o := .dT [(ks, u)]) (.inr rfl)
  refine ⟨Sd, F0.np, fun a ha => ?_, ?_, _, upd_same, [(ks, u)], rfl, rfl, ?_⟩
  · rw [upd_ne fun z => F0.np (by rw [← z]; exact ha)]
    exact (w2.out a (.inl ha)).trans ((w1.out a (.inl ha)).trans (F0.out a ha))
  · rw [Vd]; exact F0.ext.trans (w1.ext.trans w2.ext)
  · rw [Vd]; exact .cons q2 .nil
end

/-! dict(list of pairs) -/
section
variable {κ : Type} [DecidableEq κ]
def mergeV (kvs more : List (κ × V)) : List (κ × V) := more.foldl (fun acc kv => putK acc kv.1 kv.2) kvs
def mergeD (kvs more : List (κ × PyData)) : List (κ × PyData) := more.foldl (fun acc kv => putD acc kv.1 kv.2) kvs
theorem length_mergeV : ∀ (more kvs : List (κ × V)), (mergeV kvs more).length ≤ kvs.length + more.length
  | [], kvs => by show kvs.length ≤ kvs.length + 0; omega
  | p :: r, kvs => by
    have h1 := length_mergeV r (putK kvs p.1 p.2)
    have h2 := length_putK kvs p.1 p.2
    show (mergeV (putK kvs p.1 p.2) r).length ≤ _
    rw [List.length_cons]; omega
theorem DK.merge {K : PySem.W.Frag} {H : Hp} : ∀ {more : List (κ × V)} {mo : List (κ × PyData)} {kvs : List (κ × V)} {es : List (κ × PyData)}, DK K H more mo → DK K H kvs es → DK K H (mergeV kvs more) (mergeD es mo)
  | [], _, _, _, m, h => by cases m.inv0; exact h
  | p :: more, _, kvs, es, m, h => by
    obtain ⟨q, mo, rfl, e, r, t⟩ := m.inv
    have := h.put p.1 r
    rw [e] at this
    show DK K H (mergeV (putK kvs p.1 p.2) more) (mergeD (putD es q.1 q.2) mo)
    rw [e]
    exact DK.merge t this
end
theorem KT.mergeH {H : Hp} : ∀ {more : List (List Key × V)} {ps : List (List Key × Addr × Value)} {kvs : List (List Key × V)} {xs : List (List Key × Addr × Value)}, KT H more ps → KT H kvs xs → KT H (mergeV kvs more) (storedAllH xs ps) := by
  intro more ps kvs xs r
  induction r generalizing kvs xs with
  | nil => intro q; exact q
  | @cons p q ms qs h t ih =>
    intro r0
    have e : KT H (putK kvs p.1 p.2) (storedH xs q.1 q.2.1 q.2.2) := by
      have := r0.put p.1 h.2.1 h.2.2
      rw [← h.1]; exact this
    exact ih e
section
variable {X : Cx}
theorem pairs_ofT {pins : List (Addr × Obj)} {σ : L2.St} {H : Hp} {s : Shared} (I : Inv X pins σ H s) : ∀ {ps : List Addr} {kvs : List (List Key × V)}, Paired (fun p (kv : List Key × V) => ∃ b, SqT X.K H p [.ref b, kv.2] ∧ H b = some (.tup (kv.1.map kV))) ps kvs →
    ∃ prs : List (List Key × Addr × Value), KT H kvs prs ∧ prs.length = ps.length ∧ ∀ (j : Nat) (q : List Key × Addr × Value), prs[j]? = some q → ∃ b : Addr, ps[j]? = some b ∧ IsTup s.heap b #[.ref q.2.1, q.2.2]
  | _, _, .nil => ⟨[], .nil, rfl, fun j q e => by simp at e⟩
  | _, _, .cons (a := p) (b := kv) h t => by
    obtain ⟨prs, r, hl, hp⟩ := pairs_ofT I t
    obtain ⟨b, h1, h2⟩ := h
    obtain ⟨its, rv, ht, _⟩ := I.tuple h1
    obtain ⟨u, y, ei, ru, ry⟩ := vals2 rv
    subst ei
    obtain rfl : u = Value.ref b := ru
    refine ⟨(kv.1, b, y) :: prs, .cons ⟨rfl, h2, ry⟩ r, by simp [hl], fun j q e => ?_⟩
    cases j with
    | zero =>
      have e' : (kv.1, b, y) = q := Option.some.inj e
      subst e'
      exact ⟨p, rfl, by simpa using ht⟩
    | succ j =>
      obtain ⟨b', e1, e2⟩ := hp j q (by simpa using e)
      exact ⟨b', by simpa using e1, e2⟩
theorem call_dictPT (hc : X.calm = true) (hu : X.A.units + 2 < cLine) : CallR X (.type "dict") (fun xs H Q => ∃ (a : Addr) (ps : List Addr) (kvs : List (List Key × V)), xs = [.ref a] ∧ SqL X.K H a (ps.map V.ref) ∧
    Paired (fun p (kv : List Key × V) => ∃ b, SqT X.K H p [.ref b, kv.2] ∧ H b = some (.tup (kv.1.map kV))) ps kvs ∧ ∀ p, H p = none → Q (.ref p) (upd H p (.dT (mergeV [] kvs)))) := by
  intro pins s σ H xs us Q I r q
  obtain ⟨a, ps, kvs, rfl, hq, hp, q⟩ := q
  rw [Vals.ref1 r]
  obtain ⟨its, rv, pl, hz⟩ := I.list hq
  have ei := refs_at rv
  subst ei
  rw [List.length_map] at hz
  obtain ⟨prs, rel, hl, hpr⟩ := pairs_ofT I hp
  obtain ⟨o, n, ho, hcl, hd, hdat⟩ := pl
  have P := PairArg.list (prog := X.prog) (w := X.w) a (ps.map Value.ref).toArray (fun j => ps.getD j 0) (prs.map fun x => (Value.ref x.2.1, x.2.2))
  refine call_dict_pairsH (knd := tupleKind (mixKind X.prog X.w)) (ps := prs) P (I.ok.hd hc) (tupleKind_room_in1 (A := X.A.in1) (by show X.A.units + 1 + 1 < cLine; omega)) ⟨⟨o, n, ho, hcl, hd, hdat⟩, by simp [hl], fun j k v e => ?_⟩ ⟨by simp, fun i key v e => ?_⟩ (fun h' kp x hx => ?_) (by simp; omega) fun h' tk hd' k => ?_
  · rw [List.getElem?_map] at e
    cases e1 : prs[j]? with
    | none => rw [e1] at e; cases e
    | some x =>
      rw [e1] at e
      cases Option.some.inj e
      obtain ⟨b, e2, e3⟩ := hpr j x e1
      refine ⟨?_, .inl ?_⟩
      · simp [e2, List.getD_eq_getElem?_getD]
      · have e4 : ps.getD j 0 = b := by rw [List.getD_eq_getElem?_getD, e2]; rfl
        show s.heap.IsTuple (ps.getD j 0) _
        rw [e4]
        exact e3
  · have e : (prs.map fun x => (Value.ref x.2.1, x.2.2))[i]? = some (key, v) := e
    rw [List.getElem?_map] at e
    cases e1 : prs[i]? with
    | none => rw [e1] at e; cases e
    | some x =>
      rw [e1] at e
      cases Option.some.inj e
      exact ⟨x.1, x.2.1, rfl, rfl⟩
  · have all : ∀ {l : List (List Key × V)} {m : List (List Key × Addr × Value)}, KT H l m → ∀ x ∈ m, H x.2.1 = some (.tup (x.1.map kV)) := by
      intro l m q
      induction q with
      | nil => intro x hx; exact nomatch hx
      | @cons p q ps qs hq t ih =>
        intro x hx
        rcases List.mem_cons.mp hx with e | hx
        · subst e
          rw [← hq.1]; exact hq.2.1
        · exact ih x hx
    obtain ⟨o, it, n, g1, g2, g3, g4⟩ := key_of I.hok (all rel x hx)
    exact ⟨o, it, n, kp _ _ (Nat.ne_of_lt (Heap.lt_size g1)) (by simp) g1, g2, g3, g4⟩
  · have hm : (s.heap.objs.size == sysModules) = false := beq_eq_false_iff_ne.mpr (Nat.ne_of_gt I.big)
    have hlk : kvs.length = prs.length := Paired.length rel
    have hlen : (mergeV [] kvs).length ≤ sizeLine := by
      refine Nat.le_trans (length_mergeV kvs []) ?_
      rw [List.length_nil, Nat.zero_add]
      omega
    have hn : H s.heap.objs.size = none := I.hok.fresh (Nat.le_refl _)
    have kt : KT (upd H s.heap.objs.size (.dT (mergeV [] kvs))) (mergeV [] kvs) (storedAllH [] prs) :=
      (KT.mergeH rel .nil).keeps fun b ys e => by rw [upd_ne (ne_of_none e hn)]; exact e
    exact ⟨.ref s.heap.objs.size, upd H s.heap.objs.size (.dT (mergeV [] kvs)), I.laid (t' := tk) (fun b o e => k b o (by simp) e) (Nat.le_refl _) (dt_new hlen hm kt hd'), rfl, q _ hn⟩
end
def pairsK : List PyData → Option (List (Key × PyData))
  | [] => some []
  | .tuple [k, d] :: r => match keyD k, pairsK r with | some kk, some es => some ((kk, d) :: es) | _, _ => none
  | _ => none
def pairsT : List PyData → Option (List (List Key × PyData))
  | [] => some []
  | .tuple [k, d] :: r => match keyT k, pairsT r with | some kk, some es => some ((kk, d) :: es) | _, _ => none
  | _ => none
section
variable {K : PySem.W.Frag} {V' : Hp}
theorem pairsK_rp : ∀ {ds : List PyData} {vs : List V} {es : List (Key × PyData)}, RpA K V' vs ds → pairsK ds = some es → ∃ (ps : List Addr) (kvs : List (Key × V)), vs = ps.map V.ref ∧ DK K V' kvs es ∧ Paired (fun p (kv : Key × V) => V' p = some (.tup [kV kv.1, kv.2])) ps kvs
  | [], _, es, r, h => by cases r; cases h; exact ⟨[], [], rfl, .nil, .nil⟩
  | d :: ds, _, es, r, h => by
    unfold pairsK at h
    split at h
    · rename_i z; cases z
    · rename_i k x r' z
      cases z
      split at h
      · rename_i kk es' e1 e2
        cases h
        cases r with
        | cons a b =>
          obtain ⟨ps, kvs, rfl, h2, h3⟩ := pairsK_rp b e2
          cases a with
          | @tup p _ _ hp ra =>
          cases ra with
          | cons rk ra =>
          cases ra with
          | cons rd ra =>
          cases ra
          have := rp_key rk e1
          subst this
          exact ⟨p :: ps, (kk, _) :: kvs, rfl, .cons rfl rd h2, .cons hp h3⟩
      · cases h
    · cases h
theorem pairsT_rp : ∀ {ds : List PyData} {vs : List V} {es : List (List Key × PyData)}, RpA K V' vs ds → pairsT ds = some es → ∃ (ps : List Addr) (kvs : List (List Key × V)), vs = ps.map V.ref ∧ DK K V' kvs es ∧ Paired (fun p (kv : List Key × V) => ∃ b, V' p = some (.tup [.ref b, kv.2]) ∧ V' b = some (.tup (kv.1.map kV))) ps kvs
  | [], _, es, r, h => by cases r; cases h; exact ⟨[], [], rfl, .nil, .nil⟩
  | d :: ds, _, es, r, h => by
    unfold pairsT at h
    split at h
    · rename_i z; cases z
    · rename_i k x r' z
      cases z
      split at h
      · rename_i kk es' e1 e2
        cases h
        cases r with
        | cons a b =>
          obtain ⟨ps, kvs, rfl, h2, h3⟩ := pairsT_rp b e2
          cases a with
          | @tup p _ _ hp ra =>
          cases ra with
          | cons rk ra =>
          cases ra with
          | cons rd ra =>
          cases ra
          obtain ⟨b, rfl, hb⟩ := rp_keyT rk e1
          exact ⟨p :: ps, (kk, _) :: kvs, rfl, .cons rfl rd h2, .cons ⟨b, hp, hb⟩ h3⟩
      · cases h
    · cases h
end
def mDictK (t : M PyData) : M OD := mb t fun d => mo (match d with | .list ds => (match pairsK ds with | some es => some (.k (mergeD [] es)) | none => none) | _ => none)
def mDictT (t : M PyData) : M OD := mb t fun d => mo (match d with | .list ds => (match pairsT ds with | some es => some (.t (mergeD [] es)) | none => none) | _ => none)
section
variable {X : Cx} {tb : List (Addr × Addr)} {e : Expr} {t : M PyData} {pos p : Pos}
theorem paired_imp {α β : Type} {F G : α → β → Prop} (f : ∀ a b, F a b → G a b) : ∀ {l : List α} {m : List β}, Paired F l m → Paired G l m
  | _, _, .nil => .nil
  | _, _, .cons h t => .cons (f _ _ h) (paired_imp f t)
theorem ro_dictK (hc : X.calm = true) (hg : Gl X "dict") (hm : X.mg "dict" = none) (h1 : RE X tb e t) (he : starEach [e] X.env = (false, eval e X.env) :: starEach [] X.env := by rfl) : RO X tb (.Call (.Name "dict" p) [e] [] pos) (mDictK t) := fun α o α' h σ H g Q S kQ => by
  obtain ⟨d, α1, k1, h⟩ := mb_some h
  obtain ⟨hf, rfl⟩ := mo_some h
  split at hf
  case h_2 => cases hf
  rename_i ds
  split at hf
  case h_2 => cases hf
  rename_i es ee
  cases hf
  refine U_of (pe_callTy (call_dictP hc) hg hm (by decide +kernel) (pa_cons pe_U pa_nil he) (by decide) (by decide) he) ?_
  refine h1 _ _ _ k1 σ H g _ S fun v H1 S1 w1 q1 => ?_
  cases q1 with
  | lst hh ra =>
  obtain ⟨ps, kvs, rfl, h2, h3⟩ := pairsK_rp ra ee
  refine ⟨_, ps, kvs, rfl, SqL.of (vw_sub hh), paired_imp (fun a b q => SqT.of (vw_sub q)) h3, fun p hp => kQ _ _ (.trans w1 (S1.freshO hp ⟨_, rfl, ?_⟩))⟩
  exact DK.merge h2 .nil
theorem ro_dictT (hu : X.A.units + 2 < cLine) (hc : X.calm = true) (hg : Gl X "dict") (hm : X.mg "dict" = none) (h1 : RE X tb e t) (he : starEach [e] X.env = (false, eval e X.env) :: starEach [] X.env := by rfl) : RO X tb (.Call (.Name "dict" p) [e] [] pos) (mDictT t) := fun α o α' h σ H g Q S kQ => by
  obtain ⟨d, α1, k1, h⟩ := mb_some h
  obtain ⟨hf, rfl⟩ := mo_some h
  split at hf
  case h_2 => cases hf
  rename_i ds
  split at hf
  case h_2 => cases hf
  rename_i es ee
  cases hf
  refine U_of (pe_callTy (call_dictPT hc hu) hg hm (by decide +kernel) (pa_cons pe_U pa_nil he) (by decide) (by decide) he) ?_
  refine h1 _ _ _ k1 σ H g _ S fun v H1 S1 w1 q1 => ?_
  cases q1 with
  | lst hh ra =>
  obtain ⟨ps, kvs, rfl, h2, h3⟩ := pairsT_rp ra ee
  refine ⟨_, ps, kvs, rfl, SqL.of (vw_sub hh), paired_imp (fun a b ⟨c, q1, q2⟩ => ⟨c, SqT.of (vw_sub q1), vw_sub q2⟩) h3, fun p hp => kQ _ _ (.trans w1 (S1.freshO hp ⟨_, rfl, ?_⟩))⟩
  exact DK.merge h2 .nil
end
end Pd
end
section
set_option Elab.async false
set_option linter.all false
set_option maxRecDepth 100000
set_option maxHeartbeats 2000000
namespace Pd
open PySem PySem.Spec PyProof.Rows L2 SrtO Srt
theorem room2 {k : Nat} {A : Around} (r : RoomG k A) : A.units + 2 < cLine := by have := r.un; omega
theorem room64 {k : Nat} {A : Around} (r : RoomG k A) : A.units + 64 < cLine := by have := r.un; omega
section
variable {X : Cx} {tb : List (Addr × Addr)} {e1 : Expr} {t1 : M PyData} {p p1 p2 : Pos}
/-- tuple(range(n)) -/
def mTupRg1 (t : M PyData) : M PyData := mb (mRg1 t) fun ds => mr (.tuple ds)
theorem re_tupRg1 (hc : X.calm = true) (gl : Gl X "tuple") (ml : X.mg "tuple" = none) (gr : Gl X "range") (mr' : X.mg "range" = none) (h1 : RE X tb e1 t1) {pr : Pos} (na : starEach [e1] X.env = (false, eval e1 X.env) :: starEach [] X.env := by rfl)
    (nb : starEach [.Call (.Name "range" p2) [e1] [] pr] X.env = (false, eval (.Call (.Name "range" p2) [e1] [] pr) X.env) :: starEach [] X.env := by rfl) : RE X tb (.Call (.Name "tuple" p1) [.Call (.Name "range" p2) [e1] [] pr] [] p) (mTupRg1 t1) := fun α d α' h0 σ H g Q S k => by
  obtain ⟨ds, α0, h, h'⟩ := mb_some h0
  cases h'
  obtain ⟨d1, α1, k1, h⟩ := mb_some h
  obtain ⟨hf, rfl⟩ := mo_some h
  refine U_of (pe_tupRg hc gl ml (prg_1 gr mr' pe_U na) nb) ?_
  refine h1 _ _ _ k1 σ H g _ S fun v H1 S1 w1 q1 => ?_
  cases q1 with
  | int n =>
    obtain ⟨o1, rfl⟩ := rgok hf
    refine ⟨n, rfl, o1, fun q hq => ?_⟩
    obtain ⟨S2, w2, r2⟩ := S1.tup hq rpa_rg
    exact k _ _ S2 (w1.trans w2) r2
  | non => cases hf
  | bl => cases hf
  | str => cases hf
  | lst => cases hf
  | tup => cases hf
end
end Pd
end
section
set_option Elab.async false
set_option linter.all false
set_option maxRecDepth 100000
set_option maxHeartbeats 1000000
namespace Pd
open PySem PySem.Spec PyProof.Rows L2
/-! ### a list behind another one, the first one any list -/
def dCatE : PyData → List PyData → Option (List PyData)
  | .list a, b => if a.length + b.length ≤ 16777216 then some (a ++ b) else none
  | _, _ => none
def mCatE (t1 : M PyData) (u2 : M (List PyData)) : M (List PyData) := mb t1 fun d => mb u2 fun b => mo (dCatE d b)
section
variable {X : Cx} {tb : List (Addr × Addr)} {e1 e2 : Expr} {t1 : M PyData} {u2 : M (List PyData)} {p : Pos}
theorem rf_catE (h1 : RE X tb e1 t1) (h2 : RF X tb e2 u2) : RF X tb (.BinOp e1 .Add e2 p) (mCatE t1 u2) := fun α d α' h σ H g Q S k => by
  obtain ⟨d1, α1, k1, h⟩ := mb_some h
  obtain ⟨d2, α2, k2, h⟩ := mb_some h
  obtain ⟨hf, rfl⟩ := mo_some h
  cases d1 with
  | list a =>
    obtain ⟨hl, rfl⟩ := ite_some hf
    refine U_of (pe_op op_cat pe_U pe_U) ?_
    refine h1 _ _ _ k1 σ H g _ S fun v H1 S1 w1 q1 => h2 _ _ _ k2 σ H1 g _ S1 fun pb H2 F2 => ?_
    obtain ⟨S2, w2, q2⟩ := F2.val
    obtain ⟨ys, ey, ry⟩ := F2.is_
    have q3 := dp_ext w2.ext _ _ q1
    cases q3 with
    | lst qa ra =>
      refine ⟨_, pb, _, ys, rfl, rfl, vw_sub qa, ey, by rw [dpa_len ra, dpa_len ry, sizeLine_eq]; exact hl, fun pc hp => ?_⟩
      exact k _ _ (.trans (w1.trans w2) (S2.fresh hp (dpa_app ra (dpa_ext F2.ext2 _ _ ry))))
  | none => cases hf
  | bool => cases hf
  | int => cases hf
  | str => cases hf
  | tuple => cases hf
  | dict => cases hf
def dCatR : List PyData → PyData → Option (List PyData)
  | a, .list b => if a.length + b.length ≤ 16777216 then some (a ++ b) else none
  | _, _ => none
def mCatR (u1 : M (List PyData)) (t2 : M PyData) : M (List PyData) := mb u1 fun a => mb t2 fun d => mo (dCatR a d)
theorem rf_catR {u1 : M (List PyData)} {t2 : M PyData} (h1 : RF X tb e1 u1) (h2 : RE X tb e2 t2) : RF X tb (.BinOp e1 .Add e2 p) (mCatR u1 t2) := fun α d α' h σ H g Q S k => by
  obtain ⟨d1, α1, k1, h⟩ := mb_some h
  obtain ⟨d2, α2, k2, h⟩ := mb_some h
  obtain ⟨hf, rfl⟩ := mo_some h
  cases d2 with
  | list b =>
    obtain ⟨hl, rfl⟩ := ite_some hf
    refine U_of (pe_op op_cat pe_U pe_U) ?_
    refine h1 _ _ _ k1 σ H g _ S fun pa H1 F1 => h2 _ _ _ k2 σ H1 (g.add pa) _ F1.st fun v H2 S2 w2 q2 => ?_
    have F3 := F1.after S2 w2
    obtain ⟨S3, w3, q3⟩ := F3.val
    obtain ⟨xs, ex, rx⟩ := F3.is_
    cases q2 with
    | lst qb rb =>
      refine ⟨pa, _, xs, _, rfl, rfl, ex, vw_sub qb, by rw [dpa_len rx, dpa_len rb, sizeLine_eq]; exact hl, fun pc hp => ?_⟩
      exact k _ _ (.trans w3 (S3.fresh hp (dpa_app (dpa_ext F3.ext2 _ _ rx) (dpa_ext F3.ext2 _ _ rb))))
  | none => cases hf
  | bool => cases hf
  | int => cases hf
  | str => cases hf
  | tuple => cases hf
  | dict => cases hf
end
end Pd
end
section
set_option Elab.async false
set_option linter.all false
set_option maxRecDepth 100000
set_option maxHeartbeats 2000000
namespace Pd
open PySem PySem.Spec PyProof.Rows L2

/-! ### defs that hand back an object of their own -/
abbrev FO := List Sl → Option OD
structure GBk (K : PySem.W.Frag) (tb : Tabs) (β β' : Ab) (g g' : Gh) (H H' : Hp) (p : Addr) (r : OD) : Prop where
  st : St K tb ⟨[], β'.δ⟩ (g'.add p) [] H'
  np : ¬ g'.O p
  O : g'.O = g.O
  out : ∀ a, g.O a → H' a = H a
  ext : Ext (vw β g H) (vw ⟨[], β'.δ⟩ (g'.add p) H')
  isO : ∃ ho, H' p = some ho ∧ OdIs K (vw ⟨[], β'.δ⟩ (g'.add p) H') ho r
def spO (K : PySem.W.Frag) (tb : Tabs) (F : FO) : Sp := fun vs H Q _ => ∃ (as : List Sl) (r : OD) (g : Gh), F as = some r ∧ as.all argOk = true ∧ vs.length = as.length ∧ St K tb ⟨as, none⟩ g (vs.map some) H ∧
  ∀ p H' g', GBk K tb ⟨as, none⟩ ⟨[], none⟩ g g' H H' p r → Q (.ref p) H'
def RSo (X : Cx) (tb : Tabs) (sts : List Stmt) (t : Ab → Option (OD × Ab)) : Prop := ∀ α o α', t α = some (o, α') → ∀ (σ : L2.St) (H : Hp) (g : Gh) (D : Ends), St X.K tb α g σ H →
  (∀ p H' g', GBk X.K tb α α' g g' H H' p o → D.rt (.ref p) H') → USs X sts D σ H
def oSeq (t : MS) (u : Ab → Option (OD × Ab)) : Ab → Option (OD × Ab) := fun α => match t α with
  | some (.nx, α1) => u α1
  | _ => none
def oRet (i : Nat) : Ab → Option (OD × Ab) := fun α => match objOf i α with | some o => some (o, α) | none => none
section
variable {X : Cx} {tb : List (Addr × Addr)} {st : Stmt} {sts : List Stmt} {pos p : Pos} {x : Str}
theorem GBk.after {K : PySem.W.Frag} {β β1 β' : Ab} {g g1 g' : Gh} {H H1 H' : Hp} {p : Addr} {r : OD} (m : GMv β β1 g g1 H H1) (b : GBk K tb β1 β' g1 g' H1 H' p r) : GBk K tb β β' g g' H H' p r :=
  ⟨b.st, b.np, b.O.trans m.O, fun a h => (b.out a (by rw [m.O]; exact h)).trans (m.out a h), m.ext.trans b.ext, b.isO⟩
theorem rso_cons {u : MS} {v : Ab → Option (OD × Ab)} (h1 : RS X tb st u) (h2 : RSo X tb sts v) : RSo X tb (st :: sts) (oSeq u v) := fun α o α' h σ H g D S P => by
  refine USs_of (pss_cons ps_U pss_U) ?_
  unfold oSeq at h
  split at h
  · rename_i α1 e1
    exact h1 _ _ _ e1 σ H g { D with nx := USs X sts D } S fun σ' H' g' S' m => h2 _ _ _ h σ' H' g' D S' fun p H2 g2 b => P p H2 g2 (b.after m)
  · cases h
theorem rso_ret (i : Nat) (hN : X.N[i]? = some x := by rfl) (hv : Vis X.env.scope x := by first | exact Or.inl rfl | exact Or.inr (Or.inl rfl) | exact Or.inr (Or.inr rfl)) (hd : (x == ("__debug__" : Str)) = false := by decide)
    (hcd : (x == ("__classdict__" : Str)) = false := by decide) : RSo X tb [.Return (some (.Name x p)) pos] (oRet i) := fun α o α' h σ H g D S P => by
  unfold oRet at h
  split at h
  case h_2 => cases h
  rename_i o0 ho
  cases h
  refine USs_of (pss_one (ps_ret (pe_var hN hv hd hcd))) ?_
  refine ⟨_, S.objSeen ho, ?_⟩
  have hat := objOf_some ho
  have hown : ownAt α.ρ i := ⟨_, hat⟩
  obtain ⟨_, h2, ob, h3, h4⟩ := S.own i _ hat
  have E : Ext (vw α g H) (vw ⟨[], α.δ⟩ (g.add (g.ad i)) H) := ext_hid fun a z => by
    rcases z with (z | z) | ⟨j, ⟨ds, z⟩, _⟩ | z
    · exact .inl z
    · exact .inr (.inl ⟨i, hown, z.symm⟩)
    · simp at z
    · exact .inr (.inr z)
  refine P (g.ad i) H g ⟨⟨rfl, fun j d e => by simp at e, fun j d e => by simp at e, fun j k a => by obtain ⟨_, a⟩ := a; simp at a, fun j e => by simp at e, fun δ e => ?_, fun a z => ?_, S.tab, fun q hq z => ?_⟩, h2, rfl, fun _ _ => rfl, E, ob, h3, od_ext E h4⟩
  · obtain ⟨q1, q2, q3, q4⟩ := S.dk δ e
    exact ⟨q1, fun z => z.elim q2 fun z => (q4 i hown).1 z.symm, fun z => z.elim q3 fun z => (q4 i hown).2 z.symm, fun j a => by obtain ⟨_, a⟩ := a; simp at a⟩
  · rcases z with z | z
    · exact S.oin a z
    · exact S.hidK (.inr (.inl ⟨i, hown, z.symm⟩))
  · rcases z with z | z
    · exact S.otab q hq z
    · exact S.tabHid hq (.inr (.inl ⟨i, hown, z.symm⟩))
end
def fObj (n : Nat) (body : Ab → Option (OD × Ab)) : FO := fun as => match body ⟨as ++ List.replicate (n - as.length) .un, none⟩ with
  | some (o, ⟨_, none⟩) => some o
  | _ => none
def fArO (n : Nat) (F : FO) : FO := fun as => if as.length = n then F as else none
theorem fnG_obj {P : Program} {w : World} {K : PySem.W.Frag} {mg : Str → Option Value} {base : Heap} {x qual : Str} {st : Stmt} {f : Addr} {fd : FuncData} {N ps : List Str} {k : Nat} {tb : Tabs} {body : Ab → Option (OD × Ab)} (F : Fun K x qual st f fd) (S : FnScope N ps (defScope st))
    (h : ∀ (cdv : Value) (A : Around) (outer : List Env) (s : Shared) (H : Hp) (E : XK), RoomG k (A.deeper (envOfC qual (defScope st) s.heap.objs.size f cdv)) → RSo (cxOf CX0 P w K mg base N qual (defScope st) f cdv A outer s H E).nox tb (defBody st) body) :
    FnG P w K mg base (k + 1) f fd ps (spO K tb (fArO ps.length (fObj N.length body))) := by
  have arL : ∀ {as r}, fArO ps.length (fObj N.length body) as = some r → as.length = ps.length ∧ fObj N.length body as = some r := fun {as r} e => by
    unfold fArO at e
    split at e
    · rename_i q; exact ⟨q, e⟩
    · cases e
  have hpl : ps.length ≤ N.length := by have := congrArg List.length S.pre; rw [List.length_take] at this; omega
  refine fnG0 F S (fun vs H Q E ⟨as, r, g, e, _, hl, _⟩ => by rw [hl]; exact (arL e).1) fun cdv A outer s H vs Q E hr ⟨as, r, g, e, ha, hl, S0, k⟩ => ?_
  obtain ⟨hn, e⟩ := arL e
  obtain ⟨S1, E1⟩ := S0.start (N := N) (by omega) ha
  unfold fObj at e
  split at e
  · rename_i o ρ' eb
    cases e
    exact h cdv A outer s H E hr _ _ _ eb _ H g _ S1 fun p H' g' b => k p H' g' ⟨b.st, b.np, b.O, b.out, E1.trans b.ext, b.isO⟩
  · cases e
structure CalO (P : Program) (w : World) (K : PySem.W.Frag) (mg : Str → Option Value) (base : Heap) (tb : Tabs) (k : Nat) (x : Str) (F : FO) (ps : List Str) : Prop where
  ex : ∃ (f : Addr) (fd : FuncData), FnG P w K mg base k f fd ps (spO K tb F) ∧ mg x = some (.ref f) ∧ PySem.W.keepIn K (.ref f) = true ∧ Binds K fd ps [] ∧ KB K fd ps
theorem calO {P : Program} {w : World} {K : PySem.W.Frag} {mg : Str → Option Value} {base : Heap} {tb : Tabs} {k : Nat} {x : Str} {st : Stmt} {N ps : List Str} {body : Ab → Option (OD × Ab)} (D : DefD K mg x st ps) (S : FnScope N ps (defScope st))
    (h : ∀ (f : Addr) (cdv : Value) (A : Around) (outer : List Env) (s : Shared) (H : Hp) (E : XK), RoomG k (A.deeper (envOfC x (defScope st) s.heap.objs.size f cdv)) → RSo (cxOf CX0 P w K mg base N x (defScope st) f cdv A outer s H E).nox tb (defBody st) body) :
    CalO P w K mg base tb (k + 1) x (fArO ps.length (fObj N.length body)) ps := by
  obtain ⟨f, fd, F, hm, hb, hkb⟩ := D.ex
  exact ⟨f, fd, fnG_obj F S fun cdv A outer s H E hr => h f cdv A outer s H E hr, hm, F.kp, hb, hkb⟩
def mCallO (F : FO) (ts : M (List Sl)) : M OD := fun α => match ts α with
  | none => none
  | some (as, α1) => if hasDk as = true then none else (match F as with
      | some r => some (r, α1)
      | none => none)
section
variable {X : Cx} {tb : List (Addr × Addr)} {e : Expr} {es : List Expr} {ts : M (List Sl)} {pos p : Pos} {x : Str} {k j : Nat} {f : Addr} {fd : FuncData} {ps : List Str} {F : FO}
theorem call_obj {α : Ab} {g : Gh} {σ : L2.St} {H : Hp} {as : List Sl} {vs : List V} {r : OD} {Q : VK} {E : XK} {K : PySem.W.Frag} (S : St K tb α g σ H) (ha : as.all argOk = true) (hl : vs.length = as.length)
    (hv : ∀ (j : Nat) (d : PyData), as[j]? = some (Sl.val d) → ∃ v, vs[j]? = some v ∧ Rp K (vw α g H) v d)
    (hnd : ¬ hasDk as = true) (h : F as = some r) (k : ∀ p H', FreshO K tb α α g σ H H' p r → Q (.ref p) H') : spO K tb F vs H Q E := by
  have nd : ∀ j : Nat, as[j]? ≠ some Sl.dck := fun j e => hnd (hasDk_of e)
  let gc : Gh := { g with O := Hid α g }
  have hH : ∀ a, Hid ⟨as, none⟩ gc a ↔ Hid α g a := fun a => by
    constructor
    · rintro (z | ⟨j, z, _⟩ | ⟨z, _⟩)
      · exact z
      · exact absurd z (noOwn ha j)
      · exact absurd rfl z
    · exact fun z => .inl z
  have S1 := S.enter (gc := gc) (δc := none) ha hl hv (fun j e => absurd e (nd j)) rfl rfl hH (fun a z => z) fun δ e => by cases e
  refine ⟨as, r, gc, h, ha, hl, S1, fun p H' g' b => ?_⟩
  obtain ⟨R, np, O, out, ext, ob, h3, h4⟩ := b
  have out : ∀ a, Hid α g a → H' a = H a := out
  have V0 : vw ⟨as, none⟩ gc H = vw α g H := vw_eq hH
  rw [V0] at ext
  have nh : ¬ Hid α g p := fun z => np (by rw [O]; exact z)
  have hH2 : ∀ a, Hid α (g.add p) a ↔ Hid ⟨[], none⟩ (g'.add p) a := fun a => by
    rw [hid_add, hid_add]
    constructor
    · rintro (z | z)
      · exact .inl (.inl (by rw [O]; exact z))
      · exact .inr z
    · rintro ((z | ⟨j, ⟨ds, z⟩, _⟩ | ⟨z, _⟩) | z)
      · rw [O] at z; exact .inl z
      · simp at z
      · exact absurd rfl z
      · exact .inr z
  have V2 : vw α (g.add p) H' = vw ⟨[], none⟩ (g'.add p) H' := vw_eq hH2
  have E2 : Ext (vw α g H) (vw α (g.add p) H') := by rw [V2]; exact ext
  refine k p H' ⟨⟨S.len, fun j d e => ?_, fun j ds e => ?_, S.inj, S.dck, fun δ e => ?_, fun a z => ?_, R.tab, fun q hq z => ?_⟩, fun z => nh (.inl z), fun a z => out a (.inl z), E2, ob, h3, by rw [V2]; exact h4⟩
  · obtain ⟨v, q1, q2⟩ := S.val j d e
    exact ⟨v, q1, dp_ext E2 _ _ q2⟩
  · obtain ⟨q1, q2, ys, q3, q4⟩ := S.own j ds e
    exact ⟨q1, fun z => z.elim q2 fun z => nh (.inr (.inl ⟨j, ⟨_, e⟩, z⟩)), ys, (out _ (.inr (.inl ⟨j, ⟨_, e⟩, rfl⟩))).trans q3, od_ext E2 q4⟩
  · obtain ⟨⟨q1, q2⟩, q3, q4, q5⟩ := S.dk δ e
    have hd : ∀ a, (a = g.dk ∨ a = g.dc) → Hid α g a := fun a z => .inr (.inr ⟨by rw [e]; simp, z⟩)
    exact ⟨⟨(out _ (hd _ (.inl rfl))).trans q1, (out _ (hd _ (.inr rfl))).trans q2⟩, fun z => z.elim q3 fun z => nh (hd _ (.inl z.symm)), fun z => z.elim q4 fun z => nh (hd _ (.inr z.symm)), q5⟩
  · rcases z with z | z
    · exact .eq (out a (.inl z)) (S.oin a z)
    · exact R.oin a (.inr z)
  · rcases z with z | z
    · exact S.otab q hq z
    · exact R.otab q hq (.inr z)
theorem ro_c (c : CalO X.prog X.w X.K X.mg X.base tb k x F ps) (hr : RoomG j X.A) (ha : RC X tb (e :: es) ts) (hk : k ≤ j := by decide) (hg : Gl X x := by rfl)
    (hdb : (x == ("__debug__" : Str)) = false := by decide) (he : starEach (e :: es) X.env = (false, eval e X.env) :: starEach es X.env := by rfl) (hpl : (backTo pos (starEach es X.env)).any (·.1) = false := by rfl) :
    RO X tb (.Call (.Name x p) (e :: es) [] pos) (mCallO F ts) := fun α d α' h σ H g Q S kQ => by
  obtain ⟨f, fd, FG, hm, hkp, hb, _⟩ := c.ex
  unfold mCallO at h
  split at h
  · cases h
  rename_i as α1 e1
  split at h
  · cases h
  rename_i hnd
  split at h
  case h_2 => cases h
  rename_i r eF
  cases h
  obtain ⟨hok, hE⟩ := ha _ _ _ e1
  intro pins s I
  refine wpAny_Call_Name_kw (ld_glob I hg hm ?_ hdb)
  refine PySem.W.callWith_K (h₀ := X.base) I.ok.mod.kin hkp ?_ he hpl
  refine thn (hE σ H g (fun vs H1 => spO X.K tb F vs H1 Q fun _ _ _ => False) S (fun vs H1 S1 w1 hl hv hd => call_obj S1 hok hl hv hnd eF fun p H2 b => kQ p H2 (b.trans w1)) pos pins s I) fun us s1 hh => ?_
  obtain ⟨vs, H1, I1, r, q⟩ := hh
  exact ⟨I1.kIn, run_fnG FG (hr.mono hk) hb I1 r q⟩
end
/-! ### an item of a new dict -/
section
variable {K : PySem.W.Frag} {tb : Tabs} {α : Ab} {g : Gh} {σ : L2.St} {H : Hp}
theorem od_look {p : Addr} {o : OD} {ho : HO} {Hv : Hp} {y : V} {d : PyData} {r : Option PyData} (h1 : H p = some ho) (h2 : OdIs K Hv ho o) (hs : ∀ a u, Hv a = some u → H a = some u) (q : Rp K Hv y d) (e : o.look d = some r) :
    ∃ rv, DGet H p y rv ∧ ((rv = none ∧ r = none) ∨ ∃ v z, rv = some v ∧ r = some z ∧ Rp K Hv v z) := by
  cases o with
  | l ds => cases e
  | k es =>
    obtain ⟨kvs, rfl, h3⟩ := h2
    obtain ⟨k, ek, rfl⟩ := Option.map_eq_some_iff.mp e
    rw [rp_key q ek]
    exact ⟨_, DGet.k h1, (show DK K Hv kvs es from h3).val k⟩
  | t es =>
    obtain ⟨kvs, rfl, h3⟩ := h2
    obtain ⟨k, ek, rfl⟩ := Option.map_eq_some_iff.mp e
    obtain ⟨b, rfl, eb⟩ := rp_keyT q ek
    exact ⟨_, DGet.t h1 (hs _ _ eb), (show DK K Hv kvs es from h3).val k⟩
theorem St.dropO {p : Addr} (S : St K tb α (g.add p) σ H) : St K tb α g σ H ∧ Ext (vw α (g.add p) H) (vw α g H) := by
  have E : Ext (vw α (g.add p) H) (vw α g H) := ext_hid fun a z => hid_add.mpr (.inl z)
  refine ⟨⟨S.len, fun j d e => ?_, fun j es e => ?_, S.inj, S.dck, fun δ e => ?_, fun a z => S.oin a (.inl z), S.tab, fun p hp z => S.otab p hp (.inl z)⟩, E⟩
  · obtain ⟨v, q1, q2⟩ := S.val j d e
    exact ⟨v, q1, dp_ext E d v q2⟩
  · obtain ⟨q1, q2, ys, q3, q4⟩ := S.own j es e
    exact ⟨q1, fun z => q2 (.inl z), ys, q3, od_ext E q4⟩
  · obtain ⟨q1, q3, q4, q5⟩ := S.dk δ e
    exact ⟨q1, fun z => q3 (.inl z), fun z => q4 (.inl z), q5⟩
end
def mIxO (to : M OD) (t : M PyData) : M PyData := fun α => match to α with
  | none => none
  | some (o, α1) => match t α1 with
    | none => none
    | some (d, α2) => match o.look d with | some (some z) => some (z, α2) | _ => none
section
variable {X : Cx} {tb : List (Addr × Addr)} {e e1 : Expr} {to : M OD} {t : M PyData} {pos : Pos}
theorem re_ixO (hu : X.A.units + 1 < cLine) (ho : RO X tb e1 to) (h1 : RE X tb e t) (hs : NoSl e := by intro _ _; rfl) : RE X tb (.Subscript e1 e pos) (mIxO to t) := fun α d α' h σ H g Q S k => by
  unfold mIxO at h
  split at h
  · cases h
  rename_i o α1 k1
  split at h
  · cases h
  rename_i d1 α2 k2
  split at h
  case h_2 => cases h
  rename_i z ez
  cases h
  refine U_of (pe_dget hu pe_U pe_U hs) ?_
  refine ho _ _ _ k1 σ H g _ S fun p H1 F => h1 _ _ _ k2 σ H1 (g.add p) _ F.st fun y H2 S2 w2 q2 => ?_
  obtain ⟨hob, e3, e4⟩ := F.isO
  have e3' : H2 p = some hob := (w2.out p (.inr rfl)).trans e3
  obtain ⟨rv, gt, h2⟩ := od_look e3' (od_ext w2.ext e4) (fun a u q => vw_sub q) q2 ez
  rcases h2 with ⟨_, h3⟩ | ⟨v, z', rfl, h3, r⟩
  · cases h3
  · cases h3
    obtain ⟨S3, E3⟩ := S2.dropO
    refine ⟨p, _, rfl, gt, ?_⟩
    exact k v H2 S3 ⟨F.ext.trans (w2.ext.trans E3), fun a ha => (w2.out a (.inl ha)).trans (F.out a ha)⟩ (dp_ext E3 _ _ r)
end
/-! ### range downwards -/
def rgDn (a b : Int) : List PyData := (List.range (a - b).toNat).map fun i => .int (a - (i : Nat))
def dR3 (d1 d2 d3 : PyData) : Option (List PyData) := match d1, d2, d3 with | .int a, .int b, .int c => if c == -1 && (i62 a && i62 b) then some (rgDn a b) else none | _, _, _ => none
def mR3 (t1 t2 t3 : M PyData) : M (List PyData) := mb t1 fun d1 => mb t2 fun d2 => mb t3 fun d3 => mo (dR3 d1 d2 d3)
theorem dR3_some {d1 d2 d3 : PyData} {ds : List PyData} (h : dR3 d1 d2 d3 = some ds) : ∃ a b, d1 = .int a ∧ d2 = .int b ∧ d3 = .int (-1) ∧ i62 a = true ∧ i62 b = true ∧ ds = rgDn a b := by
  unfold dR3 at h
  split at h
  · rename_i a b c
    split at h
    · rename_i cc
      rw [Bool.and_eq_true, Bool.and_eq_true] at cc
      obtain ⟨c0, ca, cb⟩ := cc
      cases h
      exact ⟨a, b, rfl, rfl, by rw [show c = -1 by simpa using c0], ca, cb, rfl⟩
    · cases h
  · cases h
theorem itd_rngDn {K : PySem.W.Frag} {tb : Tabs} {V1 : Hp} {a b : Int} : ItD K tb V1 (Itc a (-1) (a - b).toNat) (rgDn a b) where
  go S E hi := by unfold rgDn at hi; rw [List.length_map, List.length_range] at hi; exact hi
  stop S E hi := by unfold rgDn at hi; rw [List.length_map, List.length_range] at hi; exact hi
  yld S E hi y := by
    obtain ⟨rfl, rfl⟩ := y
    unfold rgDn at hi ⊢
    rw [List.length_map, List.length_range] at hi
    refine ⟨_, by rw [List.getElem?_map, List.getElem?_range hi]; rfl, S, Mv.refl _ _ _, ?_⟩
    rw [Int.mul_neg, Int.mul_one, ← Int.sub_eq_add_neg]
    exact .int _
section
variable {X : Cx} {tb : List (Addr × Addr)} {tg e1 e2 e3 : Expr} {t1 t2 t3 : M PyData} {p pos : Pos}
theorem ri_range3 (hg : Gl X "range") (hm : X.mg "range" = none) (h1 : RE X tb e1 t1) (h2 : RE X tb e2 t2) (h3 : RE X tb e3 t3) (hs : starEach [e1, e2, e3] X.env = (false, eval e1 X.env) :: starEach [e2, e3] X.env := by rfl) (hs2 : starEach [e2, e3] X.env = (false, eval e2 X.env) :: starEach [e3] X.env := by rfl)
    (hs3 : starEach [e3] X.env = (false, eval e3 X.env) :: starEach [] X.env := by rfl) (hpl : (backTo pos (starEach [e2, e3] X.env)).any (·.1) = false := by rfl) :
    RI X tb tg (.Call (.Name "range" p) [e1, e2, e3] [] pos) (mR3 t1 t2 t3) := fun α ds α' h => by
  obtain ⟨d1, α1, k1, h⟩ := mb_some h
  obtain ⟨d2, α2, k2, h⟩ := mb_some h
  obtain ⟨d3, α3, k3, h⟩ := mb_some h
  obtain ⟨hf, rfl⟩ := mo_some h
  obtain ⟨a, b, rfl, rfl, rfl, ca, cb, rfl⟩ := dR3_some hf
  obtain ⟨c1, c2⟩ := i62_ok ca
  obtain ⟨c3, c4⟩ := i62_ok cb
  refine ⟨_, pi_range3 hg hm (pa_cons pe_U (pa_cons pe_U (pa_cons pe_U pa_nil hs3) hs2) hs) hs hpl, fun σ H g R S k => ?_⟩
  refine h1 _ _ _ k1 σ H g _ S fun v H1 S1 w1 q1 => h2 _ _ _ k2 σ H1 g _ S1 fun u H2 S2 w2 q2 => h3 _ _ _ k3 σ H2 g _ S2 fun u3 H3 S3 w3 q3 => ?_
  cases q1
  cases q2
  cases q3
  exact ⟨_, _, _, _, rfl, RgC.neg c1 c2 c3 c4, k _ H3 S3 ((w1.trans w2).trans w3) itd_rngDn⟩
end
end Pd
end
section
set_option Elab.async false
set_option linter.all false
set_option maxRecDepth 100000
set_option maxHeartbeats 2000000
namespace L2
open PySem PySem.Spec PyProof.Rows
open AutoSeq1 (wpAny_loadPart')
/-! ### enumerate(tuple) -/
theorem meets_enumerate_newT (l : Addr) (items : Array Value) (n : Nat) (dct : Option Addr) (sl : Array (Option Value)) :
    Meets (Builtin.«enumerate.__new__» ⟨[.type "enumerate", .ref l], []⟩) (fun _ R s => s.heap.get? l = some { cls := .type "tuple", dict := dct, data := .seq items n, slots := sl } ∧
      R (.ok (.ret (.ref (s.heap.push { cls := .type "tuple_iterator", data := .fields #[.ref l, .int 0 0] }).objs.size)))
        { s with heap := (s.heap.push { cls := .type "tuple_iterator", data := .fields #[.ref l, .int 0 0] }).push { cls := .type "enumerate", data := .fields #[.none, .bool false, .ref s.heap.objs.size, rawInt 0, .none, .none] } }) :=
  .of_wp fun prog w A R s h => by
    obtain ⟨hp, g, d, tk, os⟩ := s; obtain ⟨hl, h⟩ := h
    have hsub := sub_enumerate
    have hL : Heap.IsTuple (Shared.heap ⟨hp, g, d, tk, os⟩) l items := ⟨_, hl, rfl, n, rfl⟩
    wp_walk using wpAny_loadPart' hl
    refine wpAny_stack_any fun st => wpAny_pure ?_
    split
    · rename_i c _ _ _ _ _
      cases (c == Value.type "enumerate")
      · wp_walk using wpAny_loadPart' hl, wpAny_pyIter_tuple hL
        exact ⟨_, rfl, h⟩
      · wp_walk using wpAny_loadPart' hl, wpAny_pyIter_tuple hL
        exact ⟨_, rfl, h⟩
    · wp_walk using wpAny_loadPart' hl, wpAny_pyIter_tuple hL
      exact ⟨_, rfl, h⟩
section
variable {prog : Program} {w : World} {A : Around} {E : Value → Shared → Prop} {s : Shared}
theorem call_enumerate_tuple {l : Addr} {items : Array Value} {Q : Value → Shared → Prop} (hL : s.heap.IsTuple l items)
    (h : ∀ h', IsEnum h' (s.heap.objs.size + 1) s.heap.objs.size 0 .none → h'.IsTupleIter s.heap.objs.size l 0 → h'.objs.size = s.heap.objs.size + 2 →
      (∀ b o, s.heap.get? b = some o → h'.get? b = some o) → Q (.ref (s.heap.objs.size + 1)) { s with heap := h' }) :
    wpAny (model prog w) A (call (.type "enumerate") [.ref l]) Q E s := by
  obtain ⟨⟨c, dct, dt, sl⟩, hl, hc, n, hd⟩ := hL
  replace hc : c = .type "tuple" := hc
  replace hd : dt = .seq items n := hd
  subst hc hd
  refine callType_new F.called_enumerate (by decide) (F.typeCall_enumerate_1 _) (F.newCall_enumerate_1 _) (fun obj => F.args_object_init_2 obj _) F.entry_enumerate_new
    (meets_enumerate_newT l items n dct sl) ⟨hl, ?_⟩
  have hz : (s.heap.push { cls := .type "tuple_iterator", data := .fields #[.ref l, .int 0 0] }).objs.size = s.heap.objs.size + 1 := Heap.size_push ..
  show _ ∧ _
  rw [hz]
  have he : IsEnum ((s.heap.push { cls := .type "tuple_iterator", data := .fields #[.ref l, .int 0 0] }).push
      { cls := .type "enumerate", data := .fields #[.none, .bool false, .ref s.heap.objs.size, rawInt 0, .none, .none] }) (s.heap.objs.size + 1) s.heap.objs.size 0 .none := by
    have := Heap.get?_push_size (s.heap.push { cls := .type "tuple_iterator", data := .fields #[.ref l, .int 0 0] })
      (o := { cls := .type "enumerate", data := .fields #[.none, .bool false, .ref s.heap.objs.size, rawInt 0, .none, .none] }) rfl
    rw [hz] at this; exact this
  refine ⟨⟨_, he, rfl⟩, h _ he ⟨_, Heap.get?_push_of_some _ (Heap.get?_push_size _ rfl), rfl, rfl⟩ (by rw [Heap.size_push, hz]) fun b o x => Heap.get?_push_of_some _ (Heap.get?_push_of_some _ x)⟩
end
/-- the tuple at a, its items in new pairs with their places -/
def IteT (K : PySem.W.Frag) (a : Addr) : It :=
  ⟨fun i H => ∃ (xs : List V) (x : V), SqT K H a xs ∧ xs[i]? = some x, fun i H v H' => ∃ T x, v = .ref T ∧ H T = none ∧ H' = upd H T (.tup [.int (i : Nat), x]) ∧ ∀ xs, SqT K H a xs → xs[i]? = some x, fun i H => ∃ xs : List V, SqT K H a xs ∧ xs.length ≤ i⟩
theorem turn_enumT {P : Program} {w : World} {K : PySem.W.Frag} {elts : List Expr} {kk : Nat} {tpos : Pos} (a e it : Addr) :
    Turn P w K (.Tuple elts kk tpos) (IteT K a) [e, it] e (fun i h => (∃ old, IsEnum h e it ((i : Nat) : Int) old) ∧ h.IsTupleIter it a i ∧ e ≠ it ∧ a ≠ it ∧ a ≠ e) where
  mem := by simp
  obj := fun i h st b hb => by
    obtain ⟨⟨old, he⟩, ⟨o, ho, hc, hd⟩, _⟩ := st
    have e' : b = e ∨ b = it := by simpa using hb
    rcases e' with z | z
    · rw [z]; exact ⟨_, he, fun v q => nomatch q⟩
    · rw [z]; exact ⟨o, ho, fun v q => by rw [hd] at q; cases q⟩
  keep := fun i h h' st k => let ⟨⟨old, he⟩, hi, hne⟩ := st; ⟨⟨old, k e (by simp) _ he⟩, hi.at fun o q => k it (by simp) o q, hne⟩
  item := by
    intro X hP hw hK hc i pins s σ H E I hf st hg
    subst hP hw hK
    obtain ⟨⟨old, he⟩, hit, hne, hai, hae⟩ := st
    obtain ⟨xs, x, hq, hx⟩ := hg
    obtain ⟨its, rv, p, hz⟩ := I.tuple hq
    obtain ⟨u, hu, ru⟩ := rv.get hx
    have hel : e < s.heap.objs.size := Heap.lt_size he
    have hil : it < s.heap.objs.size := by obtain ⟨_, q, _⟩ := hit; exact Heap.lt_size q
    have hil2 : i < its.toArray.size := by
      have := (List.getElem?_eq_some_iff.mp hu).1
      simpa using this
    refine wpAny_pyNext_enum_itemD (Draws.tuple (prog := X.prog) (w := X.w) (A := X.A.in1) (I.ok.hd hc) it a hai its.toArray) he ⟨hit, p⟩ hil2 hne (by simp [hne, Ne.symm hae]) fun u' h' tk hu' ho hit' hT hsz hk => ?_
    obtain ⟨hit', p'⟩ := hit'
    have eu : u' = u := by
      have hu2 : its.toArray[i]? = some u := by simpa using hu
      have hu' : its.toArray[i]? = some u' := hu'
      rw [hu2] at hu'
      exact (Option.some.inj hu').symm
    subst eu
    refine ⟨_, rfl, wpAny_letOwnedTupleGo_enum (s := { s with heap := h', toks := tk + 1 }) ho fun h'' he' sb => ?_⟩
    have hT2 : h''.get? s.heap.objs.size = some { cls := .type "tuple", data := .seq #[.int i tk, u'] } := (sb.2 _ (Nat.ne_of_gt hel)).trans hT
    have new : ObjOk X.prog X.w (upd H s.heap.objs.size (.tup [.int (i : Nat), x])) h'' s.heap.objs.size (.tup [.int (i : Nat), x]) :=
      ⟨by show 2 ≤ sizeLine; decide, [.int i tk, u'], .cons ⟨_, rfl⟩ (.cons ru .nil), ⟨_, hT2, rfl, _, rfl⟩⟩
    have I1 : Inv X pins σ (upd H s.heap.objs.size (.tup [.int (i : Nat), x])) { s with heap := h'', toks := tk + 1 } :=
      I.turnedNew (ch := [e, it]) (fun b ob hb q => (sb.2 b (fun z => hb (by simp [z]))).trans (hk b ob (fun z => hb (by simp [z])) (fun z => hb (by simp [z])) q)) hf (Nat.le_refl _) new
    refine ⟨.ref s.heap.objs.size, _, I1, rfl, ⟨_, x, rfl, I.hok.fresh (Nat.le_refl _), rfl, fun ys hy => by rw [I.tuple_inj hy hq]; exact hx⟩, ⟨⟨u', ?_⟩, hit'.at fun o q => (sb.2 it (Ne.symm hne)).trans q, hne, hai, hae⟩, fun b hb => ?_⟩
    · have e1 : ((i + 1 : Nat) : Int) = (i : Int) + 1 := by omega
      rw [e1]; exact he'
    · have hb' : b < s.heap.objs.size := by
        have e' : b = e ∨ b = it := by simpa using hb
        rcases e' with z | z
        · rw [z]; exact hel
        · rw [z]; exact hil
      rw [upd_ne (Nat.ne_of_lt hb')]
      exact (hf b hb).1
  done := by
    intro X hP hw hK hc i pins s σ H E I hf st hg
    subst hP hw hK
    obtain ⟨⟨old, he⟩, hit, hne, hai, hae⟩ := st
    obtain ⟨xs, hq, hx⟩ := hg
    obtain ⟨its, rv, p, hz⟩ := I.tuple hq
    obtain ⟨f0, f1, f2, f3, f4, f5⟩ := hf it (by simp)
    have hl := rv.length
    have hT : s.TypeIs (.ref e) "enumerate" := ⟨_, he, rfl⟩
    unfold pyNext
    refine wpAny_bind (wpAny_attempt (wpAny_callSpecial?_slot (name := Str.ofString "__next__") hT F.slot_enumerate_next
      (wpAny_call_entry F.slot_enumerate_next hT F.entry_enumerate_next ?_ (F.args_enumerate_next_1 _))))
    show wpAny _ _ (field (.ref e) 2 >>= _) _ _ _
    refine wpAny_bind (wpAny_field he rfl (x := .ref it) rfl ?_)
    refine wpAny_bind (wpAny_nextOf_tuple_end (I.ok.hd hc) hit p (by simp; omega) fun h' x he' hx' => ?_)
    obtain ⟨o, ho, hc'⟩ := hx'
    refine wpAny_bind (wpAny_isInstance (T := "StopIteration") (b := true) ⟨o, ho, hc'⟩ isSubtype_stop ?_)
    exact wpAny_pure ⟨rfl, I.turned (t' := s.toks) (fun b o hb q => he' b o hb q) f0 f1 f3 f4 f5⟩
  self := fun A i s Q E st h => let ⟨⟨_, he⟩, _⟩ := st; wpAny_pyIter_enum he h
def iEnumT (K : PySem.W.Frag) (ta : TA) : TI := fun σ H R => ta σ H fun vs H1 => ∃ a xs, vs = [.ref a] ∧ SqT K H1 a xs ∧ R (IteT K a) H1
theorem pi_enumT {X : Cx} {e : Expr} {ta : TA} {p pos tpos : Pos} {elts : List Expr} {kk : Nat} (hg : Gl X "enumerate") (hm : X.mg "enumerate" = none) (ha : PA X [e] ta) (hs : starEach [e] X.env = [(false, eval e X.env)] := by rfl) :
    PI X (.Tuple elts kk tpos) (.Call (.Name "enumerate" p) [e] [] pos) (iEnumT X.K ta) := by
  refine ⟨fun pins s σ H R I h => ?_⟩
  refine Call_ (ld_blt I hg hm boot_enumerate (PyProof.Rows.callWith_type1 (thn (ha.run pos pins s σ H _ I h) fun us s1 ⟨vs, H1, I1, r1, q1⟩ => ?_) hs rfl))
  obtain ⟨a, xs, ex, hq, q⟩ := q1
  subst ex
  cases r1 with
  | cons r rr =>
    cases rr
    cases r
    obtain ⟨its, rv, p', hz⟩ := I1.tuple hq
    have hal : a < s1.heap.objs.size := by obtain ⟨o, ho, _⟩ := id p'; exact Heap.lt_size ho
    refine call_enumerate_tuple (show s1.heap.IsTuple a its.toArray from p') fun h' he hit hsz hk => wpAny_pyIter_enum he ?_
    have I2 : Inv X pins σ H1 { s1 with heap := h' } := I1.kept (t' := s1.toks) hk
    refine ⟨s1.heap.objs.size + 1, [s1.heap.objs.size + 1, s1.heap.objs.size], _, _, H1, rfl, I2, turn_enumT a (s1.heap.objs.size + 1) s1.heap.objs.size, ⟨⟨.none, he⟩, hit, Nat.succ_ne_self _, Nat.ne_of_lt hal, Nat.ne_of_lt (Nat.lt_succ_of_lt hal)⟩, fun b hb => ?_, q⟩
    have e' : b = s1.heap.objs.size + 1 ∨ b = s1.heap.objs.size := by simpa using hb
    have hle : s1.heap.objs.size ≤ b := by
      rcases e' with z | z
      · rw [z]; exact Nat.le_add_right _ _
      · rw [z]; exact Nat.le_refl _
    exact I1.fpOk hle (I1.hok.fresh hle)
end L2
namespace Pd
open PySem PySem.Spec PyProof.Rows L2
theorem itd_enumT {K : PySem.W.Frag} {tb : Tabs} {V1 : Hp} {a : Addr} {xs : List V} {ds : List PyData} (h : V1 a = some (.tup xs)) (r : RpA K V1 xs ds) : ItD K tb V1 (IteT K a) (enD ds) where
  go S E hi := by
    unfold enD at hi
    rw [List.length_map, List.length_zipIdx] at hi
    obtain ⟨v, e⟩ := dpa_has r hi
    exact ⟨xs, v, .of (vw_sub (E.T h)), e⟩
  stop S E hi := by
    unfold enD at hi
    rw [List.length_map, List.length_zipIdx] at hi
    exact ⟨xs, .of (vw_sub (E.T h)), by rw [dpa_len r]; exact hi⟩
  yld S E hi y := by
    obtain ⟨T, x, rfl, hT, rfl, q1⟩ := y
    obtain ⟨d, e, w⟩ := dpa_get' r (q1 xs (.of (vw_sub (E.T h))))
    obtain ⟨S2, m2, q⟩ := S.tup hT (.cons (.int _) (.cons (dp_ext E _ _ w) .nil))
    refine ⟨_, ?_, S2, m2, q⟩
    unfold enD
    rw [List.getElem?_map, List.getElem?_zipIdx, e]
    simp
def dEnm : PyData → Option (List PyData)
  | .tuple a => some (enD a)
  | .list a => some (enD a)
  | _ => none
def mEnumA (t1 : M PyData) : M (List PyData) := mb t1 fun d1 => mo (dEnm d1)
section
variable {X : Cx} {tb : List (Addr × Addr)} {e1 : Expr} {t1 : M PyData} {p pos tpos : Pos}
theorem ri_enumA {elts : List Expr} {kk : Nat} (hg : Gl X "enumerate") (hm : X.mg "enumerate" = none) (h1 : RE X tb e1 t1) (hs : starEach [e1] X.env = [(false, eval e1 X.env)] := by rfl) :
    RI X tb (.Tuple elts kk tpos) (.Call (.Name "enumerate" p) [e1] [] pos) (mEnumA t1) := fun α ds α' h => by
  obtain ⟨d1, α1, k1, h⟩ := mb_some h
  obtain ⟨hf, rfl⟩ := mo_some h
  cases d1 with
  | tuple a =>
    cases hf
    refine ⟨_, pi_enumT hg hm (pa_cons pe_U pa_nil hs) hs, fun σ H g R S k => ?_⟩
    refine h1 _ _ _ k1 σ H g _ S fun v H1 S1 w1 q1 => ?_
    cases q1 with
    | tup hh r => exact ⟨_, _, rfl, .of (vw_sub hh), k _ H1 S1 w1 (itd_enumT hh r)⟩
  | none => cases hf
  | bool => cases hf
  | str => cases hf
  | int => cases hf
  | list a =>
    cases hf
    refine ⟨_, pi_enum hg hm (pa_cons pe_U pa_nil hs) hs, fun σ H g R S k => ?_⟩
    refine h1 _ _ _ k1 σ H g _ S fun v H1 S1 w1 q1 => ?_
    cases q1 with
    | lst hh r => exact ⟨_, _, rfl, .of (vw_sub hh), k _ H1 S1 w1 (itd_enum hh r)⟩
  | dict => cases hf
end
end Pd
end
section
set_option Elab.async false
set_option linter.all false
set_option maxRecDepth 100000
set_option maxHeartbeats 2000000
namespace Pd
open PySem PySem.Spec PyProof.Rows L2
/-! ### a list taken apart -/
def gTl (a : G2) : G1 := fun d α => match d with | .list ds => a ds α | _ => none
section
variable {X : Cx} {tb : List (Addr × Addr)} {tg : Expr} {tgs : List Expr} {a : G1} {b : G2} {ws us : List Nat} {p : Pos}
theorem rg_lst {kk : Nat} {n : Nat} (hc : X.calm = true) (h : RGs X tb tgs b us) (hb : ∀ ds α α', b ds α = some α' → ds.length = n) (hn : (assignEach tgs X.env).length = n := by rfl) (hst : (assignEach tgs X.env).findIdx? (·.1) = none := by rfl) : RG X tb (.Tuple tgs kk p) (gTl b) us := fun d α α' e σ H g v Q S q k => by
  cases q with
  | lst hh r =>
    refine UG_of (pg_unl hc pgs_U hn hst) ⟨_, _, rfl, .of (vw_some hh).1, (dpa_len r).trans (hb _ _ _ e), ?_⟩
    exact h _ _ _ e σ H g _ Q S r k
  | non => cases e
  | bl => cases e
  | int => cases e
  | str => cases e
  | tup => cases e
theorem rg_lpair {kk : Nat} {y : Expr} {a2 : G1} (hc : X.calm = true) (h1 : RG X tb tg a ws) (h2 : RG X tb y a2 us) (hn : (assignEach [tg, y] X.env).length = 2 := by rfl) (hst : (assignEach [tg, y] X.env).findIdx? (·.1) = none := by rfl)
    (hs : (assignEach [tg, y] X.env).map (·.2) = assign tg X.env :: (assignEach [y] X.env).map (·.2) := by rfl) (hs2 : (assignEach [y] X.env).map (·.2) = assign y X.env :: (assignEach [] X.env).map (·.2) := by rfl) :
    RG X tb (.Tuple [tg, y] kk p) (gTl (gMore a (gMore a2 gNo))) (ws ++ (us ++ [])) := rg_lst hc (rgs_cons h1 (rgs_cons h2 rgs_nil hs2) hs) (gMore_len (gMore_len gNo_len)) hn hst
theorem rg_ltriple {kk : Nat} {y z : Expr} {a2 a3 : G1} {vs : List Nat} (hc : X.calm = true) (h1 : RG X tb tg a ws) (h2 : RG X tb y a2 us) (h3 : RG X tb z a3 vs) (hn : (assignEach [tg, y, z] X.env).length = 3 := by rfl) (hst : (assignEach [tg, y, z] X.env).findIdx? (·.1) = none := by rfl)
    (hs : (assignEach [tg, y, z] X.env).map (·.2) = assign tg X.env :: (assignEach [y, z] X.env).map (·.2) := by rfl) (hs2 : (assignEach [y, z] X.env).map (·.2) = assign y X.env :: (assignEach [z] X.env).map (·.2) := by rfl) (hs3 : (assignEach [z] X.env).map (·.2) = assign z X.env :: (assignEach [] X.env).map (·.2) := by rfl) :
    RG X tb (.Tuple [tg, y, z] kk p) (gTl (gMore a (gMore a2 (gMore a3 gNo)))) (ws ++ (us ++ (vs ++ []))) := rg_lst hc (rgs_cons h1 (rgs_cons h2 (rgs_cons h3 rgs_nil hs3) hs2) hs) (gMore_len (gMore_len (gMore_len gNo_len))) hn hst
end
end Pd
end
section
set_option Elab.async false
set_option linter.all false
set_option maxRecDepth 100000
set_option maxHeartbeats 2000000
namespace Pd
open PySem PySem.Spec PyProof.Rows L2
/-! ### parts of lists and tuples -/
def dCutA (lo hi : Option Int) : PyData → Option PyData
  | .list ds => some (.list (cutD ds lo hi))
  | .tuple ds => some (.tuple (cutD ds lo hi))
  | _ => none
def mCutHiA (t t2 : M PyData) : M PyData := mb t fun d => mb t2 fun d2 => mo (match d2 with | .int h => dCutA none (some h) d | _ => none)
def mCutLoA (t t2 : M PyData) : M PyData := mb t fun d => mb t2 fun d2 => mo (match d2 with | .int l => dCutA (some l) none d | _ => none)
def mCutA (t t2 t3 : M PyData) : M PyData := mb t fun d => mb t2 fun d2 => mb t3 fun d3 => mo (match d2, d3 with | .int l, .int h => dCutA (some l) (some h) d | _, _ => none)
section
variable {X : Cx} {tb : List (Addr × Addr)} {e1 e2 e3 : Expr} {t1 t2 t3 : M PyData} {p p2 : Pos}
theorem cutD_whole {ds : List PyData} {lo hi : Option Int} (h : HT.sIx ds.length 0 lo = 0 ∧ HT.sIx ds.length ds.length hi = ds.length) : cutD ds lo hi = ds := by
  unfold cutD
  rw [h.1, h.2, List.drop_zero, Nat.sub_zero, List.take_length]
theorem cut_go {K : PySem.W.Frag} {α : Ab} {g : Gh} {σ : L2.St} {H : Hp} {v : V} {d r : PyData} {lo hi : Option Int} {Q : VK} (S : St K tb α g σ H) (q : Rp K (vw α g H) v d) (e : dCutA lo hi d = some r)
    (k : ∀ w H', St K tb α g σ H' → Mv α α g H H' → Rp K (vw α g H') w r → Q w H') : rSlL K v lo hi H Q ∨ rSlA K v lo hi H Q := by
  cases q with
  | lst hh rr =>
    cases e
    refine .inl ⟨_, _, rfl, .of (vw_sub hh), fun pc hp => ?_⟩
    obtain ⟨S3, w3, q3⟩ := S.lst hp (cut_len rr lo hi)
    exact k _ _ S3 w3 q3
  | @tup a xs ds hh rr =>
    cases e
    refine .inr ⟨a, xs, rfl, .of (vw_sub hh), fun hw => ?_, fun _ pc hp => ?_⟩
    · have hw' : HT.sIx ds.length 0 lo = 0 ∧ HT.sIx ds.length ds.length hi = ds.length := by rw [dpa_len rr] at hw; exact hw
      rw [cutD_whole hw'] at k
      exact k _ _ S (Mv.refl _ _ _) (.tup hh rr)
    · obtain ⟨S3, w3, q3⟩ := S.tup hp (cut_len rr lo hi)
      exact k _ _ S3 w3 q3
  | non => cases e
  | bl => cases e
  | int => cases e
  | str => cases e
theorem re_cutHiA (h1 : RE X tb e1 t1) (h2 : RE X tb e2 t2) : RE X tb (.Subscript e1 (.Slice none (some e2) none p2) p) (mCutHiA t1 t2) := fun α d α' h σ H g Q S k => by
  obtain ⟨d1, α1, k1, h⟩ := mb_some h
  obtain ⟨d2, α2, k2, h⟩ := mb_some h
  obtain ⟨hf, rfl⟩ := mo_some h
  refine U_of (pe_slice (SlR.or sl_list sl_tupA) pe_U po_none (po_some pe_U)) ?_
  refine h1 _ _ _ k1 σ H g _ S fun v H1 S1 w1 q1 => h2 _ _ _ k2 σ H1 g _ S1 fun u H2 S2 w2 q2 => ?_
  cases q2 with
  | int i => exact ⟨i, rfl, cut_go S2 (dp_ext w2.ext _ _ q1) hf fun w H' S' m r => k w H' S' ((w1.trans w2).trans m) r⟩
  | non => cases hf
  | bl => cases hf
  | str => cases hf
  | lst => cases hf
  | tup => cases hf
theorem re_cutLoA (h1 : RE X tb e1 t1) (h2 : RE X tb e2 t2) : RE X tb (.Subscript e1 (.Slice (some e2) none none p2) p) (mCutLoA t1 t2) := fun α d α' h σ H g Q S k => by
  obtain ⟨d1, α1, k1, h⟩ := mb_some h
  obtain ⟨d2, α2, k2, h⟩ := mb_some h
  obtain ⟨hf, rfl⟩ := mo_some h
  refine U_of (pe_slice (SlR.or sl_list sl_tupA) pe_U (po_some pe_U) po_none) ?_
  refine h1 _ _ _ k1 σ H g _ S fun v H1 S1 w1 q1 => h2 _ _ _ k2 σ H1 g _ S1 fun u H2 S2 w2 q2 => ?_
  cases q2 with
  | int i => exact ⟨i, rfl, cut_go S2 (dp_ext w2.ext _ _ q1) hf fun w H' S' m r => k w H' S' ((w1.trans w2).trans m) r⟩
  | non => cases hf
  | bl => cases hf
  | str => cases hf
  | lst => cases hf
  | tup => cases hf
theorem re_cutA (h1 : RE X tb e1 t1) (h2 : RE X tb e2 t2) (h3 : RE X tb e3 t3) : RE X tb (.Subscript e1 (.Slice (some e2) (some e3) none p2) p) (mCutA t1 t2 t3) := fun α d α' h σ H g Q S k => by
  obtain ⟨d1, α1, k1, h⟩ := mb_some h
  obtain ⟨d2, α2, k2, h⟩ := mb_some h
  obtain ⟨d3, α3, k3, h⟩ := mb_some h
  obtain ⟨hf, rfl⟩ := mo_some h
  refine U_of (pe_slice (SlR.or sl_list sl_tupA) pe_U (po_some pe_U) (po_some pe_U)) ?_
  refine h1 _ _ _ k1 σ H g _ S fun v H1 S1 w1 q1 => h2 _ _ _ k2 σ H1 g _ S1 fun u H2 S2 w2 q2 => ?_
  cases q2 with
  | int i =>
    refine ⟨i, rfl, h3 _ _ _ k3 σ H2 g _ S2 fun u3 H3 S3 w3 q3 => ?_⟩
    cases q3 with
    | int j => exact ⟨j, rfl, cut_go S3 (dp_ext (w2.ext.trans w3.ext) _ _ q1) hf fun w H' S' m r => k w H' S' (((w1.trans w2).trans w3).trans m) r⟩
    | non => cases hf
    | bl => cases hf
    | str => cases hf
    | lst => cases hf
    | tup => cases hf
  | non => cases hf
  | bl => cases hf
  | str => cases hf
  | lst => cases hf
  | tup => cases hf
end
end Pd
end
section
set_option Elab.async false
set_option linter.all false
set_option maxRecDepth 100000
set_option maxHeartbeats 4000000
namespace P14
open PySem PySem.Spec PyProof.Rows L2 Pd
def topS (i : Nat) : Stmt := PySem.Challenge.pw_pourdrains_k14_the_last_deed_that_reache.main.body.getD i (.Pass ⟨0, 0, 0, 0⟩)
section
variable {P : Program} {w : World} {K : PySem.W.Frag} {mg : Str → Option Value} {base : Heap} {tb : List (Addr × Addr)}
abbrev s_mask_of : Stmt := topS 9
abbrev N_mask_of : List Str := ["lot", "mask", "terrace"]
theorem sc_mask_of : FnScope N_mask_of ["lot"] (defScope s_mask_of) := sc_by (by decide +kernel)
def m_mask_of : MS := (sSeq (sAsg (mr (PyData.int 0)) (gSet 1)) (sSeq (sFor (mItems (mVar 0)) (gSet 2) (sSeq (sAug Builtin.bitOr 1 (m2 dShl (mr (PyData.int 1)) (mVar 2))) sNx)) (sSeq (sRet (mVar 1)) sNx)))
def F_mask_of : FF := fAr 1 (fOf 3 m_mask_of)
theorem ok_mask_of (D : DefD K mg "mask_of" s_mask_of ["lot"]) (B : Blt mg)  : CalK P w K mg base tb 1 "mask_of" F_mask_of ["lot"] :=
  calD D sc_mask_of fun f9 c9 A9 o9 s9 H9 E9 hr => (rss_cons (rs_set 1 sc_mask_of.nd re_int) (rss_cons (rs_for PassesOwn.never (by rfl) (ri_seq (re_var 0)) (rg_name 2 sc_mask_of.nd) (rss_cons (rs_aug 1 sc_mask_of.nd iop_or (re_bin opd_shl re_int (re_var 2))) rss_nil)) (rss_cons (rs_ret (re_var 1)) rss_nil)))
abbrev s_lot_of : Stmt := topS 10
abbrev N_lot_of : List Str := ["mask", "at"]
theorem sc_lot_of : FnScope N_lot_of ["mask"] (defScope s_lot_of) := sc_by (by decide +kernel)
def m_lot_of : MS := (sSeq (sRet (mTupG [1] (mR1 (m1 dBits (mVar 0))) (gSet 1) (m1b tr (m2 dAnd (m2 dShr (mVar 0) (mVar 1)) (mr (PyData.int 1)))) (mVar 1))) sNx)
def F_lot_of : FF := fAr 1 (fOf 2 m_lot_of)
theorem ok_lot_of (D : DefT K mg base tb "lot_of" s_lot_of ["mask"]) (B : Blt mg)  : CalK P w K mg base tb 5 "lot_of" F_lot_of ["mask"] :=
  calT D sc_lot_of fun f9 c9 P9 A9 o9 s9 H9 E9 hP TB hr => (rss_cons (rs_ret (re_tupG (own := [("at", 1)]) hr (by rfl) sc_lot_of.nd (by rfl) (B.no "tuple" (by decide)) TB (by rfl) hP (gen_by (by kernel_rfl)) (by decide) (ri_range1 (by rfl) (B.no "range" (by decide)) (re_bits (re_var 0))) ⟨fun A9 s9 H9 C9 cl9 cd9 fp9 r9 => (rg_name 1 sc_lot_of.nd), fun A9 s9 H9 C9 cl9 cd9 fp9 r9 => (rts_one (rt_val (re_bin opd_and (re_bin opd_shr (re_var 0) (re_var 1)) re_int))), fun A9 s9 H9 C9 cl9 cd9 fp9 r9 => (re_var 1)⟩)) rss_nil)
abbrev s_above_masks : Stmt := topS 11
abbrev N_above_masks : List Str := ["book", "many", "pairs", "masks", "at", "a", "b"]
theorem sc_above_masks : FnScope N_above_masks ["book"] (defScope s_above_masks) := sc_by (by decide +kernel)
def m_above_masks : MS := (sSeq (sAsg (mVar 0) (gTp (gMore (gSet 1) (gMore (gSet 2) gNo)))) (sSeq (sOwn 3 (mLc [4] (mR1 (mVar 1)) (gSet 4) (mr true) (m2 dShl (mr (PyData.int 1)) (mVar 4)))) (sSeq (sFor (mItems (mVar 2)) (gTp (gMore (gSet 5) (gMore (gSet 6) gNo))) (sSeq (sAugIx Builtin.bitOr 3 (mVar 5) (m2 dShl (mr (PyData.int 1)) (mVar 6))) sNx)) (sSeq (sRet (mVar 3)) sNx))))
def F_above_masks : FF := fAr 1 (fOf 7 m_above_masks)
theorem ok_above_masks (D : DefD K mg "above_masks" s_above_masks ["book"]) (B : Blt mg)  : CalK P w K mg base tb 1 "above_masks" F_above_masks ["book"] :=
  calD D sc_above_masks fun f9 c9 A9 o9 s9 H9 E9 hr => (rss_cons (rs_asg (re_var 0) (rg_pair (by rfl) (rg_name 1 sc_above_masks.nd) (rg_name 2 sc_above_masks.nd))) (rss_cons (rs_ownLc (own := [("at", 4)]) 3 (by rfl) sc_above_masks.nd (ri_range1 (by rfl) (B.no "range" (by decide)) (re_var 1)) (blk_by (by kernel_rfl)) (by decide) (fun s9 H9 C9 cl9 fp9 => (rg_name 4 sc_above_masks.nd)) (fun s9 H9 C9 cl9 fp9 => rts_nil) (fun s9 H9 C9 cl9 fp9 => (re_bin opd_shl re_int (re_var 4)))) (rss_cons (rs_for PassesOwn.never (by rfl) (ri_seq (re_var 2)) (rg_pair (by rfl) (rg_name 5 sc_above_masks.nd) (rg_name 6 sc_above_masks.nd)) (rss_cons (rs_augIx 3 iop_or (re_var 5) (re_bin opd_shl re_int (re_var 6))) rss_nil)) (rss_cons (rs_ret (re_var 3)) rss_nil))))
abbrev s_below_masks : Stmt := topS 12
abbrev N_below_masks : List Str := ["book", "many", "pairs", "masks", "at", "a", "b"]
theorem sc_below_masks : FnScope N_below_masks ["book"] (defScope s_below_masks) := sc_by (by decide +kernel)
def m_below_masks : MS := (sSeq (sAsg (mVar 0) (gTp (gMore (gSet 1) (gMore (gSet 2) gNo)))) (sSeq (sOwn 3 (mLc [4] (mR1 (mVar 1)) (gSet 4) (mr true) (m2 dShl (mr (PyData.int 1)) (mVar 4)))) (sSeq (sFor (mItems (mVar 2)) (gTp (gMore (gSet 5) (gMore (gSet 6) gNo))) (sSeq (sAugIx Builtin.bitOr 3 (mVar 6) (m2 dShl (mr (PyData.int 1)) (mVar 5))) sNx)) (sSeq (sRet (mVar 3)) sNx))))
def F_below_masks : FF := fAr 1 (fOf 7 m_below_masks)
theorem ok_below_masks (D : DefD K mg "below_masks" s_below_masks ["book"]) (B : Blt mg)  : CalK P w K mg base tb 1 "below_masks" F_below_masks ["book"] :=
  calD D sc_below_masks fun f9 c9 A9 o9 s9 H9 E9 hr => (rss_cons (rs_asg (re_var 0) (rg_pair (by rfl) (rg_name 1 sc_below_masks.nd) (rg_name 2 sc_below_masks.nd))) (rss_cons (rs_ownLc (own := [("at", 4)]) 3 (by rfl) sc_below_masks.nd (ri_range1 (by rfl) (B.no "range" (by decide)) (re_var 1)) (blk_by (by kernel_rfl)) (by decide) (fun s9 H9 C9 cl9 fp9 => (rg_name 4 sc_below_masks.nd)) (fun s9 H9 C9 cl9 fp9 => rts_nil) (fun s9 H9 C9 cl9 fp9 => (re_bin opd_shl re_int (re_var 4)))) (rss_cons (rs_for PassesOwn.never (by rfl) (ri_seq (re_var 2)) (rg_pair (by rfl) (rg_name 5 sc_below_masks.nd) (rg_name 6 sc_below_masks.nd)) (rss_cons (rs_augIx 3 iop_or (re_var 6) (re_bin opd_shl re_int (re_var 5))) rss_nil)) (rss_cons (rs_ret (re_var 3)) rss_nil))))
abbrev s_union_of : Stmt := topS 13
abbrev N_union_of : List Str := ["masks", "mask", "union", "terrace"]
theorem sc_union_of : FnScope N_union_of ["masks", "mask"] (defScope s_union_of) := sc_by (by decide +kernel)
def m_union_of : MS := (sSeq (sAsg (mr (PyData.int 0)) (gSet 2)) (sSeq (sFor (mItems (mCallFn F_lot_of (cD (mVar 1) cNil))) (gSet 3) (sSeq (sAug Builtin.bitOr 2 (mIxP 0 (mVar 3))) sNx)) (sSeq (sRet (mVar 2)) sNx)))
def F_union_of : FF := fAr 2 (fOf 4 m_union_of)
theorem ok_union_of (D : DefD K mg "union_of" s_union_of ["masks", "mask"]) (B : Blt mg) (c_lot_of : CalK P w K mg base tb 5 "lot_of" F_lot_of ["mask"]) : CalK P w K mg base tb 6 "union_of" F_union_of ["masks", "mask"] :=
  calD D sc_union_of fun f9 c9 A9 o9 s9 H9 E9 hr => (rss_cons (rs_set 2 sc_union_of.nd re_int) (rss_cons (rs_for PassesOwn.never (by rfl) (ri_seq (re_c c_lot_of.c hr (rc_d (re_var 1) rc_nil))) (rg_name 3 sc_union_of.nd) (rss_cons (rs_aug 2 sc_union_of.nd iop_or (re_ixP 0 (re_var 3))) rss_nil)) (rss_cons (rs_ret (re_var 2)) rss_nil)))
abbrev s_is_shut : Stmt := topS 14
abbrev N_is_shut : List Str := ["masks", "mask"]
theorem sc_is_shut : FnScope N_is_shut ["masks", "mask"] (defScope s_is_shut) := sc_by (by decide +kernel)
def m_is_shut : MS := (sSeq (sRet (mB (m2b dEq (mCallFn F_union_of (cD (mVar 0) (cD (mVar 1) cNil))) (mVar 1)))) sNx)
def F_is_shut : FF := fAr 2 (fOf 2 m_is_shut)
theorem ok_is_shut (D : DefD K mg "is_shut" s_is_shut ["masks", "mask"]) (B : Blt mg) (c_union_of : CalK P w K mg base tb 6 "union_of" F_union_of ["masks", "mask"]) : CalK P w K mg base tb 7 "is_shut" F_is_shut ["masks", "mask"] :=
  calD D sc_is_shut fun f9 c9 A9 o9 s9 H9 E9 hr => (rss_cons (rs_ret (re_cmp (opb_eq (room65 hr)) (re_c c_union_of.c hr (rc_d (re_var 0) (rc_d (re_var 1) rc_nil))) (re_var 1))) rss_nil)
abbrev s_is_integer : Stmt := topS 16
abbrev N_is_integer : List Str := ["thing"]
theorem sc_is_integer : FnScope N_is_integer ["thing"] (defScope s_is_integer) := sc_by (by decide +kernel)
def m_is_integer : MS := (sSeq (sRet (mAndV (m1 (fun d => (isOf "int" d).map PyData.bool) (mVar 0)) (mNotV (m1 (fun d => (isOf "bool" d).map PyData.bool) (mVar 0))))) sNx)
def F_is_integer : FF := fAr 1 (fOf 1 m_is_integer)
theorem ok_is_integer (D : DefD K mg "is_integer" s_is_integer ["thing"]) (B : Blt mg)  (KD : KitD K) : CalK P w K mg base tb 1 "is_integer" F_is_integer ["thing"] :=
  calD D sc_is_integer fun f9 c9 A9 o9 s9 H9 E9 hr => (rss_cons (rs_ret (re_and (re_isD KD (B.no "isinstance" (by decide)) (B.no "int" (by decide)) bt_int (re_var 0)) (re_one (re_not (re_isD KD (B.no "isinstance" (by decide)) (B.no "bool" (by decide)) bt_bool (re_var 0)))))) rss_nil)
abbrev s_is_within : Stmt := topS 17
abbrev N_is_within : List Str := ["thing", "least", "most"]
theorem sc_is_within : FnScope N_is_within ["thing", "least", "most"] (defScope s_is_within) := sc_by (by decide +kernel)
def m_is_within : MS := (sSeq (sRet (mAndV (mCallFn F_is_integer (cD (mVar 0) cNil)) (mB (mChain dLe dLe (mVar 1) (mVar 0) (mVar 2))))) sNx)
def F_is_within : FF := fAr 3 (fOf 3 m_is_within)
theorem ok_is_within (D : DefD K mg "is_within" s_is_within ["thing", "least", "most"]) (B : Blt mg) (c_is_integer : CalK P w K mg base tb 1 "is_integer" F_is_integer ["thing"]) : CalK P w K mg base tb 2 "is_within" F_is_within ["thing", "least", "most"] :=
  calD D sc_is_within fun f9 c9 A9 o9 s9 H9 E9 hr => (rss_cons (rs_ret (re_and (re_c c_is_integer.c hr (rc_d (re_var 0) rc_nil)) (re_one (re_chain opb_le opb_le (re_var 1) (re_var 0) (re_var 2))))) rss_nil)
abbrev s_has_items : Stmt := topS 18
abbrev N_has_items : List Str := ["thing", "many"]
theorem sc_has_items : FnScope N_has_items ["thing", "many"] (defScope s_has_items) := sc_by (by decide +kernel)
def m_has_items : MS := (sSeq (sRet (mAndV (m1 (fun d => (isOf "tuple" d).map PyData.bool) (mVar 0)) (mB (m2b dEq (mLenP 0) (mVar 1))))) sNx)
def F_has_items : FF := fAr 2 (fOf 2 m_has_items)
theorem ok_has_items (D : DefD K mg "has_items" s_has_items ["thing", "many"]) (B : Blt mg)  (KD : KitD K) : CalK P w K mg base tb 1 "has_items" F_has_items ["thing", "many"] :=
  calD D sc_has_items fun f9 c9 A9 o9 s9 H9 E9 hr => (rss_cons (rs_ret (re_and (re_isD KD (B.no "isinstance" (by decide)) (B.no "tuple" (by decide)) bt_tuple (re_var 0)) (re_one (re_cmp (opb_eq (room65 hr)) (re_lenP 0 (by rfl) (B.no "len" (by decide))) (re_var 1))))) rss_nil)
abbrev s_is_ascending : Stmt := topS 19
abbrev N_is_ascending : List Str := ["items", "at"]
theorem sc_is_ascending : FnScope N_is_ascending ["items"] (defScope s_is_ascending) := sc_by (by decide +kernel)
def m_is_ascending : MS := (sSeq (sRet (mAll [1] (mR1 (m2 dSub (mLenP 0) (mr (PyData.int 1)))) (gSet 1) (mr true) (mB (m2b dLt (mIxP 0 (mVar 1)) (mIxP 0 (m2 dAdd (mVar 1) (mr (PyData.int 1)))))))) sNx)
def F_is_ascending : FF := fAr 1 (fOf 2 m_is_ascending)
theorem ok_is_ascending (D : DefT K mg base tb "is_ascending" s_is_ascending ["items"]) (B : Blt mg)  : CalK P w K mg base tb 4 "is_ascending" F_is_ascending ["items"] :=
  calT D sc_is_ascending fun f9 c9 P9 A9 o9 s9 H9 E9 hP TB hr => (rss_cons (rs_ret (re_all (own := [("at", 1)]) hr (by rfl) sc_is_ascending.nd (by rfl) (B.no "all" (by decide)) TB (by rfl) hP (gen_by (by kernel_rfl)) (by decide) (ri_range1 (by rfl) (B.no "range" (by decide)) (re_bin opd_sub (re_lenP 0 (by rfl) (B.no "len" (by decide))) re_int)) ⟨fun A9 s9 H9 C9 cl9 cd9 fp9 r9 => (rg_name 1 sc_is_ascending.nd), fun A9 s9 H9 C9 cl9 cd9 fp9 r9 => rts_nil, fun A9 s9 H9 C9 cl9 cd9 fp9 r9 => (re_cmp (opb_lt (room0 r9)) (re_ixP 0 (re_var 1)) (re_ixP 0 (re_bin opd_add (re_var 1) re_int)))⟩)) rss_nil)
abbrev s_is_pair_of : Stmt := topS 20
abbrev N_is_pair_of : List Str := ["many", "thing", "a", "b"]
theorem sc_is_pair_of : FnScope N_is_pair_of ["many", "thing"] (defScope s_is_pair_of) := sc_by (by decide +kernel)
def m_is_pair_of : MS := (sSeq (sIf (mNot (m1b tr (mCallFn F_has_items (cD (mVar 1) (cD (mr (PyData.int 2)) cNil))))) (sSeq (sRet (mr (PyData.bool false))) sNx) sNx) (sSeq (sAsg (mVar 1) (gTp (gMore (gSet 2) (gMore (gSet 3) gNo)))) (sSeq (sRet (mAndV (mCallFn F_is_within (cD (mVar 2) (cD (mr (PyData.int 0)) (cD (m2 dSub (mVar 0) (mr (PyData.int 1))) cNil)))) (mAndV (mCallFn F_is_within (cD (mVar 3) (cD (mr (PyData.int 0)) (cD (m2 dSub (mVar 0) (mr (PyData.int 1))) cNil)))) (mB (m2bP dNe 2 (mVar 3)))))) sNx)))
def F_is_pair_of : FF := fAr 2 (fOf 4 m_is_pair_of)
theorem ok_is_pair_of (D : DefD K mg "is_pair_of" s_is_pair_of ["many", "thing"]) (B : Blt mg) (c_is_within : CalK P w K mg base tb 2 "is_within" F_is_within ["thing", "least", "most"]) (c_has_items : CalK P w K mg base tb 1 "has_items" F_has_items ["thing", "many"]) : CalK P w K mg base tb 3 "is_pair_of" F_is_pair_of ["many", "thing"] :=
  calD D sc_is_pair_of fun f9 c9 A9 o9 s9 H9 E9 hr => (rss_cons (rs_if (rt_not (rt_val (re_c c_has_items.c hr (rc_d (re_var 1) (rc_d re_int rc_nil))))) (rss_cons (rs_ret re_bool) rss_nil) rss_nil) (rss_cons (rs_asg (re_var 1) (rg_pair (by rfl) (rg_name 2 sc_is_pair_of.nd) (rg_name 3 sc_is_pair_of.nd))) (rss_cons (rs_ret (re_and (re_c c_is_within.c hr (rc_d (re_var 2) (rc_d re_int (rc_d (re_bin opd_sub (re_var 0) re_int) rc_nil)))) (re_and (re_c c_is_within.c hr (rc_d (re_var 3) (rc_d re_int (rc_d (re_bin opd_sub (re_var 0) re_int) rc_nil)))) (re_one (re_cmpP (opb_ne (room65 hr)) 2 (re_var 3)))))) rss_nil)))
abbrev s_are_pairs_of : Stmt := topS 21
abbrev N_are_pairs_of : List Str := ["many", "thing", "pair"]
theorem sc_are_pairs_of : FnScope N_are_pairs_of ["many", "thing"] (defScope s_are_pairs_of) := sc_by (by decide +kernel)
def m_are_pairs_of : MS := (sSeq (sRet (mAndV (m1 (fun d => (isOf "tuple" d).map PyData.bool) (mVar 1)) (mAndV (mAll [2] (mItems (mVar 1)) (gSet 2) (mr true) (mCallFn F_is_pair_of (cD (mVar 0) (cD (mVar 2) cNil)))) (mCallFn F_is_ascending (cD (mVar 1) cNil))))) sNx)
def F_are_pairs_of : FF := fAr 2 (fOf 3 m_are_pairs_of)
theorem ok_are_pairs_of (D : DefT K mg base tb "are_pairs_of" s_are_pairs_of ["many", "thing"]) (B : Blt mg) (c_is_pair_of : CalK P w K mg base tb 3 "is_pair_of" F_is_pair_of ["many", "thing"]) (c_is_ascending : CalK P w K mg base tb 4 "is_ascending" F_is_ascending ["items"]) (KD : KitD K) : CalK P w K mg base tb 7 "are_pairs_of" F_are_pairs_of ["many", "thing"] :=
  calT D sc_are_pairs_of fun f9 c9 P9 A9 o9 s9 H9 E9 hP TB hr => (rss_cons (rs_ret (re_and (re_isD KD (B.no "isinstance" (by decide)) (B.no "tuple" (by decide)) bt_tuple (re_var 1)) (re_and (re_all (own := [("pair", 2)]) hr (by rfl) sc_are_pairs_of.nd (by rfl) (B.no "all" (by decide)) TB (by rfl) hP (gen_by (by kernel_rfl)) (by decide) (ri_seq (re_var 1)) ⟨fun A9 s9 H9 C9 cl9 cd9 fp9 r9 => (rg_name 2 sc_are_pairs_of.nd), fun A9 s9 H9 C9 cl9 cd9 fp9 r9 => rts_nil, fun A9 s9 H9 C9 cl9 cd9 fp9 r9 => (re_c c_is_pair_of.c r9 (rc_d (re_var 0) (rc_d (re_var 2) rc_nil)))⟩) (re_one (re_c c_is_ascending.c hr (rc_d (re_var 1) rc_nil)))))) rss_nil)
abbrev s_is_terrace_of : Stmt := topS 23
abbrev N_is_terrace_of : List Str := ["many", "thing"]
theorem sc_is_terrace_of : FnScope N_is_terrace_of ["many", "thing"] (defScope s_is_terrace_of) := sc_by (by decide +kernel)
def m_is_terrace_of : MS := (sSeq (sRet (mCallFn F_is_within (cD (mVar 1) (cD (mr (PyData.int 0)) (cD (m2 dSub (mVar 0) (mr (PyData.int 1))) cNil))))) sNx)
def F_is_terrace_of : FF := fAr 2 (fOf 2 m_is_terrace_of)
theorem ok_is_terrace_of (D : DefD K mg "is_terrace_of" s_is_terrace_of ["many", "thing"]) (B : Blt mg) (c_is_within : CalK P w K mg base tb 2 "is_within" F_is_within ["thing", "least", "most"]) : CalK P w K mg base tb 3 "is_terrace_of" F_is_terrace_of ["many", "thing"] :=
  calD D sc_is_terrace_of fun f9 c9 A9 o9 s9 H9 E9 hr => (rss_cons (rs_ret (re_c c_is_within.c hr (rc_d (re_var 1) (rc_d re_int (rc_d (re_bin opd_sub (re_var 0) re_int) rc_nil))))) rss_nil)
abbrev s_is_lot_of : Stmt := topS 24
abbrev N_is_lot_of : List Str := ["many", "thing", "terrace"]
theorem sc_is_lot_of : FnScope N_is_lot_of ["many", "thing"] (defScope s_is_lot_of) := sc_by (by decide +kernel)
def m_is_lot_of : MS := (sSeq (sIf (mNot (m1b tr (m1 (fun d => (isOf "tuple" d).map PyData.bool) (mVar 1)))) (sSeq (sRet (mr (PyData.bool false))) sNx) sNx) (sSeq (sRet (mAndV (mAll [2] (mItems (mVar 1)) (gSet 2) (mr true) (mCallFn F_is_terrace_of (cD (mVar 0) (cD (mVar 2) cNil)))) (mCallFn F_is_ascending (cD (mVar 1) cNil)))) sNx))
def F_is_lot_of : FF := fAr 2 (fOf 3 m_is_lot_of)
theorem ok_is_lot_of (D : DefT K mg base tb "is_lot_of" s_is_lot_of ["many", "thing"]) (B : Blt mg) (c_is_terrace_of : CalK P w K mg base tb 3 "is_terrace_of" F_is_terrace_of ["many", "thing"]) (c_is_ascending : CalK P w K mg base tb 4 "is_ascending" F_is_ascending ["items"]) (KD : KitD K) : CalK P w K mg base tb 7 "is_lot_of" F_is_lot_of ["many", "thing"] :=
  calT D sc_is_lot_of fun f9 c9 P9 A9 o9 s9 H9 E9 hP TB hr => (rss_cons (rs_if (rt_not (rt_val (re_isD KD (B.no "isinstance" (by decide)) (B.no "tuple" (by decide)) bt_tuple (re_var 1)))) (rss_cons (rs_ret re_bool) rss_nil) rss_nil) (rss_cons (rs_ret (re_and (re_all (own := [("terrace", 2)]) hr (by rfl) sc_is_lot_of.nd (by rfl) (B.no "all" (by decide)) TB (by rfl) hP (gen_by (by kernel_rfl)) (by decide) (ri_seq (re_var 1)) ⟨fun A9 s9 H9 C9 cl9 cd9 fp9 r9 => (rg_name 2 sc_is_lot_of.nd), fun A9 s9 H9 C9 cl9 cd9 fp9 r9 => rts_nil, fun A9 s9 H9 C9 cl9 cd9 fp9 r9 => (re_c c_is_terrace_of.c r9 (rc_d (re_var 0) (rc_d (re_var 2) rc_nil)))⟩) (re_one (re_c c_is_ascending.c hr (rc_d (re_var 1) rc_nil))))) rss_nil))
abbrev s_is_lower_of : Stmt := topS 25
abbrev N_is_lower_of : List Str := ["hill", "thing"]
theorem sc_is_lower_of : FnScope N_is_lower_of ["hill", "thing"] (defScope s_is_lower_of) := sc_by (by decide +kernel)
def m_is_lower_of : MS := (sSeq (sRet (mAndV (mCallFn F_is_lot_of (cD (mIxP 0 (mr (PyData.int 0))) (cD (mVar 1) cNil))) (mCallFn F_is_shut (cD (mCallFn F_below_masks (cD (mVar 0) cNil)) (cD (mCallFn F_mask_of (cD (mVar 1) cNil)) cNil))))) sNx)
def F_is_lower_of : FF := fAr 2 (fOf 2 m_is_lower_of)
theorem ok_is_lower_of (D : DefD K mg "is_lower_of" s_is_lower_of ["hill", "thing"]) (B : Blt mg) (c_is_lot_of : CalK P w K mg base tb 7 "is_lot_of" F_is_lot_of ["many", "thing"]) (c_is_shut : CalK P w K mg base tb 7 "is_shut" F_is_shut ["masks", "mask"]) (c_mask_of : CalK P w K mg base tb 1 "mask_of" F_mask_of ["lot"]) (c_below_masks : CalK P w K mg base tb 1 "below_masks" F_below_masks ["book"]) : CalK P w K mg base tb 8 "is_lower_of" F_is_lower_of ["hill", "thing"] :=
  calD D sc_is_lower_of fun f9 c9 A9 o9 s9 H9 E9 hr => (rss_cons (rs_ret (re_and (re_c c_is_lot_of.c hr (rc_d (re_ixP 0 re_int) (rc_d (re_var 1) rc_nil))) (re_one (re_c c_is_shut.c hr (rc_d (re_c c_below_masks.c hr (rc_d (re_var 0) rc_nil)) (rc_d (re_c c_mask_of.c hr (rc_d (re_var 1) rc_nil)) rc_nil)))))) rss_nil)
abbrev s_is_deed_of : Stmt := topS 26
abbrev N_is_deed_of : List Str := ["many", "thing"]
theorem sc_is_deed_of : FnScope N_is_deed_of ["many", "thing"] (defScope s_is_deed_of) := sc_by (by decide +kernel)
def m_is_deed_of : MS := (sSeq (sRet (mAndV (mCallFn F_has_items (cD (mVar 1) (cD (mr (PyData.int 2)) cNil))) (mAndV (mB (m2b dIn (mIxP 1 (mr (PyData.int 0))) (mTup (mCons (mr (PyData.str "pour")) (mCons (mr (PyData.str "open")) mNil))))) (mCallFn F_is_terrace_of (cD (mVar 0) (cD (mIxP 1 (mr (PyData.int 1))) cNil)))))) sNx)
def F_is_deed_of : FF := fAr 2 (fOf 2 m_is_deed_of)
theorem ok_is_deed_of (D : DefD K mg "is_deed_of" s_is_deed_of ["many", "thing"]) (B : Blt mg) (c_has_items : CalK P w K mg base tb 1 "has_items" F_has_items ["thing", "many"]) (c_is_terrace_of : CalK P w K mg base tb 3 "is_terrace_of" F_is_terrace_of ["many", "thing"]) : CalK P w K mg base tb 4 "is_deed_of" F_is_deed_of ["many", "thing"] :=
  calD D sc_is_deed_of fun f9 c9 A9 o9 s9 H9 E9 hr => (rss_cons (rs_ret (re_and (re_c c_has_items.c hr (rc_d (re_var 1) (rc_d re_int rc_nil))) (re_and (re_cmp (opb_in (room65 hr)) (re_ixP 1 re_int) (re_tup (ra_cons re_str (ra_cons re_str ra_nil)))) (re_one (re_c c_is_terrace_of.c hr (rc_d (re_var 0) (rc_d (re_ixP 1 re_int) rc_nil))))))) rss_nil)
abbrev s_is_script_of : Stmt := topS 27
abbrev N_is_script_of : List Str := ["many", "thing", "deed"]
theorem sc_is_script_of : FnScope N_is_script_of ["many", "thing"] (defScope s_is_script_of) := sc_by (by decide +kernel)
def m_is_script_of : MS := (sSeq (sRet (mAndV (m1 (fun d => (isOf "tuple" d).map PyData.bool) (mVar 1)) (mAll [2] (mItems (mVar 1)) (gSet 2) (mr true) (mCallFn F_is_deed_of (cD (mVar 0) (cD (mVar 2) cNil)))))) sNx)
def F_is_script_of : FF := fAr 2 (fOf 3 m_is_script_of)
theorem ok_is_script_of (D : DefT K mg base tb "is_script_of" s_is_script_of ["many", "thing"]) (B : Blt mg) (c_is_deed_of : CalK P w K mg base tb 4 "is_deed_of" F_is_deed_of ["many", "thing"]) (KD : KitD K) : CalK P w K mg base tb 8 "is_script_of" F_is_script_of ["many", "thing"] :=
  calT D sc_is_script_of fun f9 c9 P9 A9 o9 s9 H9 E9 hP TB hr => (rss_cons (rs_ret (re_and (re_isD KD (B.no "isinstance" (by decide)) (B.no "tuple" (by decide)) bt_tuple (re_var 1)) (re_one (re_all (own := [("deed", 2)]) hr (by rfl) sc_is_script_of.nd (by rfl) (B.no "all" (by decide)) TB (by rfl) hP (gen_by (by kernel_rfl)) (by decide) (ri_seq (re_var 1)) ⟨fun A9 s9 H9 C9 cl9 cd9 fp9 r9 => (rg_name 2 sc_is_script_of.nd), fun A9 s9 H9 C9 cl9 cd9 fp9 r9 => rts_nil, fun A9 s9 H9 C9 cl9 cd9 fp9 r9 => (re_c c_is_deed_of.c r9 (rc_d (re_var 0) (rc_d (re_var 2) rc_nil)))⟩)))) rss_nil)
abbrev s_need_terrace : Stmt := topS 28
abbrev N_need_terrace : List Str := ["many", "terrace"]
theorem sc_need_terrace : FnScope N_need_terrace ["many", "terrace"] (defScope s_need_terrace) := sc_by (by decide +kernel)
def m_need_terrace : MS := (sSeq (sIf (mNot (m1b tr (mCallFn F_is_terrace_of (cD (mVar 0) (cD (mVar 1) cNil))))) (sSeq sNo sNx) sNx) sNx)
def F_need_terrace : FF := fAr 2 (fOf 2 m_need_terrace)
theorem ok_need_terrace (D : DefD K mg "need_terrace" s_need_terrace ["many", "terrace"]) (B : Blt mg) (c_is_terrace_of : CalK P w K mg base tb 3 "is_terrace_of" F_is_terrace_of ["many", "thing"]) : CalK P w K mg base tb 4 "need_terrace" F_need_terrace ["many", "terrace"] :=
  calD D sc_need_terrace fun f9 c9 A9 o9 s9 H9 E9 hr => (rss_cons (rs_if (rt_not (rt_val (re_c c_is_terrace_of.c hr (rc_d (re_var 0) (rc_d (re_var 1) rc_nil))))) (rss_cons rs_never rss_nil) rss_nil) rss_nil)
abbrev s_need_water : Stmt := topS 29
abbrev N_need_water : List Str := ["hill", "water"]
theorem sc_need_water : FnScope N_need_water ["hill", "water"] (defScope s_need_water) := sc_by (by decide +kernel)
def m_need_water : MS := (sSeq (sIf (mNot (m1b tr (mCallFn F_is_lower_of (cD (mVar 0) (cD (mVar 1) cNil))))) (sSeq sNo sNx) sNx) sNx)
def F_need_water : FF := fAr 2 (fOf 2 m_need_water)
theorem ok_need_water (D : DefD K mg "need_water" s_need_water ["hill", "water"]) (B : Blt mg) (c_is_lower_of : CalK P w K mg base tb 8 "is_lower_of" F_is_lower_of ["hill", "thing"]) : CalK P w K mg base tb 9 "need_water" F_need_water ["hill", "water"] :=
  calD D sc_need_water fun f9 c9 A9 o9 s9 H9 E9 hr => (rss_cons (rs_if (rt_not (rt_val (re_c c_is_lower_of.c hr (rc_d (re_var 0) (rc_d (re_var 1) rc_nil))))) (rss_cons rs_never rss_nil) rss_nil) rss_nil)
abbrev s_need_deed : Stmt := topS 30
abbrev N_need_deed : List Str := ["many", "deed"]
theorem sc_need_deed : FnScope N_need_deed ["many", "deed"] (defScope s_need_deed) := sc_by (by decide +kernel)
def m_need_deed : MS := (sSeq (sIf (mNot (m1b tr (mCallFn F_is_deed_of (cD (mVar 0) (cD (mVar 1) cNil))))) (sSeq sNo sNx) sNx) sNx)
def F_need_deed : FF := fAr 2 (fOf 2 m_need_deed)
theorem ok_need_deed (D : DefD K mg "need_deed" s_need_deed ["many", "deed"]) (B : Blt mg) (c_is_deed_of : CalK P w K mg base tb 4 "is_deed_of" F_is_deed_of ["many", "thing"]) : CalK P w K mg base tb 5 "need_deed" F_need_deed ["many", "deed"] :=
  calD D sc_need_deed fun f9 c9 A9 o9 s9 H9 E9 hr => (rss_cons (rs_if (rt_not (rt_val (re_c c_is_deed_of.c hr (rc_d (re_var 0) (rc_d (re_var 1) rc_nil))))) (rss_cons rs_never rss_nil) rss_nil) rss_nil)
abbrev s_need_script : Stmt := topS 31
abbrev N_need_script : List Str := ["many", "script"]
theorem sc_need_script : FnScope N_need_script ["many", "script"] (defScope s_need_script) := sc_by (by decide +kernel)
def m_need_script : MS := (sSeq (sIf (mNot (m1b tr (mCallFn F_is_script_of (cD (mVar 0) (cD (mVar 1) cNil))))) (sSeq sNo sNx) sNx) sNx)
def F_need_script : FF := fAr 2 (fOf 2 m_need_script)
theorem ok_need_script (D : DefD K mg "need_script" s_need_script ["many", "script"]) (B : Blt mg) (c_is_script_of : CalK P w K mg base tb 8 "is_script_of" F_is_script_of ["many", "thing"]) : CalK P w K mg base tb 9 "need_script" F_need_script ["many", "script"] :=
  calD D sc_need_script fun f9 c9 A9 o9 s9 H9 E9 hr => (rss_cons (rs_if (rt_not (rt_val (re_c c_is_script_of.c hr (rc_d (re_var 0) (rc_d (re_var 1) rc_nil))))) (rss_cons rs_never rss_nil) rss_nil) rss_nil)
abbrev s_reaches : Stmt := topS 33
abbrev N_reaches : List Str := ["hill", "found", "at", "mask"]
theorem sc_reaches : FnScope N_reaches ["hill"] (defScope s_reaches) := sc_by (by decide +kernel)
def m_reaches : Ab → Option (OD × Ab) := (oSeq (sOwnO 1 (mr (OD.t []))) (oSeq (sFor (mEnumA (mCallFn F_below_masks (cD (mVar 0) cNil))) (gTp (gMore (gSet 2) (gMore (gSet 3) gNo))) (sSeq (sDPut 1 (mVar 3) (mTup (mCons (mr (PyData.str "pour")) (mCons (mVar 2) mNil)))) sNx)) (oSeq (sFor (mEnumA (mCallFn F_above_masks (cD (mVar 0) cNil))) (gTp (gMore (gSet 2) (gMore (gSet 3) gNo))) (sSeq (sDPut 1 (mVar 3) (mTup (mCons (mr (PyData.str "open")) (mCons (mVar 2) mNil)))) sNx)) (oRet 1))))
def F_reaches : FO := fArO 1 (fObj 4 m_reaches)
theorem ok_reaches (D : DefD K mg "reaches" s_reaches ["hill"]) (B : Blt mg) (c_above_masks : CalK P w K mg base tb 1 "above_masks" F_above_masks ["book"]) (c_below_masks : CalK P w K mg base tb 1 "below_masks" F_below_masks ["book"]) : CalO P w K mg base tb 2 "reaches" F_reaches ["hill"] :=
  calO D sc_reaches fun f9 c9 A9 o9 s9 H9 E9 hr => (rso_cons (rs_ownO 1 sc_reaches.nd ro_t) (rso_cons (rs_for PassesOwn.never (by rfl) (ri_enumA (by rfl) (B.no "enumerate" (by decide)) (re_c c_below_masks.c hr (rc_d (re_var 0) rc_nil))) (rg_pair (by rfl) (rg_name 2 sc_reaches.nd) (rg_name 3 sc_reaches.nd)) (rss_cons (rs_dput 1 (room1 hr) (re_var 3) (re_tup (ra_cons re_str (ra_cons (re_var 2) ra_nil)))) rss_nil)) (rso_cons (rs_for PassesOwn.never (by rfl) (ri_enumA (by rfl) (B.no "enumerate" (by decide)) (re_c c_above_masks.c hr (rc_d (re_var 0) rc_nil))) (rg_pair (by rfl) (rg_name 2 sc_reaches.nd) (rg_name 3 sc_reaches.nd)) (rss_cons (rs_dput 1 (room1 hr) (re_var 3) (re_tup (ra_cons re_str (ra_cons (re_var 2) ra_nil)))) rss_nil)) (rso_ret 1))))
abbrev s_is_book : Stmt := topS 40
abbrev N_is_book : List Str := ["thing", "many", "pairs"]
theorem sc_is_book : FnScope N_is_book ["thing"] (defScope s_is_book) := sc_by (by decide +kernel)
def m_is_book : MS := (sSeq (sIf (mNot (m1b tr (mCallFn F_has_items (cD (mVar 0) (cD (mr (PyData.int 2)) cNil))))) (sSeq (sRet (mr (PyData.bool false))) sNx) sNx) (sSeq (sAsg (mVar 0) (gTp (gMore (gSet 1) (gMore (gSet 2) gNo)))) (sSeq (sRet (mAndV (mCallFn F_is_within (cD (mVar 1) (cD (mr (PyData.int 1)) (cD (mr (PyData.int 10)) cNil)))) (mCallFn F_are_pairs_of (cD (mVar 1) (cD (mVar 2) cNil))))) sNx)))
def F_is_book : FF := fAr 1 (fOf 3 m_is_book)
theorem ok_is_book (D : DefD K mg "is_book" s_is_book ["thing"]) (B : Blt mg) (c_is_within : CalK P w K mg base tb 2 "is_within" F_is_within ["thing", "least", "most"]) (c_are_pairs_of : CalK P w K mg base tb 7 "are_pairs_of" F_are_pairs_of ["many", "thing"]) (c_has_items : CalK P w K mg base tb 1 "has_items" F_has_items ["thing", "many"]) (g_MOST_TERRACES : ∃ t, mg "MOST_TERRACES" = some (Value.int 10 t)) : CalK P w K mg base tb 8 "is_book" F_is_book ["thing"] :=
  calD D sc_is_book fun f9 c9 A9 o9 s9 H9 E9 hr => (rss_cons (rs_if (rt_not (rt_val (re_c c_has_items.c hr (rc_d (re_var 0) (rc_d re_int rc_nil))))) (rss_cons (rs_ret re_bool) rss_nil) rss_nil) (rss_cons (rs_asg (re_var 0) (rg_pair (by rfl) (rg_name 1 sc_is_book.nd) (rg_name 2 sc_is_book.nd))) (rss_cons (rs_ret (re_and (re_c c_is_within.c hr (rc_d (re_var 1) (rc_d re_int (rc_d (re_globI g_MOST_TERRACES) rc_nil)))) (re_one (re_c c_are_pairs_of.c hr (rc_d (re_var 1) (rc_d (re_var 2) rc_nil)))))) rss_nil)))
abbrev s__is_closed : Stmt := topS 41
abbrev N__is_closed : List Str := ["book", "above", "a", "b"]
theorem sc__is_closed : FnScope N__is_closed ["book"] (defScope s__is_closed) := sc_by (by decide +kernel)
def m__is_closed : MS := (sSeq (sAsg (mCallFn F_above_masks (cD (mVar 0) cNil)) (gSet 1)) (sSeq (sRet (mAll [2, 3] (mItems (mIxP 0 (mr (PyData.int 1)))) (gTp (gMore (gSet 2) (gMore (gSet 3) gNo))) (mr true) (mB (m2b dEq (m2 dOr (mIxP 1 (mVar 2)) (mIxP 1 (mVar 3))) (mIxP 1 (mVar 2)))))) sNx))
def F__is_closed : FF := fAr 1 (fOf 4 m__is_closed)
theorem ok__is_closed (D : DefT K mg base tb "_is_closed" s__is_closed ["book"]) (B : Blt mg) (c_above_masks : CalK P w K mg base tb 1 "above_masks" F_above_masks ["book"]) : CalK P w K mg base tb 4 "_is_closed" F__is_closed ["book"] :=
  calT D sc__is_closed fun f9 c9 P9 A9 o9 s9 H9 E9 hP TB hr => (rss_cons (rs_set 1 sc__is_closed.nd (re_c c_above_masks.c hr (rc_d (re_var 0) rc_nil))) (rss_cons (rs_ret (re_all (own := [("a", 2), ("b", 3)]) hr (by rfl) sc__is_closed.nd (by rfl) (B.no "all" (by decide)) TB (by rfl) hP (gen_by (by kernel_rfl)) (by decide) (ri_seq (re_ixP 0 re_int)) ⟨fun A9 s9 H9 C9 cl9 cd9 fp9 r9 => (rg_pair (by rfl) (rg_name 2 sc__is_closed.nd) (rg_name 3 sc__is_closed.nd)), fun A9 s9 H9 C9 cl9 cd9 fp9 r9 => rts_nil, fun A9 s9 H9 C9 cl9 cd9 fp9 r9 => (re_cmp (opb_eq (room65 r9)) (re_bin opd_or (re_ixP 1 (re_var 2)) (re_ixP 1 (re_var 3))) (re_ixP 1 (re_var 2)))⟩)) rss_nil))
abbrev s_is_hill : Stmt := topS 39
abbrev N_is_hill : List Str := ["thing"]
theorem sc_is_hill : FnScope N_is_hill ["thing"] (defScope s_is_hill) := sc_by (by decide +kernel)
def m_is_hill : MS := (sSeq (sRet (mAndV (mCallFn F_is_book (cD (mVar 0) cNil)) (mCallFn F__is_closed (cD (mVar 0) cNil)))) sNx)
def F_is_hill : FF := fAr 1 (fOf 1 m_is_hill)
theorem ok_is_hill (D : DefD K mg "is_hill" s_is_hill ["thing"]) (B : Blt mg) (c_is_book : CalK P w K mg base tb 8 "is_book" F_is_book ["thing"]) (c__is_closed : CalK P w K mg base tb 4 "_is_closed" F__is_closed ["book"]) : CalK P w K mg base tb 9 "is_hill" F_is_hill ["thing"] :=
  calD D sc_is_hill fun f9 c9 A9 o9 s9 H9 E9 hr => (rss_cons (rs_ret (re_and (re_c c_is_book.c hr (rc_d (re_var 0) rc_nil)) (re_one (re_c c__is_closed.c hr (rc_d (re_var 0) rc_nil))))) rss_nil)
abbrev s_need_hill : Stmt := topS 42
abbrev N_need_hill : List Str := ["hill"]
theorem sc_need_hill : FnScope N_need_hill ["hill"] (defScope s_need_hill) := sc_by (by decide +kernel)
def m_need_hill : MS := (sSeq (sIf (mNot (m1b tr (mCallFn F_is_hill (cD (mVar 0) cNil)))) (sSeq sNo sNx) sNx) sNx)
def F_need_hill : FF := fAr 1 (fOf 1 m_need_hill)
theorem ok_need_hill (D : DefD K mg "need_hill" s_need_hill ["hill"]) (B : Blt mg) (c_is_hill : CalK P w K mg base tb 9 "is_hill" F_is_hill ["thing"]) : CalK P w K mg base tb 10 "need_hill" F_need_hill ["hill"] :=
  calD D sc_need_hill fun f9 c9 A9 o9 s9 H9 E9 hr => (rss_cons (rs_if (rt_not (rt_val (re_c c_is_hill.c hr (rc_d (re_var 0) rc_nil)))) (rss_cons rs_never rss_nil) rss_nil) rss_nil)
abbrev s_reach : Stmt := topS 47
abbrev N_reach : List Str := ["hill", "deed"]
theorem sc_reach : FnScope N_reach ["hill", "deed"] (defScope s_reach) := sc_by (by decide +kernel)
def m_reach : MS := (sSeq (sDrop (mCallFn F_need_hill (cD (mVar 0) cNil))) (sSeq (sDrop (mCallFn F_need_deed (cD (mIxP 0 (mr (PyData.int 0))) (cD (mVar 1) cNil)))) (sSeq (sRet (mCallFn F_lot_of (cD (mIxO (mCallO F_reaches (cD (mVar 0) cNil)) (mVar 1)) cNil))) sNx)))
def F_reach : FF := fAr 2 (fOf 2 m_reach)
theorem ok_reach (D : DefD K mg "reach" s_reach ["hill", "deed"]) (B : Blt mg) (c_lot_of : CalK P w K mg base tb 5 "lot_of" F_lot_of ["mask"]) (c_reaches : CalO P w K mg base tb 2 "reaches" F_reaches ["hill"]) (c_need_deed : CalK P w K mg base tb 5 "need_deed" F_need_deed ["many", "deed"]) (c_need_hill : CalK P w K mg base tb 10 "need_hill" F_need_hill ["hill"]) : CalK P w K mg base tb 11 "reach" F_reach ["hill", "deed"] :=
  calD D sc_reach fun f9 c9 A9 o9 s9 H9 E9 hr => (rss_cons (rs_expr (re_c c_need_hill.c hr (rc_d (re_var 0) rc_nil))) (rss_cons (rs_expr (re_c c_need_deed.c hr (rc_d (re_ixP 0 re_int) (rc_d (re_var 1) rc_nil)))) (rss_cons (rs_ret (re_c c_lot_of.c hr (rc_d (re_ixO (room1 hr) (ro_c c_reaches hr (rc_d (re_var 0) rc_nil)) (re_var 1)) rc_nil))) rss_nil)))
abbrev s_wet_behind : Stmt := topS 34
abbrev N_wet_behind : List Str := ["water", "deed", "reach"]
theorem sc_wet_behind : FnScope N_wet_behind ["water", "deed", "reach"] (defScope s_wet_behind) := sc_by (by decide +kernel)
def m_wet_behind : MS := (sSeq (sIf (m2b dEq (mIxP 1 (mr (PyData.int 0))) (mr (PyData.str "pour"))) (sSeq (sRet (m2 dOr (mVar 0) (mVar 2))) sNx) sNx) (sSeq (sRet (m2 dAnd (mVar 0) (m1 dInv (mVar 2)))) sNx))
def F_wet_behind : FF := fAr 3 (fOf 3 m_wet_behind)
theorem ok_wet_behind (D : DefD K mg "wet_behind" s_wet_behind ["water", "deed", "reach"]) (B : Blt mg)  : CalK P w K mg base tb 1 "wet_behind" F_wet_behind ["water", "deed", "reach"] :=
  calD D sc_wet_behind fun f9 c9 A9 o9 s9 H9 E9 hr => (rss_cons (rs_if (rt_cmp (opb_eq (room65 hr)) (re_ixP 1 re_int) re_str) (rss_cons (rs_ret (re_bin opd_or (re_var 0) (re_var 2))) rss_nil) rss_nil) (rss_cons (rs_ret (re_bin opd_and (re_var 0) (re_un und_inv (re_var 2)))) rss_nil))
abbrev s_couple_behind : Stmt := topS 35
abbrev N_couple_behind : List Str := ["couple", "deed", "reach", "wet", "dry"]
theorem sc_couple_behind : FnScope N_couple_behind ["couple", "deed", "reach"] (defScope s_couple_behind) := sc_by (by decide +kernel)
def m_couple_behind : MS := (sSeq (sAsg (mVar 0) (gTp (gMore (gSet 3) (gMore (gSet 4) gNo)))) (sSeq (sIf (m2b dEq (mIxP 1 (mr (PyData.int 0))) (mr (PyData.str "pour"))) (sSeq (sRet (mTup (mCons (m2 dOr (mVar 3) (mVar 2)) (mCons (m2 dAnd (mVar 4) (m1 dInv (mVar 2))) mNil)))) sNx) sNx) (sSeq (sRet (mTup (mCons (m2 dAnd (mVar 3) (m1 dInv (mVar 2))) (mCons (m2 dOr (mVar 4) (mVar 2)) mNil)))) sNx)))
def F_couple_behind : FF := fAr 3 (fOf 5 m_couple_behind)
theorem ok_couple_behind (D : DefD K mg "couple_behind" s_couple_behind ["couple", "deed", "reach"]) (B : Blt mg)  : CalK P w K mg base tb 1 "couple_behind" F_couple_behind ["couple", "deed", "reach"] :=
  calD D sc_couple_behind fun f9 c9 A9 o9 s9 H9 E9 hr => (rss_cons (rs_asg (re_var 0) (rg_pair (by rfl) (rg_name 3 sc_couple_behind.nd) (rg_name 4 sc_couple_behind.nd))) (rss_cons (rs_if (rt_cmp (opb_eq (room65 hr)) (re_ixP 1 re_int) re_str) (rss_cons (rs_ret (re_tup (ra_cons (re_bin opd_or (re_var 3) (re_var 2)) (ra_cons (re_bin opd_and (re_var 4) (re_un und_inv (re_var 2))) ra_nil)))) rss_nil) rss_nil) (rss_cons (rs_ret (re_tup (ra_cons (re_bin opd_and (re_var 3) (re_un und_inv (re_var 2))) (ra_cons (re_bin opd_or (re_var 4) (re_var 2)) ra_nil)))) rss_nil)))
abbrev s_couple_masks : Stmt := topS 36
abbrev N_couple_masks : List Str := ["hill", "script", "reached", "couple", "deed"]
theorem sc_couple_masks : FnScope N_couple_masks ["hill", "script"] (defScope s_couple_masks) := sc_by (by decide +kernel)
def m_couple_masks : MS := (sSeq (sOwnO 2 (mCallO F_reaches (cD (mVar 0) cNil))) (sSeq (sAsg (mTup (mCons (mr (PyData.int 0)) (mCons (mr (PyData.int 0)) mNil))) (gSet 3)) (sSeq (sFor (mItems (mVar 1)) (gSet 4) (sSeq (sAsg (mCallFn F_couple_behind (cD (mVar 3) (cD (mVar 4) (cD (mDGet 2 (mVar 4)) cNil)))) (gSet 3)) sNx)) (sSeq (sRet (mVar 3)) sNx))))
def F_couple_masks : FF := fAr 2 (fOf 5 m_couple_masks)
theorem ok_couple_masks (D : DefD K mg "couple_masks" s_couple_masks ["hill", "script"]) (B : Blt mg) (c_couple_behind : CalK P w K mg base tb 1 "couple_behind" F_couple_behind ["couple", "deed", "reach"]) (c_reaches : CalO P w K mg base tb 2 "reaches" F_reaches ["hill"]) : CalK P w K mg base tb 3 "couple_masks" F_couple_masks ["hill", "script"] :=
  calD D sc_couple_masks fun f9 c9 A9 o9 s9 H9 E9 hr => (rss_cons (rs_ownO 2 sc_couple_masks.nd (ro_c c_reaches hr (rc_d (re_var 0) rc_nil))) (rss_cons (rs_set 3 sc_couple_masks.nd (re_tup (ra_cons re_int (ra_cons re_int ra_nil)))) (rss_cons (rs_for PassesOwn.never (by rfl) (ri_seq (re_var 1)) (rg_name 4 sc_couple_masks.nd) (rss_cons (rs_set 3 sc_couple_masks.nd (re_c c_couple_behind.c hr (rc_d (re_var 3) (rc_d (re_var 4) (rc_d (re_dget 2 (room1 hr) (re_var 4)) rc_nil))))) rss_nil)) (rss_cons (rs_ret (re_var 3)) rss_nil))))
abbrev s_mirror : Stmt := topS 43
abbrev N_mirror : List Str := ["hill", "many", "pairs", "a", "b"]
theorem sc_mirror : FnScope N_mirror ["hill"] (defScope s_mirror) := sc_by (by decide +kernel)
def m_mirror : MS := (sSeq (sDrop (mCallFn F_need_hill (cD (mVar 0) cNil))) (sSeq (sAsg (mVar 0) (gTp (gMore (gSet 1) (gMore (gSet 2) gNo)))) (sSeq (sRet (mTup (mCons (mVar 1) (mCons (m1 dTupOf (mL (mSortG [3, 4] (mItems (mVar 2)) (gTp (gMore (gSet 3) (gMore (gSet 4) gNo))) (mr true) (mTup (mCons (mVar 4) (mCons (mVar 3) mNil)))))) mNil)))) sNx)))
def F_mirror : FF := fAr 1 (fOf 5 m_mirror)
theorem ok_mirror (D : DefT K mg base tb "mirror" s_mirror ["hill"]) (B : Blt mg) (c_need_hill : CalK P w K mg base tb 10 "need_hill" F_need_hill ["hill"]) : CalK P w K mg base tb 11 "mirror" F_mirror ["hill"] :=
  calT D sc_mirror fun f9 c9 P9 A9 o9 s9 H9 E9 hP TB hr => (rss_cons (rs_expr (re_c c_need_hill.c hr (rc_d (re_var 0) rc_nil))) (rss_cons (rs_asg (re_var 0) (rg_pair (by rfl) (rg_name 1 sc_mirror.nd) (rg_name 2 sc_mirror.nd))) (rss_cons (rs_ret (re_tup (ra_cons (re_var 1) (ra_cons (re_tupleOf (by rfl) (B.no "tuple" (by decide)) (re_fresh (rf_sortG (own := [("a", 3), ("b", 4)]) hr (by rfl) sc_mirror.nd (by rfl) (B.no "sorted" (by decide)) TB (by rfl) hP (gen_by (by kernel_rfl)) (by decide) (ri_seq (re_var 2)) ⟨fun A9 s9 H9 C9 cl9 cd9 fp9 r9 => (rg_pair (by rfl) (rg_name 3 sc_mirror.nd) (rg_name 4 sc_mirror.nd)), fun A9 s9 H9 C9 cl9 cd9 fp9 r9 => rts_nil, fun A9 s9 H9 C9 cl9 cd9 fp9 r9 => (re_tup (ra_cons (re_var 4) (ra_cons (re_var 3) ra_nil)))⟩))) ra_nil)))) rss_nil)))
abbrev s__is_renaming : Stmt := topS 45
abbrev N__is_renaming : List Str := ["many", "thing", "name"]
theorem sc__is_renaming : FnScope N__is_renaming ["many", "thing"] (defScope s__is_renaming) := sc_by (by decide +kernel)
def m__is_renaming : MS := (sSeq (sIf (mNot (m1b tr (mCallFn F_has_items (cD (mVar 1) (cD (mVar 0) cNil))))) (sSeq (sRet (mr (PyData.bool false))) sNx) sNx) (sSeq (sRet (mAndV (mAll [2] (mItems (mVar 1)) (gSet 2) (mr true) (mCallFn F_is_integer (cD (mVar 2) cNil))) (mB (m2b dEq (mL (mCallF dSorted (mCons (mVar 1) mNil))) (mL (mRg1 (mVar 0))))))) sNx))
def F__is_renaming : FF := fAr 2 (fOf 3 m__is_renaming)
theorem ok__is_renaming (D : DefT K mg base tb "_is_renaming" s__is_renaming ["many", "thing"]) (B : Blt mg) (c_is_integer : CalK P w K mg base tb 1 "is_integer" F_is_integer ["thing"]) (c_has_items : CalK P w K mg base tb 1 "has_items" F_has_items ["thing", "many"]) : CalK P w K mg base tb 5 "_is_renaming" F__is_renaming ["many", "thing"] :=
  calT D sc__is_renaming fun f9 c9 P9 A9 o9 s9 H9 E9 hP TB hr => (rss_cons (rs_if (rt_not (rt_val (re_c c_has_items.c hr (rc_d (re_var 1) (rc_d (re_var 0) rc_nil))))) (rss_cons (rs_ret re_bool) rss_nil) rss_nil) (rss_cons (rs_ret (re_and (re_all (own := [("name", 2)]) hr (by rfl) sc__is_renaming.nd (by rfl) (B.no "all" (by decide)) TB (by rfl) hP (gen_by (by kernel_rfl)) (by decide) (ri_seq (re_var 1)) ⟨fun A9 s9 H9 C9 cl9 cd9 fp9 r9 => (rg_name 2 sc__is_renaming.nd), fun A9 s9 H9 C9 cl9 cd9 fp9 r9 => rts_nil, fun A9 s9 H9 C9 cl9 cd9 fp9 r9 => (re_c c_is_integer.c r9 (rc_d (re_var 2) rc_nil))⟩) (re_one (re_cmp (opb_eq (room65 hr)) (re_fresh (rf_callB (cf_sorted (room2 hr)) (by rfl) (B.no "sorted" (by decide)) bt_sorted (ra_cons (re_var 1) ra_nil))) (re_fresh (rf_listRg1 (by rfl) (by rfl) (B.no "list" (by decide)) (by rfl) (B.no "range" (by decide)) (re_var 0))))))) rss_nil))
abbrev s_led_hill : Stmt := topS 44
abbrev N_led_hill : List Str := ["hill", "names", "many", "pairs", "a", "b"]
theorem sc_led_hill : FnScope N_led_hill ["hill", "names"] (defScope s_led_hill) := sc_by (by decide +kernel)
def m_led_hill : MS := (sSeq (sDrop (mCallFn F_need_hill (cD (mVar 0) cNil))) (sSeq (sAsg (mVar 0) (gTp (gMore (gSet 2) (gMore (gSet 3) gNo)))) (sSeq (sIf (mNot (m1b tr (mCallFn F__is_renaming (cD (mVar 2) (cD (mVar 1) cNil))))) (sSeq sNo sNx) sNx) (sSeq (sRet (mTup (mCons (mVar 2) (mCons (m1 dTupOf (mL (mSortG [4, 5] (mItems (mVar 3)) (gTp (gMore (gSet 4) (gMore (gSet 5) gNo))) (mr true) (mTup (mCons (mIxP 1 (mVar 4)) (mCons (mIxP 1 (mVar 5)) mNil)))))) mNil)))) sNx))))
def F_led_hill : FF := fAr 2 (fOf 6 m_led_hill)
theorem ok_led_hill (D : DefT K mg base tb "led_hill" s_led_hill ["hill", "names"]) (B : Blt mg) (c__is_renaming : CalK P w K mg base tb 5 "_is_renaming" F__is_renaming ["many", "thing"]) (c_need_hill : CalK P w K mg base tb 10 "need_hill" F_need_hill ["hill"]) : CalK P w K mg base tb 11 "led_hill" F_led_hill ["hill", "names"] :=
  calT D sc_led_hill fun f9 c9 P9 A9 o9 s9 H9 E9 hP TB hr => (rss_cons (rs_expr (re_c c_need_hill.c hr (rc_d (re_var 0) rc_nil))) (rss_cons (rs_asg (re_var 0) (rg_pair (by rfl) (rg_name 2 sc_led_hill.nd) (rg_name 3 sc_led_hill.nd))) (rss_cons (rs_if (rt_not (rt_val (re_c c__is_renaming.c hr (rc_d (re_var 2) (rc_d (re_var 1) rc_nil))))) (rss_cons rs_never rss_nil) rss_nil) (rss_cons (rs_ret (re_tup (ra_cons (re_var 2) (ra_cons (re_tupleOf (by rfl) (B.no "tuple" (by decide)) (re_fresh (rf_sortG (own := [("a", 4), ("b", 5)]) hr (by rfl) sc_led_hill.nd (by rfl) (B.no "sorted" (by decide)) TB (by rfl) hP (gen_by (by kernel_rfl)) (by decide) (ri_seq (re_var 3)) ⟨fun A9 s9 H9 C9 cl9 cd9 fp9 r9 => (rg_pair (by rfl) (rg_name 4 sc_led_hill.nd) (rg_name 5 sc_led_hill.nd)), fun A9 s9 H9 C9 cl9 cd9 fp9 r9 => rts_nil, fun A9 s9 H9 C9 cl9 cd9 fp9 r9 => (re_tup (ra_cons (re_ixP 1 (re_var 4)) (ra_cons (re_ixP 1 (re_var 5)) ra_nil)))⟩))) ra_nil)))) rss_nil))))
abbrev s_run : Stmt := topS 48
abbrev N_run : List Str := ["hill", "water", "script", "reached", "wet", "deed"]
theorem sc_run : FnScope N_run ["hill", "water", "script"] (defScope s_run) := sc_by (by decide +kernel)
def m_run : MS := (sSeq (sDrop (mCallFn F_need_hill (cD (mVar 0) cNil))) (sSeq (sDrop (mCallFn F_need_water (cD (mVar 0) (cD (mVar 1) cNil)))) (sSeq (sDrop (mCallFn F_need_script (cD (mIxP 0 (mr (PyData.int 0))) (cD (mVar 2) cNil)))) (sSeq (sOwnO 3 (mCallO F_reaches (cD (mVar 0) cNil))) (sSeq (sAsg (mCallFn F_mask_of (cD (mVar 1) cNil)) (gSet 4)) (sSeq (sFor (mItems (mVar 2)) (gSet 5) (sSeq (sAsg (mCallFn F_wet_behind (cD (mVar 4) (cD (mVar 5) (cD (mDGet 3 (mVar 5)) cNil)))) (gSet 4)) sNx)) (sSeq (sRet (mCallFn F_lot_of (cD (mVar 4) cNil))) sNx)))))))
def F_run : FF := fAr 3 (fOf 6 m_run)
theorem ok_run (D : DefD K mg "run" s_run ["hill", "water", "script"]) (B : Blt mg) (c_lot_of : CalK P w K mg base tb 5 "lot_of" F_lot_of ["mask"]) (c_wet_behind : CalK P w K mg base tb 1 "wet_behind" F_wet_behind ["water", "deed", "reach"]) (c_mask_of : CalK P w K mg base tb 1 "mask_of" F_mask_of ["lot"]) (c_reaches : CalO P w K mg base tb 2 "reaches" F_reaches ["hill"]) (c_need_script : CalK P w K mg base tb 9 "need_script" F_need_script ["many", "script"]) (c_need_water : CalK P w K mg base tb 9 "need_water" F_need_water ["hill", "water"]) (c_need_hill : CalK P w K mg base tb 10 "need_hill" F_need_hill ["hill"]) : CalK P w K mg base tb 11 "run" F_run ["hill", "water", "script"] :=
  calD D sc_run fun f9 c9 A9 o9 s9 H9 E9 hr => (rss_cons (rs_expr (re_c c_need_hill.c hr (rc_d (re_var 0) rc_nil))) (rss_cons (rs_expr (re_c c_need_water.c hr (rc_d (re_var 0) (rc_d (re_var 1) rc_nil)))) (rss_cons (rs_expr (re_c c_need_script.c hr (rc_d (re_ixP 0 re_int) (rc_d (re_var 2) rc_nil)))) (rss_cons (rs_ownO 3 sc_run.nd (ro_c c_reaches hr (rc_d (re_var 0) rc_nil))) (rss_cons (rs_set 4 sc_run.nd (re_c c_mask_of.c hr (rc_d (re_var 1) rc_nil))) (rss_cons (rs_for PassesOwn.never (by rfl) (ri_seq (re_var 2)) (rg_name 5 sc_run.nd) (rss_cons (rs_set 4 sc_run.nd (re_c c_wet_behind.c hr (rc_d (re_var 4) (rc_d (re_var 5) (rc_d (re_dget 3 (room1 hr) (re_var 5)) rc_nil))))) rss_nil)) (rss_cons (rs_ret (re_c c_lot_of.c hr (rc_d (re_var 4) rc_nil))) rss_nil)))))))
abbrev s_couple_of : Stmt := topS 49
abbrev N_couple_of : List Str := ["hill", "script", "wet", "dry"]
theorem sc_couple_of : FnScope N_couple_of ["hill", "script"] (defScope s_couple_of) := sc_by (by decide +kernel)
def m_couple_of : MS := (sSeq (sDrop (mCallFn F_need_hill (cD (mVar 0) cNil))) (sSeq (sDrop (mCallFn F_need_script (cD (mIxP 0 (mr (PyData.int 0))) (cD (mVar 1) cNil)))) (sSeq (sAsg (mCallFn F_couple_masks (cD (mVar 0) (cD (mVar 1) cNil))) (gTp (gMore (gSet 2) (gMore (gSet 3) gNo)))) (sSeq (sRet (mTup (mCons (mCallFn F_lot_of (cD (mVar 2) cNil)) (mCons (mCallFn F_lot_of (cD (mVar 3) cNil)) mNil)))) sNx))))
def F_couple_of : FF := fAr 2 (fOf 4 m_couple_of)
theorem ok_couple_of (D : DefD K mg "couple_of" s_couple_of ["hill", "script"]) (B : Blt mg) (c_lot_of : CalK P w K mg base tb 5 "lot_of" F_lot_of ["mask"]) (c_couple_masks : CalK P w K mg base tb 3 "couple_masks" F_couple_masks ["hill", "script"]) (c_need_script : CalK P w K mg base tb 9 "need_script" F_need_script ["many", "script"]) (c_need_hill : CalK P w K mg base tb 10 "need_hill" F_need_hill ["hill"]) : CalK P w K mg base tb 11 "couple_of" F_couple_of ["hill", "script"] :=
  calD D sc_couple_of fun f9 c9 A9 o9 s9 H9 E9 hr => (rss_cons (rs_expr (re_c c_need_hill.c hr (rc_d (re_var 0) rc_nil))) (rss_cons (rs_expr (re_c c_need_script.c hr (rc_d (re_ixP 0 re_int) (rc_d (re_var 1) rc_nil)))) (rss_cons (rs_asg (re_c c_couple_masks.c hr (rc_d (re_var 0) (rc_d (re_var 1) rc_nil))) (rg_pair (by rfl) (rg_name 2 sc_couple_of.nd) (rg_name 3 sc_couple_of.nd))) (rss_cons (rs_ret (re_tup (ra_cons (re_c c_lot_of.c hr (rc_d (re_var 2) rc_nil)) (ra_cons (re_c c_lot_of.c hr (rc_d (re_var 3) rc_nil)) ra_nil)))) rss_nil))))
abbrev s_last_reaching : Stmt := topS 50
abbrev N_last_reaching : List Str := ["hill", "script", "terrace", "reached", "last", "at", "deed"]
theorem sc_last_reaching : FnScope N_last_reaching ["hill", "script", "terrace"] (defScope s_last_reaching) := sc_by (by decide +kernel)
def m_last_reaching : MS := (sSeq (sDrop (mCallFn F_need_hill (cD (mVar 0) cNil))) (sSeq (sDrop (mCallFn F_need_script (cD (mIxP 0 (mr (PyData.int 0))) (cD (mVar 1) cNil)))) (sSeq (sDrop (mCallFn F_need_terrace (cD (mIxP 0 (mr (PyData.int 0))) (cD (mVar 2) cNil)))) (sSeq (sOwnO 3 (mCallO F_reaches (cD (mVar 0) cNil))) (sSeq (sAsg (mr PyData.none) (gSet 4)) (sSeq (sFor (mEnumA (mVar 1)) (gTp (gMore (gSet 5) (gMore (gSet 6) gNo))) (sSeq (sIf (m1b tr (m2 dAnd (m2 dShr (mDGet 3 (mVar 6)) (mVar 2)) (mr (PyData.int 1)))) (sSeq (sAsg (mVar 5) (gSet 4)) sNx) sNx) sNx)) (sSeq (sRet (mVar 4)) sNx)))))))
def F_last_reaching : FF := fAr 3 (fOf 7 m_last_reaching)
theorem ok_last_reaching (D : DefD K mg "last_reaching" s_last_reaching ["hill", "script", "terrace"]) (B : Blt mg) (c_reaches : CalO P w K mg base tb 2 "reaches" F_reaches ["hill"]) (c_need_terrace : CalK P w K mg base tb 4 "need_terrace" F_need_terrace ["many", "terrace"]) (c_need_script : CalK P w K mg base tb 9 "need_script" F_need_script ["many", "script"]) (c_need_hill : CalK P w K mg base tb 10 "need_hill" F_need_hill ["hill"]) : CalK P w K mg base tb 11 "last_reaching" F_last_reaching ["hill", "script", "terrace"] :=
  calD D sc_last_reaching fun f9 c9 A9 o9 s9 H9 E9 hr => (rss_cons (rs_expr (re_c c_need_hill.c hr (rc_d (re_var 0) rc_nil))) (rss_cons (rs_expr (re_c c_need_script.c hr (rc_d (re_ixP 0 re_int) (rc_d (re_var 1) rc_nil)))) (rss_cons (rs_expr (re_c c_need_terrace.c hr (rc_d (re_ixP 0 re_int) (rc_d (re_var 2) rc_nil)))) (rss_cons (rs_ownO 3 sc_last_reaching.nd (ro_c c_reaches hr (rc_d (re_var 0) rc_nil))) (rss_cons (rs_set 4 sc_last_reaching.nd re_none) (rss_cons (rs_for PassesOwn.never (by rfl) (ri_enumA (by rfl) (B.no "enumerate" (by decide)) (re_var 1)) (rg_pair (by rfl) (rg_name 5 sc_last_reaching.nd) (rg_name 6 sc_last_reaching.nd)) (rss_cons (rs_if (rt_val (re_bin opd_and (re_bin opd_shr (re_dget 3 (room1 hr) (re_var 6)) (re_var 2)) re_int)) (rss_cons (rs_set 4 sc_last_reaching.nd (re_var 5)) rss_nil) rss_nil) rss_nil)) (rss_cons (rs_ret (re_var 4)) rss_nil)))))))
abbrev s__need_script_of : Stmt := topS 52
abbrev N__need_script_of : List Str := ["hill", "script"]
theorem sc__need_script_of : FnScope N__need_script_of ["hill", "script"] (defScope s__need_script_of) := sc_by (by decide +kernel)
def m__need_script_of : MS := (sSeq (sDrop (mCallFn F_need_hill (cD (mVar 0) cNil))) (sSeq (sDrop (mCallFn F_need_script (cD (mIxP 0 (mr (PyData.int 0))) (cD (mVar 1) cNil)))) sNx))
def F__need_script_of : FF := fAr 2 (fOf 2 m__need_script_of)
theorem ok__need_script_of (D : DefD K mg "_need_script_of" s__need_script_of ["hill", "script"]) (B : Blt mg) (c_need_script : CalK P w K mg base tb 9 "need_script" F_need_script ["many", "script"]) (c_need_hill : CalK P w K mg base tb 10 "need_hill" F_need_hill ["hill"]) : CalK P w K mg base tb 11 "_need_script_of" F__need_script_of ["hill", "script"] :=
  calD D sc__need_script_of fun f9 c9 A9 o9 s9 H9 E9 hr => (rss_cons (rs_expr (re_c c_need_hill.c hr (rc_d (re_var 0) rc_nil))) (rss_cons (rs_expr (re_c c_need_script.c hr (rc_d (re_ixP 0 re_int) (rc_d (re_var 1) rc_nil)))) rss_nil))
abbrev s_deciders : Stmt := topS 53
abbrev N_deciders : List Str := ["hill", "script", "reached", "found", "at", "deed", "terrace"]
theorem sc_deciders : FnScope N_deciders ["hill", "script"] (defScope s_deciders) := sc_by (by decide +kernel)
def m_deciders : MS := (sSeq (sDrop (mCallFn F__need_script_of (cD (mVar 0) (cD (mVar 1) cNil)))) (sSeq (sOwnO 2 (mCallO F_reaches (cD (mVar 0) cNil))) (sSeq (sOwn 3 (mRep (mLst (mCons (mr PyData.none) mNil)) (mIxP 0 (mr (PyData.int 0))))) (sSeq (sFor (mEnumA (mVar 1)) (gTp (gMore (gSet 4) (gMore (gSet 5) gNo))) (sSeq (sFor (mItems (mCallFn F_lot_of (cD (mDGet 2 (mVar 5)) cNil))) (gSet 6) (sSeq (sPut 3 (mVar 4) (mVar 6)) sNx)) sNx)) (sSeq (sRet (m1 dTupOf (mVar 3))) sNx)))))
def F_deciders : FF := fAr 2 (fOf 7 m_deciders)
theorem ok_deciders (D : DefD K mg "deciders" s_deciders ["hill", "script"]) (B : Blt mg) (c_lot_of : CalK P w K mg base tb 5 "lot_of" F_lot_of ["mask"]) (c_reaches : CalO P w K mg base tb 2 "reaches" F_reaches ["hill"]) (c__need_script_of : CalK P w K mg base tb 11 "_need_script_of" F__need_script_of ["hill", "script"]) : CalK P w K mg base tb 12 "deciders" F_deciders ["hill", "script"] :=
  calD D sc_deciders fun f9 c9 A9 o9 s9 H9 E9 hr => (rss_cons (rs_expr (re_c c__need_script_of.c hr (rc_d (re_var 0) (rc_d (re_var 1) rc_nil)))) (rss_cons (rs_ownO 2 sc_deciders.nd (ro_c c_reaches hr (rc_d (re_var 0) rc_nil))) (rss_cons (rs_own 3 sc_deciders.nd (rf_rep (rf_lst (ra_cons re_none ra_nil)) (re_ixP 0 re_int))) (rss_cons (rs_for PassesOwn.never (by rfl) (ri_enumA (by rfl) (B.no "enumerate" (by decide)) (re_var 1)) (rg_pair (by rfl) (rg_name 4 sc_deciders.nd) (rg_name 5 sc_deciders.nd)) (rss_cons (rs_for PassesOwn.never (by rfl) (ri_seq (re_c c_lot_of.c hr (rc_d (re_dget 2 (room1 hr) (re_var 5)) rc_nil))) (rg_name 6 sc_deciders.nd) (rss_cons (rs_put 3 sc_deciders.nd (re_var 4) (re_var 6)) rss_nil)) rss_nil)) (rss_cons (rs_ret (re_tupleOf (by rfl) (B.no "tuple" (by decide)) (re_var 3))) rss_nil)))))
abbrev s__law_deck : Stmt := topS 55
theorem sc__law_deck : FnScope ["_law_script_here", "_law_mixed", "_law_cell"] ["_law_script_here"] (defScope s__law_deck) := sc_by (by decide +kernel)
theorem ok__law_deck (D : DefD K mg "_law_deck" s__law_deck ["_law_script_here"]) (B : Blt mg) : DeckP P w K mg base tb 1 "_law_deck" 69621 2147483549 81 2147483563 10892421 :=
  deckP D sc__law_deck (by decide) (by decide) (by decide) (by decide) fun f9 c9 A9 o9 s9 H9 E9 hr =>
    pss_cons (ps_set (i := 1) sc__law_deck.nd rfl (by first | exact Or.inl rfl | exact Or.inr rfl) pe_int)
    (pss_cons (ps_for PassesOwn.never rfl (pi_list (pe_slice sl_list (pe_var (i := 0) rfl (by first | exact Or.inl rfl | exact Or.inr (Or.inl rfl))) po_none (po_some pe_int))) (pg_name (i := 2) sc__law_deck.nd rfl (by first | exact Or.inl rfl | exact Or.inr rfl)) (pss_one (ps_set (i := 1) sc__law_deck.nd rfl (by first | exact Or.inl rfl | exact Or.inr rfl) (pe_op op_mod (pe_callTy call_int1 (by rfl) (B.no "int" (by decide)) bt_int (pa_cons (pe_op op_add (pe_op op_add (pe_op op_mulW (pe_var (i := 1) rfl (by first | exact Or.inl rfl | exact Or.inr (Or.inl rfl))) pe_int) (pe_op op_mod (pe_callTy call_int1 (by rfl) (B.no "int" (by decide)) bt_int (pa_cons (pe_var (i := 2) rfl (by first | exact Or.inl rfl | exact Or.inr (Or.inl rfl))) pa_nil)) pe_int)) pe_int) pa_nil)) pe_int))))
    (pss_one (ps_ret (pe_disp (pps_cons pe_str (pe_revL (pe_callTy call_list_of (by rfl) (B.no "list" (by decide)) bt_list (pa_cons (pe_slice sl_list (pe_var (i := 0) rfl (by first | exact Or.inl rfl | exact Or.inr (Or.inl rfl))) po_none (po_some pe_int)) pa_nil))) (pps_cons pe_str (pe_var (i := 1) rfl (by first | exact Or.inl rfl | exact Or.inr (Or.inl rfl))) (pps_cons pe_str pe_int pps_nil))) rfl rfl (by intro z; cases z) (by decide)))))
abbrev s__law_draw : Stmt := topS 56
abbrev N__law_draw : List Str := ["_law_deck_here", "_law_many", "_law_number", "_law_cell"]
theorem sc__law_draw : FnScope N__law_draw ["_law_deck_here", "_law_many"] (defScope s__law_draw) := sc_by (by decide +kernel)
def m__law_draw : MS := (sSeq (kSet 0 (m2 dAdd (kDraws 0) (mr (PyData.int 1)))) (sSeq (sAsg (m2 dAdd (kMixed 0) (m2 dMul (mr (PyData.int 61027)) (kDraws 0))) (gSet 2)) (sSeq (sIf (kAny 0) (sSeq (sAsg (kPop 0) (gSet 3)) (sSeq (sIf (m2bP dGe 3 (m2 dPow (mr (PyData.int 10)) (mr (PyData.int 18)))) (sSeq (sDrop (kApp 0 (m2 dDiv (mVar 3) (mCall dMaxX (mCons (mr (PyData.int 2)) (mCons (mVar 1) mNil)))))) (sSeq (sRet (m2 dMod (mCall dInt (mCons (mVar 3) mNil)) (mVar 1))) sNx)) sNx) (sSeq (sAsg (m2 dAdd (mVar 2) (m2 dMod (mCall dInt (mCons (mVar 3) mNil)) (mr (PyData.int 2147483549)))) (gSet 2)) sNx))) sNx) (sSeq (sAsg (m2 dMod (mCall dInt (mCons (m2 dAdd (m2 dMul (mVar 2) (mr (PyData.int 45991))) (mr (PyData.int 81))) mNil)) (mr (PyData.int 2147483629))) (gSet 2)) (sSeq (sAsg (m2 dMod (mCall dInt (mCons (m2 dAdd (m2 dAdd (m2 dMul (mVar 2) (mVar 2)) (m2 dMul (mr (PyData.int 52361)) (kDraws 0))) (mr (PyData.int 125))) mNil)) (mr (PyData.int 2147483587))) (gSet 2)) (sSeq (sAsg (m2 dMod (mCall dInt (mCons (m2 dMul (mVar 2) (mr (PyData.int 40692))) mNil)) (mr (PyData.int 2147483399))) (gSet 2)) (sSeq (sRet (m2 dMod (mCall dInt (mCons (m2 dDiv (mVar 2) (mr (PyData.int 64))) mNil)) (mVar 1))) sNx)))))))
def F__law_draw : FF := fAr 2 (fOf 4 m__law_draw)
theorem ok__law_draw (D : DefD K mg "_law_draw" s__law_draw ["_law_deck_here", "_law_many"]) (B : Blt mg)  : CalK P w K mg base tb 1 "_law_draw" F__law_draw ["_law_deck_here", "_law_many"] :=
  calD D sc__law_draw fun f9 c9 A9 o9 s9 H9 E9 hr => (rss_cons (rs_dkSet 0 (room1 hr) (re_bin opd_add (re_dkDraws 0 (room1 hr)) re_int)) (rss_cons (rs_set 2 sc__law_draw.nd (re_bin opd_add (re_dkMixed 0 (room1 hr)) (re_bin opd_mul re_int (re_dkDraws 0 (room1 hr))))) (rss_cons (rs_if (rt_dkAny 0 (room65 hr)) (rss_cons (rs_set 3 sc__law_draw.nd (re_dkPop 0 (room1 hr))) (rss_cons (rs_if (rt_cmpP opb_ge 3 (re_bin opd_pow re_int re_int)) (rss_cons (rs_expr (re_dkApp 0 (room1 hr) (re_bin opd_div (re_var 3) (re_callB (cd_maxX (by rfl)) (by rfl) (B.no "max" (by decide)) bt_max (ra_cons re_int (ra_cons (re_var 1) ra_nil)))))) (rss_cons (rs_ret (re_bin opd_mod (re_callTy cd_int (by rfl) (B.no "int" (by decide)) bt_int (ra_cons (re_var 3) ra_nil)) (re_var 1))) rss_nil)) rss_nil) (rss_cons (rs_set 2 sc__law_draw.nd (re_bin opd_add (re_var 2) (re_bin opd_mod (re_callTy cd_int (by rfl) (B.no "int" (by decide)) bt_int (ra_cons (re_var 3) ra_nil)) re_int))) rss_nil))) rss_nil) (rss_cons (rs_set 2 sc__law_draw.nd (re_bin opd_mod (re_callTy cd_int (by rfl) (B.no "int" (by decide)) bt_int (ra_cons (re_bin opd_add (re_bin opd_mul (re_var 2) re_int) re_int) ra_nil)) re_int)) (rss_cons (rs_set 2 sc__law_draw.nd (re_bin opd_mod (re_callTy cd_int (by rfl) (B.no "int" (by decide)) bt_int (ra_cons (re_bin opd_add (re_bin opd_add (re_bin opd_mul (re_var 2) (re_var 2)) (re_bin opd_mul re_int (re_dkDraws 0 (room1 hr)))) re_int) ra_nil)) re_int)) (rss_cons (rs_set 2 sc__law_draw.nd (re_bin opd_mod (re_callTy cd_int (by rfl) (B.no "int" (by decide)) bt_int (ra_cons (re_bin opd_mul (re_var 2) re_int) ra_nil)) re_int)) (rss_cons (rs_ret (re_bin opd_mod (re_callTy cd_int (by rfl) (B.no "int" (by decide)) bt_int (ra_cons (re_bin opd_div (re_var 2) re_int) ra_nil)) (re_var 1))) rss_nil)))))))
abbrev s__law_pick : Stmt := topS 57
abbrev N__law_pick : List Str := ["_law_deck_here", "_law_some"]
theorem sc__law_pick : FnScope N__law_pick ["_law_deck_here", "_law_some"] (defScope s__law_pick) := sc_by (by decide +kernel)
def m__law_pick : MS := (sSeq (sRet (mIxP 1 (mCallFn F__law_draw (cK 0 (cD (mLenP 1) cNil))))) sNx)
def F__law_pick : FF := fAr 2 (fOf 2 m__law_pick)
theorem ok__law_pick (D : DefD K mg "_law_pick" s__law_pick ["_law_deck_here", "_law_some"]) (B : Blt mg) (c__law_draw : CalK P w K mg base tb 1 "_law_draw" F__law_draw ["_law_deck_here", "_law_many"]) : CalK P w K mg base tb 2 "_law_pick" F__law_pick ["_law_deck_here", "_law_some"] :=
  calD D sc__law_pick fun f9 c9 A9 o9 s9 H9 E9 hr => (rss_cons (rs_ret (re_ixP 1 (re_c c__law_draw.c hr (rc_k 0 (rc_d (re_lenP 1 (by rfl) (B.no "len" (by decide))) rc_nil))))) rss_nil)
abbrev s__law_reached : Stmt := topS 58
abbrev N__law_reached : List Str := ["_law_n", "_law_pairs", "_law_steps", "_law_a", "_law_b", "_law_at", "_law_found", "_law_met", "_law_todo", "_law_turn", "_law_near"]
theorem sc__law_reached : FnScope N__law_reached ["_law_n", "_law_pairs"] (defScope s__law_reached) := sc_by (by decide +kernel)
def m__law_reached : MS := (sSeq (sOwn 2 (mLc [5] (mR1 (mVar 0)) (gSet 5) (mr true) (mL (mLc [3, 4] (mItems (mVar 1)) (gTp (gMore (gSet 3) (gMore (gSet 4) gNo))) (m2bP dEq 3 (mVar 5)) (mVar 4))))) (sSeq (sOwn 6 (mLst mNil)) (sSeq (sFor (mR1 (mVar 0)) (gSet 5) (sSeq (sPair 7 8 (mF (mRep (mLst (mCons (mr (PyData.bool false)) mNil)) (mVar 0))) (mF (mCallF dListOf (mCons (mIxP 2 (mVar 5)) mNil)))) (sSeq (sFor (mR1 (mr (PyData.int 120))) (gSet 9) (sSeq (sIf (m2bP dEq 8 (mL (mLst mNil))) (sSeq sBk sNx) sNx) (sSeq (sAsg (mPop 8) (gSet 10)) (sSeq (sIf (mNot (m1b tr (mIxP 7 (mVar 10)))) (sSeq (sPut 7 (mr (PyData.bool true)) (mVar 10)) (sSeq (sDrop (mExt 8 (mIxP 2 (mVar 10)))) sNx)) sNx) sNx)))) (sSeq (sDrop (mApp 6 (mVar 7))) sNx)))) (sSeq (sRet (mVar 6)) sNx))))
def F__law_reached : FF := fAr 2 (fOf 11 m__law_reached)
theorem ok__law_reached (D : DefD K mg "_law_reached" s__law_reached ["_law_n", "_law_pairs"]) (B : Blt mg)  : CalK P w K mg base tb 1 "_law_reached" F__law_reached ["_law_n", "_law_pairs"] :=
  calD D sc__law_reached fun f9 c9 A9 o9 s9 H9 E9 hr => (rss_cons (rs_ownLc (own := [("_law_at", 5)]) 2 (by rfl) sc__law_reached.nd (ri_range1 (by rfl) (B.no "range" (by decide)) (re_var 0)) (blk_by (by kernel_rfl)) (by decide) (fun s9 H9 C9 cl9 fp9 => (rg_name 5 sc__law_reached.nd)) (fun s9 H9 C9 cl9 fp9 => rts_nil) (fun s9 H9 C9 cl9 fp9 => (re_fresh (rf_lc (own := [("_law_a", 3), ("_law_b", 4)]) (by rfl) sc__law_reached.nd (ri_seq (re_var 1)) (blk_by (by kernel_rfl)) (by decide) (fun s9 H9 C9 cl9 fp9 => (rg_pair (by rfl) (rg_name 3 sc__law_reached.nd) (rg_name 4 sc__law_reached.nd))) (fun s9 H9 C9 cl9 fp9 => (rts_one (rt_cmpP (opb_eq (room65 hr)) 3 (re_var 5)))) (fun s9 H9 C9 cl9 fp9 => (re_var 4)))))) (rss_cons (rs_own 6 sc__law_reached.nd (rf_lst ra_nil)) (rss_cons (rs_for PassesOwn.never (by rfl) (ri_range1 (by rfl) (B.no "range" (by decide)) (re_var 0)) (rg_name 5 sc__law_reached.nd) (rss_cons (rs_par 7 8 (by rfl) sc__law_reached.nd (by decide) (rx_f (rf_rep (rf_lst (ra_cons re_bool ra_nil)) (re_var 0))) (rx_f (rf_callTy cf_list (by rfl) (B.no "list" (by decide)) bt_list (ra_cons (re_ixP 2 (re_var 5)) ra_nil)))) (rss_cons (rs_for PassesOwn.never (by rfl) (ri_range1 (by rfl) (B.no "range" (by decide)) re_int) (rg_name 9 sc__law_reached.nd) (rss_cons (rs_if (rt_cmpP (opb_eq (room65 hr)) 8 (re_fresh (rf_lst ra_nil))) (rss_cons rs_break rss_nil) rss_nil) (rss_cons (rs_set 10 sc__law_reached.nd (re_pop 8)) (rss_cons (rs_if (rt_not (rt_val (re_ixP 7 (re_var 10)))) (rss_cons (rs_put 7 sc__law_reached.nd re_bool (re_var 10)) (rss_cons (rs_expr (re_ext 8 (re_ixP 2 (re_var 10)))) rss_nil)) rss_nil) rss_nil)))) (rss_cons (rs_expr (re_app 6 (re_var 7))) rss_nil)))) (rss_cons (rs_ret (re_var 6)) rss_nil))))
abbrev s__law_closed : Stmt := topS 59
abbrev N__law_closed : List Str := ["_law_n", "_law_pairs", "_law_met", "_law_found", "_law_a", "_law_b"]
theorem sc__law_closed : FnScope N__law_closed ["_law_n", "_law_pairs"] (defScope s__law_closed) := sc_by (by decide +kernel)
def m__law_closed : MS := (sSeq (sPair 2 3 (mD (mCallFn F__law_reached (cD (mVar 0) (cD (mVar 1) cNil)))) (mF (mLst mNil))) (sSeq (sFor (mR1 (mVar 0)) (gSet 4) (sSeq (sDrop (mExt 3 (mL (mLc [5] (mR1 (mVar 0)) (gSet 5) (mAnd (m2bP dNe 5 (mVar 4)) (m1b tr (mIx (mIxP 2 (mVar 4)) (mVar 5)))) (mTup (mCons (mVar 4) (mCons (mVar 5) mNil))))))) sNx)) (sSeq (sRet (mTup (mCons (mVar 0) (mCons (m1 dTupOf (mVar 3)) mNil)))) sNx)))
def F__law_closed : FF := fAr 2 (fOf 6 m__law_closed)
theorem ok__law_closed (D : DefD K mg "_law_closed" s__law_closed ["_law_n", "_law_pairs"]) (B : Blt mg) (c__law_reached : CalK P w K mg base tb 1 "_law_reached" F__law_reached ["_law_n", "_law_pairs"]) : CalK P w K mg base tb 2 "_law_closed" F__law_closed ["_law_n", "_law_pairs"] :=
  calD D sc__law_closed fun f9 c9 A9 o9 s9 H9 E9 hr => (rss_cons (rs_parT 2 3 (by rfl) sc__law_closed.nd (rx_d (re_c c__law_reached.c hr (rc_d (re_var 0) (rc_d (re_var 1) rc_nil)))) (rx_f (rf_lst ra_nil))) (rss_cons (rs_for PassesOwn.never (by rfl) (ri_range1 (by rfl) (B.no "range" (by decide)) (re_var 0)) (rg_name 4 sc__law_closed.nd) (rss_cons (rs_expr (re_ext 3 (re_fresh (rf_lc (own := [("_law_b", 5)]) (by rfl) sc__law_closed.nd (ri_range1 (by rfl) (B.no "range" (by decide)) (re_var 0)) (blk_by (by kernel_rfl)) (by decide) (fun s9 H9 C9 cl9 fp9 => (rg_name 5 sc__law_closed.nd)) (fun s9 H9 C9 cl9 fp9 => (rts_one (rt_w (rw_and (rt_cmpP (opb_ne (room65 hr)) 5 (re_var 4)) (rw_and1 (rt_val (re_ix (re_ixP 2 (re_var 4)) (re_var 5)))))))) (fun s9 H9 C9 cl9 fp9 => (re_tup (ra_cons (re_var 4) (ra_cons (re_var 5) ra_nil)))))))) rss_nil)) (rss_cons (rs_ret (re_tup (ra_cons (re_var 0) (ra_cons (re_tupleOf (by rfl) (B.no "tuple" (by decide)) (re_var 3)) ra_nil)))) rss_nil)))
abbrev s__law_under : Stmt := topS 60
abbrev N__law_under : List Str := ["_law_hill_here", "_law_x", "_law_a", "_law_b"]
theorem sc__law_under : FnScope N__law_under ["_law_hill_here", "_law_x"] (defScope s__law_under) := sc_by (by decide +kernel)
def m__law_under : MS := (sSeq (sRet (m1 dTupOf (mL (mCallF dSorted (mCons (mL (mCat (mLst (mCons (mVar 1) mNil)) (mLc [2, 3] (mItems (mIxP 0 (mr (PyData.int 1)))) (gTp (gMore (gSet 2) (gMore (gSet 3) gNo))) (m2bP dEq 3 (mVar 1)) (mVar 2)))) mNil))))) sNx)
def F__law_under : FF := fAr 2 (fOf 4 m__law_under)
theorem ok__law_under (D : DefD K mg "_law_under" s__law_under ["_law_hill_here", "_law_x"]) (B : Blt mg)  : CalK P w K mg base tb 1 "_law_under" F__law_under ["_law_hill_here", "_law_x"] :=
  calD D sc__law_under fun f9 c9 A9 o9 s9 H9 E9 hr => (rss_cons (rs_ret (re_tupleOf (by rfl) (B.no "tuple" (by decide)) (re_fresh (rf_callB (cf_sorted (room2 hr)) (by rfl) (B.no "sorted" (by decide)) bt_sorted (ra_cons (re_fresh (rf_cat (rf_lst (ra_cons (re_var 1) ra_nil)) (rf_lc (own := [("_law_a", 2), ("_law_b", 3)]) (by rfl) sc__law_under.nd (ri_seq (re_ixP 0 re_int)) (blk_by (by kernel_rfl)) (by decide) (fun s9 H9 C9 cl9 fp9 => (rg_pair (by rfl) (rg_name 2 sc__law_under.nd) (rg_name 3 sc__law_under.nd))) (fun s9 H9 C9 cl9 fp9 => (rts_one (rt_cmpP (opb_eq (room65 hr)) 3 (re_var 1)))) (fun s9 H9 C9 cl9 fp9 => (re_var 2))))) ra_nil))))) rss_nil)
abbrev s__law_over : Stmt := topS 61
abbrev N__law_over : List Str := ["_law_hill_here", "_law_x", "_law_a", "_law_b"]
theorem sc__law_over : FnScope N__law_over ["_law_hill_here", "_law_x"] (defScope s__law_over) := sc_by (by decide +kernel)
def m__law_over : MS := (sSeq (sRet (m1 dTupOf (mL (mCallF dSorted (mCons (mL (mCat (mLst (mCons (mVar 1) mNil)) (mLc [2, 3] (mItems (mIxP 0 (mr (PyData.int 1)))) (gTp (gMore (gSet 2) (gMore (gSet 3) gNo))) (m2bP dEq 2 (mVar 1)) (mVar 3)))) mNil))))) sNx)
def F__law_over : FF := fAr 2 (fOf 4 m__law_over)
theorem ok__law_over (D : DefD K mg "_law_over" s__law_over ["_law_hill_here", "_law_x"]) (B : Blt mg)  : CalK P w K mg base tb 1 "_law_over" F__law_over ["_law_hill_here", "_law_x"] :=
  calD D sc__law_over fun f9 c9 A9 o9 s9 H9 E9 hr => (rss_cons (rs_ret (re_tupleOf (by rfl) (B.no "tuple" (by decide)) (re_fresh (rf_callB (cf_sorted (room2 hr)) (by rfl) (B.no "sorted" (by decide)) bt_sorted (ra_cons (re_fresh (rf_cat (rf_lst (ra_cons (re_var 1) ra_nil)) (rf_lc (own := [("_law_a", 2), ("_law_b", 3)]) (by rfl) sc__law_over.nd (ri_seq (re_ixP 0 re_int)) (blk_by (by kernel_rfl)) (by decide) (fun s9 H9 C9 cl9 fp9 => (rg_pair (by rfl) (rg_name 2 sc__law_over.nd) (rg_name 3 sc__law_over.nd))) (fun s9 H9 C9 cl9 fp9 => (rts_one (rt_cmpP (opb_eq (room65 hr)) 2 (re_var 1)))) (fun s9 H9 C9 cl9 fp9 => (re_var 3))))) ra_nil))))) rss_nil)
abbrev s__law_closure : Stmt := topS 62
abbrev N__law_closure : List Str := ["_law_hill_here", "_law_lot", "_law_downwards", "_law_found", "_law_x", "_law_y"]
theorem sc__law_closure : FnScope N__law_closure ["_law_hill_here", "_law_lot", "_law_downwards"] (defScope s__law_closure) := sc_by (by decide +kernel)
def m__law_closure : MS := (sSeq (sOwnO 3 (mr (OD.k []))) (sSeq (sFor (mItems (mVar 1)) (gSet 4) (sSeq (sFor (mItems (mIf (mTruP 2) (mCallFn F__law_under (cD (mVar 0) (cD (mVar 4) cNil))) (mCallFn F__law_over (cD (mVar 0) (cD (mVar 4) cNil))))) (gSet 5) (sSeq (sDPut 3 (mr (PyData.bool true)) (mVar 5)) sNx)) sNx)) (sSeq (sRet (m1 dTupOf (mL (mSortD 3)))) sNx)))
def F__law_closure : FF := fAr 3 (fOf 6 m__law_closure)
theorem ok__law_closure (D : DefD K mg "_law_closure" s__law_closure ["_law_hill_here", "_law_lot", "_law_downwards"]) (B : Blt mg) (c__law_under : CalK P w K mg base tb 1 "_law_under" F__law_under ["_law_hill_here", "_law_x"]) (c__law_over : CalK P w K mg base tb 1 "_law_over" F__law_over ["_law_hill_here", "_law_x"]) : CalK P w K mg base tb 2 "_law_closure" F__law_closure ["_law_hill_here", "_law_lot", "_law_downwards"] :=
  calD D sc__law_closure fun f9 c9 A9 o9 s9 H9 E9 hr => (rss_cons (rs_ownO 3 sc__law_closure.nd ro_k) (rss_cons (rs_for PassesOwn.never (by rfl) (ri_seq (re_var 1)) (rg_name 4 sc__law_closure.nd) (rss_cons (rs_for PassesOwn.never (by rfl) (ri_seq (re_if (rt_varP 2) (re_c c__law_under.c hr (rc_d (re_var 0) (rc_d (re_var 4) rc_nil))) (re_c c__law_over.c hr (rc_d (re_var 0) (rc_d (re_var 4) rc_nil))))) (rg_name 5 sc__law_closure.nd) (rss_cons (rs_dput 3 (room1 hr) re_bool (re_var 5)) rss_nil)) rss_nil)) (rss_cons (rs_ret (re_tupleOf (by rfl) (B.no "tuple" (by decide)) (re_fresh (rf_sortD 3 (room2 hr) (by rfl) (by rfl) (B.no "sorted" (by decide)))))) rss_nil)))
abbrev s__law_order : Stmt := topS 63
abbrev N__law_order : List Str := ["_law_deck_here", "_law_n", "_law_left", "_law_found", "_law_turn"]
theorem sc__law_order : FnScope N__law_order ["_law_deck_here", "_law_n"] (defScope s__law_order) := sc_by (by decide +kernel)
def m__law_order : MS := (sSeq (sPair 2 3 (mF (mRg1 (mVar 1))) (mF (mLst mNil))) (sSeq (sFor (mR1 (mVar 1)) (gSet 4) (sSeq (sDrop (mApp 3 (mPopAt 2 (mCallFn F__law_draw (cK 0 (cD (mLenP 2) cNil)))))) sNx)) (sSeq (sRet (m1 dTupOf (mVar 3))) sNx)))
def F__law_order : FF := fAr 2 (fOf 5 m__law_order)
theorem ok__law_order (D : DefD K mg "_law_order" s__law_order ["_law_deck_here", "_law_n"]) (B : Blt mg) (c__law_draw : CalK P w K mg base tb 1 "_law_draw" F__law_draw ["_law_deck_here", "_law_many"]) : CalK P w K mg base tb 2 "_law_order" F__law_order ["_law_deck_here", "_law_n"] :=
  calD D sc__law_order fun f9 c9 A9 o9 s9 H9 E9 hr => (rss_cons (rs_par 2 3 (by rfl) sc__law_order.nd (by decide) (rx_f (rf_listRg1 (by rfl) (by rfl) (B.no "list" (by decide)) (by rfl) (B.no "range" (by decide)) (re_var 1))) (rx_f (rf_lst ra_nil))) (rss_cons (rs_for PassesOwn.never (by rfl) (ri_range1 (by rfl) (B.no "range" (by decide)) (re_var 1)) (rg_name 4 sc__law_order.nd) (rss_cons (rs_expr (re_app 3 (re_popAt 2 (re_c c__law_draw.c hr (rc_k 0 (rc_d (re_lenP 2 (by rfl) (B.no "len" (by decide))) rc_nil)))))) rss_nil)) (rss_cons (rs_ret (re_tupleOf (by rfl) (B.no "tuple" (by decide)) (re_var 3))) rss_nil)))
abbrev s__law_led : Stmt := topS 64
abbrev N__law_led : List Str := ["_law_hill_here", "_law_order_here", "_law_a", "_law_b"]
theorem sc__law_led : FnScope N__law_led ["_law_hill_here", "_law_order_here"] (defScope s__law_led) := sc_by (by decide +kernel)
def m__law_led : MS := (sSeq (sRet (mTup (mCons (mIxP 0 (mr (PyData.int 0))) (mCons (m1 dTupOf (mL (mCallF dSorted (mCons (mL (mLc [2, 3] (mItems (mIxP 0 (mr (PyData.int 1)))) (gTp (gMore (gSet 2) (gMore (gSet 3) gNo))) (mr true) (mTup (mCons (mIxP 1 (mVar 2)) (mCons (mIxP 1 (mVar 3)) mNil))))) mNil)))) mNil)))) sNx)
def F__law_led : FF := fAr 2 (fOf 4 m__law_led)
theorem ok__law_led (D : DefD K mg "_law_led" s__law_led ["_law_hill_here", "_law_order_here"]) (B : Blt mg)  : CalK P w K mg base tb 1 "_law_led" F__law_led ["_law_hill_here", "_law_order_here"] :=
  calD D sc__law_led fun f9 c9 A9 o9 s9 H9 E9 hr => (rss_cons (rs_ret (re_tup (ra_cons (re_ixP 0 re_int) (ra_cons (re_tupleOf (by rfl) (B.no "tuple" (by decide)) (re_fresh (rf_callB (cf_sorted (room2 hr)) (by rfl) (B.no "sorted" (by decide)) bt_sorted (ra_cons (re_fresh (rf_lc (own := [("_law_a", 2), ("_law_b", 3)]) (by rfl) sc__law_led.nd (ri_seq (re_ixP 0 re_int)) (blk_by (by kernel_rfl)) (by decide) (fun s9 H9 C9 cl9 fp9 => (rg_pair (by rfl) (rg_name 2 sc__law_led.nd) (rg_name 3 sc__law_led.nd))) (fun s9 H9 C9 cl9 fp9 => rts_nil) (fun s9 H9 C9 cl9 fp9 => (re_tup (ra_cons (re_ixP 1 (re_var 2)) (ra_cons (re_ixP 1 (re_var 3)) ra_nil)))))) ra_nil)))) ra_nil)))) rss_nil)
abbrev s__law_hill : Stmt := topS 65
abbrev N__law_hill : List Str := ["_law_deck_here", "_law_n", "_law_way", "_law_pairs", "_law_turn", "_law_pair", "_law_at", "_law_low", "_law_a", "_law_b", "_law_size", "_law_wide", "_law_part", "_law_hill_here"]
theorem sc__law_hill : FnScope N__law_hill ["_law_deck_here", "_law_n"] (defScope s__law_hill) := sc_by (by decide +kernel)
def m__law_hill : MS := (sSeq (sPair 2 3 (mD (mCallFn F__law_draw (cK 0 (cD (mr (PyData.int 9)) cNil)))) (mF (mLst mNil))) (sSeq (sIf (m2bP dLt 2 (mr (PyData.int 2))) (sSeq (sOwn 3 (mLc [4] (mR1 (mCallFn F__law_draw (cK 0 (cD (m2 dMul (mr (PyData.int 2)) (mVar 1)) cNil)))) (gSet 4) (mr true) (mTup (mCons (mCallFn F__law_draw (cK 0 (cD (mVar 1) cNil))) (mCons (mCallFn F__law_draw (cK 0 (cD (mVar 1) cNil))) mNil))))) (sSeq (sIf (m2bP dEq 2 (mr (PyData.int 1))) (sSeq (sOwn 3 (mLc [5] (mItems (mVar 3)) (gSet 5) (mr true) (mTup (mCons (mCall dMinX (mCons (mVar 5) mNil)) (mCons (mCall dMaxX (mCons (mVar 5) mNil)) mNil))))) sNx) sNx) sNx)) (sSeq (sIf (m2bP dEq 2 (mr (PyData.int 2))) (sSeq (sOwn 3 (mLc [6] (mR1 (m2 dSub (mVar 1) (mr (PyData.int 1)))) (gSet 6) (mr true) (mTup (mCons (mVar 6) (mCons (m2 dAdd (mVar 6) (mr (PyData.int 1))) mNil))))) sNx) (sSeq (sIf (m2bP dEq 2 (mr (PyData.int 3))) (sSeq (sOwn 3 (mLc [6] (mR1 (m2 dSub (mVar 1) (mr (PyData.int 1)))) (gSet 6) (m2b dGt (mCallFn F__law_draw (cK 0 (cD (mr (PyData.int 4)) cNil))) (mr (PyData.int 0))) (mTup (mCons (mVar 6) (mCons (m2 dAdd (m2 dAdd (mVar 6) (mr (PyData.int 1))) (mCallFn F__law_draw (cK 0 (cD (m2 dSub (m2 dSub (mVar 1) (mVar 6)) (mr (PyData.int 1))) cNil)))) mNil))))) sNx) (sSeq (sIf (m2bP dEq 2 (mr (PyData.int 4))) (sSeq (sAsg (m2 dAdd (mr (PyData.int 1)) (mCallFn F__law_draw (cK 0 (cD (mVar 1) cNil)))) (gSet 7)) (sSeq (sFor (mR1 (mVar 7)) (gSet 8) (sSeq (sDrop (mExt 3 (mL (mLc [9] (mR2 (mVar 7) (mVar 1)) (gSet 9) (m2b dGt (mCallFn F__law_draw (cK 0 (cD (mr (PyData.int 3)) cNil))) (mr (PyData.int 0))) (mTup (mCons (mVar 8) (mCons (mVar 9) mNil))))))) sNx)) sNx)) (sSeq (sIf (m2bP dEq 2 (mr (PyData.int 5))) (sSeq (sAsg (m2 dAdd (mr (PyData.int 1)) (mCallFn F__law_draw (cK 0 (cD (mr (PyData.int 3)) cNil)))) (gSet 10)) (sSeq (sOwn 3 (mLc [6] (mR2 (mr (PyData.int 1)) (mVar 1)) (gSet 6) (m2b dGt (m2 dMod (mCall dInt (mCons (mVar 6) mNil)) (m2 dAdd (mVar 10) (mr (PyData.int 1)))) (mr (PyData.int 0))) (mTup (mCons (mVar 6) (mCons (m2 dSub (mVar 6) (mr (PyData.int 1))) mNil))))) (sSeq (sDrop (mExt 3 (mL (mLc [6] (mR2 (mr (PyData.int 1)) (mVar 1)) (gSet 6) (m2b dGt (mCallFn F__law_draw (cK 0 (cD (mr (PyData.int 3)) cNil))) (mr (PyData.int 0))) (mTup (mCons (m2 dSub (mVar 6) (mr (PyData.int 1))) (mCons (mVar 6) mNil))))))) sNx))) (sSeq (sIf (m2bP dEq 2 (mr (PyData.int 6))) (sSeq (sAsg (m2 dAdd (mr (PyData.int 2)) (mCallFn F__law_draw (cK 0 (cD (mr (PyData.int 2)) cNil)))) (gSet 11)) (sSeq (sOwn 3 (mCat (mLc [6] (mR1 (m2 dSub (mVar 1) (mr (PyData.int 1)))) (gSet 6) (m2b dGt (m2 dMod (mCall dInt (mCons (m2 dAdd (mVar 6) (mr (PyData.int 1))) mNil)) (mVar 11)) (mr (PyData.int 0))) (mTup (mCons (mVar 6) (mCons (m2 dAdd (mVar 6) (mr (PyData.int 1))) mNil)))) (mLc [6] (mR1 (m2 dSub (mVar 1) (mVar 11))) (gSet 6) (mr true) (mTup (mCons (mVar 6) (mCons (m2 dAdd (mVar 6) (mVar 11)) mNil)))))) sNx)) (sSeq (sIf (m2bP dEq 2 (mr (PyData.int 7))) (sSeq (sAsg (mCallFn F__law_draw (cK 0 (cD (m2 dAdd (mVar 1) (mr (PyData.int 1))) cNil))) (gSet 12)) (sSeq (sOwn 3 (mLc [6] (mR1 (m2 dSub (mVar 1) (mr (PyData.int 1)))) (gSet 6) (m2b dNe (m2 dAdd (mVar 6) (mr (PyData.int 1))) (mVar 12)) (mTup (mCons (mVar 6) (mCons (m2 dAdd (mVar 6) (mr (PyData.int 1))) mNil))))) sNx)) sNx) sNx)) sNx)) sNx)) sNx)) sNx)) sNx)) (sSeq (sAsg (mCallFn F__law_closed (cD (mVar 1) (cD (mL (mLc [5] (mItems (mVar 3)) (gSet 5) (m2b dNe (mIxP 5 (mr (PyData.int 0))) (mIxP 5 (mr (PyData.int 1)))) (mVar 5))) cNil))) (gSet 13)) (sSeq (sRet (mIf (m2b dEq (mCallFn F__law_draw (cK 0 (cD (mr (PyData.int 3)) cNil))) (mr (PyData.int 0))) (mVar 13) (mCallFn F__law_led (cD (mVar 13) (cD (mCallFn F__law_order (cK 0 (cD (mVar 1) cNil))) cNil))))) sNx))))
def F__law_hill : FF := fAr 2 (fOf 14 m__law_hill)
theorem ok__law_hill (D : DefD K mg "_law_hill" s__law_hill ["_law_deck_here", "_law_n"]) (B : Blt mg) (c__law_draw : CalK P w K mg base tb 1 "_law_draw" F__law_draw ["_law_deck_here", "_law_many"]) (c__law_led : CalK P w K mg base tb 1 "_law_led" F__law_led ["_law_hill_here", "_law_order_here"]) (c__law_order : CalK P w K mg base tb 2 "_law_order" F__law_order ["_law_deck_here", "_law_n"]) (c__law_closed : CalK P w K mg base tb 2 "_law_closed" F__law_closed ["_law_n", "_law_pairs"]) : CalK P w K mg base tb 3 "_law_hill" F__law_hill ["_law_deck_here", "_law_n"] :=
  calD D sc__law_hill fun f9 c9 A9 o9 s9 H9 E9 hr => (rss_cons (rs_par 2 3 (by rfl) sc__law_hill.nd (by decide) (rx_d (re_c c__law_draw.c hr (rc_k 0 (rc_d re_int rc_nil)))) (rx_f (rf_lst ra_nil))) (rss_cons (rs_if (rt_cmpP (opb_lt (room0 hr)) 2 re_int) (rss_cons (rs_ownLc (own := [("_law_turn", 4)]) 3 (by rfl) sc__law_hill.nd (ri_range1 (by rfl) (B.no "range" (by decide)) (re_c c__law_draw.c hr (rc_k 0 (rc_d (re_bin opd_mul re_int (re_var 1)) rc_nil)))) (blk_by (by kernel_rfl)) (by decide) (fun s9 H9 C9 cl9 fp9 => (rg_name 4 sc__law_hill.nd)) (fun s9 H9 C9 cl9 fp9 => rts_nil) (fun s9 H9 C9 cl9 fp9 => (re_tup (ra_cons (re_c c__law_draw.c hr (rc_k 0 (rc_d (re_var 1) rc_nil))) (ra_cons (re_c c__law_draw.c hr (rc_k 0 (rc_d (re_var 1) rc_nil))) ra_nil))))) (rss_cons (rs_if (rt_cmpP (opb_eq (room65 hr)) 2 re_int) (rss_cons (rs_ownLc (own := [("_law_pair", 5)]) 3 (by rfl) sc__law_hill.nd (ri_seq (re_var 3)) (blk_by (by kernel_rfl)) (by decide) (fun s9 H9 C9 cl9 fp9 => (rg_name 5 sc__law_hill.nd)) (fun s9 H9 C9 cl9 fp9 => rts_nil) (fun s9 H9 C9 cl9 fp9 => (re_tup (ra_cons (re_callB (cd_minX (by rfl)) (by rfl) (B.no "min" (by decide)) bt_min (ra_cons (re_var 5) ra_nil)) (ra_cons (re_callB (cd_maxX (by rfl)) (by rfl) (B.no "max" (by decide)) bt_max (ra_cons (re_var 5) ra_nil)) ra_nil))))) rss_nil) rss_nil) rss_nil)) (rss_cons (rs_if (rt_cmpP (opb_eq (room65 hr)) 2 re_int) (rss_cons (rs_ownLc (own := [("_law_at", 6)]) 3 (by rfl) sc__law_hill.nd (ri_range1 (by rfl) (B.no "range" (by decide)) (re_bin opd_sub (re_var 1) re_int)) (blk_by (by kernel_rfl)) (by decide) (fun s9 H9 C9 cl9 fp9 => (rg_name 6 sc__law_hill.nd)) (fun s9 H9 C9 cl9 fp9 => rts_nil) (fun s9 H9 C9 cl9 fp9 => (re_tup (ra_cons (re_var 6) (ra_cons (re_bin opd_add (re_var 6) re_int) ra_nil))))) rss_nil) (rss_cons (rs_if (rt_cmpP (opb_eq (room65 hr)) 2 re_int) (rss_cons (rs_ownLc (own := [("_law_at", 6)]) 3 (by rfl) sc__law_hill.nd (ri_range1 (by rfl) (B.no "range" (by decide)) (re_bin opd_sub (re_var 1) re_int)) (blk_by (by kernel_rfl)) (by decide) (fun s9 H9 C9 cl9 fp9 => (rg_name 6 sc__law_hill.nd)) (fun s9 H9 C9 cl9 fp9 => (rts_one (rt_cmp opb_gt (re_c c__law_draw.c hr (rc_k 0 (rc_d re_int rc_nil))) re_int))) (fun s9 H9 C9 cl9 fp9 => (re_tup (ra_cons (re_var 6) (ra_cons (re_bin opd_add (re_bin opd_add (re_var 6) re_int) (re_c c__law_draw.c hr (rc_k 0 (rc_d (re_bin opd_sub (re_bin opd_sub (re_var 1) (re_var 6)) re_int) rc_nil)))) ra_nil))))) rss_nil) (rss_cons (rs_if (rt_cmpP (opb_eq (room65 hr)) 2 re_int) (rss_cons (rs_set 7 sc__law_hill.nd (re_bin opd_add re_int (re_c c__law_draw.c hr (rc_k 0 (rc_d (re_var 1) rc_nil))))) (rss_cons (rs_for PassesOwn.never (by rfl) (ri_range1 (by rfl) (B.no "range" (by decide)) (re_var 7)) (rg_name 8 sc__law_hill.nd) (rss_cons (rs_expr (re_ext 3 (re_fresh (rf_lc (own := [("_law_b", 9)]) (by rfl) sc__law_hill.nd (ri_range2 (by rfl) (B.no "range" (by decide)) (re_var 7) (re_var 1)) (blk_by (by kernel_rfl)) (by decide) (fun s9 H9 C9 cl9 fp9 => (rg_name 9 sc__law_hill.nd)) (fun s9 H9 C9 cl9 fp9 => (rts_one (rt_cmp opb_gt (re_c c__law_draw.c hr (rc_k 0 (rc_d re_int rc_nil))) re_int))) (fun s9 H9 C9 cl9 fp9 => (re_tup (ra_cons (re_var 8) (ra_cons (re_var 9) ra_nil)))))))) rss_nil)) rss_nil)) (rss_cons (rs_if (rt_cmpP (opb_eq (room65 hr)) 2 re_int) (rss_cons (rs_set 10 sc__law_hill.nd (re_bin opd_add re_int (re_c c__law_draw.c hr (rc_k 0 (rc_d re_int rc_nil))))) (rss_cons (rs_ownLc (own := [("_law_at", 6)]) 3 (by rfl) sc__law_hill.nd (ri_range2 (by rfl) (B.no "range" (by decide)) re_int (re_var 1)) (blk_by (by kernel_rfl)) (by decide) (fun s9 H9 C9 cl9 fp9 => (rg_name 6 sc__law_hill.nd)) (fun s9 H9 C9 cl9 fp9 => (rts_one (rt_cmp opb_gt (re_bin opd_mod (re_callTy cd_int (by rfl) (B.no "int" (by decide)) bt_int (ra_cons (re_var 6) ra_nil)) (re_bin opd_add (re_var 10) re_int)) re_int))) (fun s9 H9 C9 cl9 fp9 => (re_tup (ra_cons (re_var 6) (ra_cons (re_bin opd_sub (re_var 6) re_int) ra_nil))))) (rss_cons (rs_expr (re_ext 3 (re_fresh (rf_lc (own := [("_law_at", 6)]) (by rfl) sc__law_hill.nd (ri_range2 (by rfl) (B.no "range" (by decide)) re_int (re_var 1)) (blk_by (by kernel_rfl)) (by decide) (fun s9 H9 C9 cl9 fp9 => (rg_name 6 sc__law_hill.nd)) (fun s9 H9 C9 cl9 fp9 => (rts_one (rt_cmp opb_gt (re_c c__law_draw.c hr (rc_k 0 (rc_d re_int rc_nil))) re_int))) (fun s9 H9 C9 cl9 fp9 => (re_tup (ra_cons (re_bin opd_sub (re_var 6) re_int) (ra_cons (re_var 6) ra_nil)))))))) rss_nil))) (rss_cons (rs_if (rt_cmpP (opb_eq (room65 hr)) 2 re_int) (rss_cons (rs_set 11 sc__law_hill.nd (re_bin opd_add re_int (re_c c__law_draw.c hr (rc_k 0 (rc_d re_int rc_nil))))) (rss_cons (rs_own 3 sc__law_hill.nd (rf_cat (rf_lc (own := [("_law_at", 6)]) (by rfl) sc__law_hill.nd (ri_range1 (by rfl) (B.no "range" (by decide)) (re_bin opd_sub (re_var 1) re_int)) (blk_by (by kernel_rfl)) (by decide) (fun s9 H9 C9 cl9 fp9 => (rg_name 6 sc__law_hill.nd)) (fun s9 H9 C9 cl9 fp9 => (rts_one (rt_cmp opb_gt (re_bin opd_mod (re_callTy cd_int (by rfl) (B.no "int" (by decide)) bt_int (ra_cons (re_bin opd_add (re_var 6) re_int) ra_nil)) (re_var 11)) re_int))) (fun s9 H9 C9 cl9 fp9 => (re_tup (ra_cons (re_var 6) (ra_cons (re_bin opd_add (re_var 6) re_int) ra_nil))))) (rf_lc (own := [("_law_at", 6)]) (by rfl) sc__law_hill.nd (ri_range1 (by rfl) (B.no "range" (by decide)) (re_bin opd_sub (re_var 1) (re_var 11))) (blk_by (by kernel_rfl)) (by decide) (fun s9 H9 C9 cl9 fp9 => (rg_name 6 sc__law_hill.nd)) (fun s9 H9 C9 cl9 fp9 => rts_nil) (fun s9 H9 C9 cl9 fp9 => (re_tup (ra_cons (re_var 6) (ra_cons (re_bin opd_add (re_var 6) (re_var 11)) ra_nil))))))) rss_nil)) (rss_cons (rs_if (rt_cmpP (opb_eq (room65 hr)) 2 re_int) (rss_cons (rs_set 12 sc__law_hill.nd (re_c c__law_draw.c hr (rc_k 0 (rc_d (re_bin opd_add (re_var 1) re_int) rc_nil)))) (rss_cons (rs_ownLc (own := [("_law_at", 6)]) 3 (by rfl) sc__law_hill.nd (ri_range1 (by rfl) (B.no "range" (by decide)) (re_bin opd_sub (re_var 1) re_int)) (blk_by (by kernel_rfl)) (by decide) (fun s9 H9 C9 cl9 fp9 => (rg_name 6 sc__law_hill.nd)) (fun s9 H9 C9 cl9 fp9 => (rts_one (rt_cmp (opb_ne (room65 hr)) (re_bin opd_add (re_var 6) re_int) (re_var 12)))) (fun s9 H9 C9 cl9 fp9 => (re_tup (ra_cons (re_var 6) (ra_cons (re_bin opd_add (re_var 6) re_int) ra_nil))))) rss_nil)) rss_nil) rss_nil)) rss_nil)) rss_nil)) rss_nil)) rss_nil)) rss_nil)) (rss_cons (rs_set 13 sc__law_hill.nd (re_c c__law_closed.c hr (rc_d (re_var 1) (rc_d (re_fresh (rf_lc (own := [("_law_pair", 5)]) (by rfl) sc__law_hill.nd (ri_seq (re_var 3)) (blk_by (by kernel_rfl)) (by decide) (fun s9 H9 C9 cl9 fp9 => (rg_name 5 sc__law_hill.nd)) (fun s9 H9 C9 cl9 fp9 => (rts_one (rt_cmp (opb_ne (room65 hr)) (re_ixP 5 re_int) (re_ixP 5 re_int)))) (fun s9 H9 C9 cl9 fp9 => (re_var 5)))) rc_nil)))) (rss_cons (rs_ret (re_if (rt_cmp (opb_eq (room65 hr)) (re_c c__law_draw.c hr (rc_k 0 (rc_d re_int rc_nil))) re_int) (re_var 13) (re_c c__law_led.c hr (rc_d (re_var 13) (rc_d (re_c c__law_order.c hr (rc_k 0 (rc_d (re_var 1) rc_nil))) rc_nil))))) rss_nil))))
abbrev s__law_water : Stmt := topS 66
abbrev N__law_water : List Str := ["_law_deck_here", "_law_hill_here", "_law_x"]
theorem sc__law_water : FnScope N__law_water ["_law_deck_here", "_law_hill_here"] (defScope s__law_water) := sc_by (by decide +kernel)
def m__law_water : MS := (sSeq (sRet (mCallFn F__law_closure (cD (mVar 1) (cD (m1 dTupOf (mL (mLc [2] (mR1 (mIxP 1 (mr (PyData.int 0)))) (gSet 2) (m2b dEq (mCallFn F__law_draw (cK 0 (cD (mr (PyData.int 3)) cNil))) (mr (PyData.int 0))) (mVar 2)))) (cD (mr (PyData.bool true)) cNil))))) sNx)
def F__law_water : FF := fAr 2 (fOf 3 m__law_water)
theorem ok__law_water (D : DefD K mg "_law_water" s__law_water ["_law_deck_here", "_law_hill_here"]) (B : Blt mg) (c__law_closure : CalK P w K mg base tb 2 "_law_closure" F__law_closure ["_law_hill_here", "_law_lot", "_law_downwards"]) (c__law_draw : CalK P w K mg base tb 1 "_law_draw" F__law_draw ["_law_deck_here", "_law_many"]) : CalK P w K mg base tb 3 "_law_water" F__law_water ["_law_deck_here", "_law_hill_here"] :=
  calD D sc__law_water fun f9 c9 A9 o9 s9 H9 E9 hr => (rss_cons (rs_ret (re_c c__law_closure.c hr (rc_d (re_var 1) (rc_d (re_tupleOf (by rfl) (B.no "tuple" (by decide)) (re_fresh (rf_lc (own := [("_law_x", 2)]) (by rfl) sc__law_water.nd (ri_range1 (by rfl) (B.no "range" (by decide)) (re_ixP 1 re_int)) (blk_by (by kernel_rfl)) (by decide) (fun s9 H9 C9 cl9 fp9 => (rg_name 2 sc__law_water.nd)) (fun s9 H9 C9 cl9 fp9 => (rts_one (rt_cmp (opb_eq (room65 hr)) (re_c c__law_draw.c hr (rc_k 0 (rc_d re_int rc_nil))) re_int))) (fun s9 H9 C9 cl9 fp9 => (re_var 2))))) (rc_d re_bool rc_nil))))) rss_nil)
abbrev s__law_script : Stmt := topS 67
abbrev N__law_script : List Str := ["_law_deck_here", "_law_n", "_law_most", "_law_turn"]
theorem sc__law_script : FnScope N__law_script ["_law_deck_here", "_law_n", "_law_most"] (defScope s__law_script) := sc_by (by decide +kernel)
def m__law_script : MS := (sSeq (sRet (m1 dTupOf (mL (mLc [3] (mR1 (mCallFn F__law_draw (cK 0 (cD (m2 dAdd (mVar 2) (mr (PyData.int 1))) cNil)))) (gSet 3) (mr true) (mTup (mCons (mCallFn F__law_pick (cK 0 (cD (mTup (mCons (mr (PyData.str "pour")) (mCons (mr (PyData.str "open")) mNil))) cNil))) (mCons (mCallFn F__law_draw (cK 0 (cD (mVar 1) cNil))) mNil))))))) sNx)
def F__law_script : FF := fAr 3 (fOf 4 m__law_script)
theorem ok__law_script (D : DefD K mg "_law_script" s__law_script ["_law_deck_here", "_law_n", "_law_most"]) (B : Blt mg) (c__law_draw : CalK P w K mg base tb 1 "_law_draw" F__law_draw ["_law_deck_here", "_law_many"]) (c__law_pick : CalK P w K mg base tb 2 "_law_pick" F__law_pick ["_law_deck_here", "_law_some"]) : CalK P w K mg base tb 3 "_law_script" F__law_script ["_law_deck_here", "_law_n", "_law_most"] :=
  calD D sc__law_script fun f9 c9 A9 o9 s9 H9 E9 hr => (rss_cons (rs_ret (re_tupleOf (by rfl) (B.no "tuple" (by decide)) (re_fresh (rf_lc (own := [("_law_turn", 3)]) (by rfl) sc__law_script.nd (ri_range1 (by rfl) (B.no "range" (by decide)) (re_c c__law_draw.c hr (rc_k 0 (rc_d (re_bin opd_add (re_var 2) re_int) rc_nil)))) (blk_by (by kernel_rfl)) (by decide) (fun s9 H9 C9 cl9 fp9 => (rg_name 3 sc__law_script.nd)) (fun s9 H9 C9 cl9 fp9 => rts_nil) (fun s9 H9 C9 cl9 fp9 => (re_tup (ra_cons (re_c c__law_pick.c hr (rc_k 0 (rc_d (re_tup (ra_cons re_str (ra_cons re_str ra_nil))) rc_nil))) (ra_cons (re_c c__law_draw.c hr (rc_k 0 (rc_d (re_var 1) rc_nil))) ra_nil)))))))) rss_nil)
abbrev s__law_sought : Stmt := topS 68
abbrev N__law_sought : List Str := ["_law_hill_here", "_law_script_here", "_law_x", "_law_at", "_law_word", "_law_y"]
theorem sc__law_sought : FnScope N__law_sought ["_law_hill_here", "_law_script_here", "_law_x"] (defScope s__law_sought) := sc_by (by decide +kernel)
def m__law_sought : MS := (sSeq (sFor (mR3 (m2 dSub (mLenP 1) (mr (PyData.int 1))) (m1 dNeg (mr (PyData.int 1))) (m1 dNeg (mr (PyData.int 1)))) (gSet 3) (sSeq (sAsg (mIxP 1 (mVar 3)) (gTp (gMore (gSet 4) (gMore (gSet 5) gNo)))) (sSeq (sIf (mOr (m2bP dEq 2 (mVar 5)) (m2b dIn (mIf (m2bP dEq 4 (mr (PyData.str "pour"))) (mTup (mCons (mVar 2) (mCons (mVar 5) mNil))) (mTup (mCons (mVar 5) (mCons (mVar 2) mNil)))) (mIxP 0 (mr (PyData.int 1))))) (sSeq (sRet (mVar 3)) sNx) sNx) sNx))) (sSeq (sRet (mr PyData.none)) sNx))
def F__law_sought : FF := fAr 3 (fOf 6 m__law_sought)
theorem ok__law_sought (D : DefD K mg "_law_sought" s__law_sought ["_law_hill_here", "_law_script_here", "_law_x"]) (B : Blt mg)  : CalK P w K mg base tb 1 "_law_sought" F__law_sought ["_law_hill_here", "_law_script_here", "_law_x"] :=
  calD D sc__law_sought fun f9 c9 A9 o9 s9 H9 E9 hr => (rss_cons (rs_for PassesOwn.never (by rfl) (ri_range3 (by rfl) (B.no "range" (by decide)) (re_bin opd_sub (re_lenP 1 (by rfl) (B.no "len" (by decide))) re_int) (re_un und_neg re_int) (re_un und_neg re_int)) (rg_name 3 sc__law_sought.nd) (rss_cons (rs_asg (re_ixP 1 (re_var 3)) (rg_pair (by rfl) (rg_name 4 sc__law_sought.nd) (rg_name 5 sc__law_sought.nd))) (rss_cons (rs_if (rt_w (rw_or (rt_cmpP (opb_eq (room65 hr)) 2 (re_var 5)) (rw_or1 (rt_cmp (opb_in (room65 hr)) (re_if (rt_cmpP (opb_eq (room65 hr)) 4 re_str) (re_tup (ra_cons (re_var 2) (ra_cons (re_var 5) ra_nil))) (re_tup (ra_cons (re_var 5) (ra_cons (re_var 2) ra_nil)))) (re_ixP 0 re_int))))) (rss_cons (rs_ret (re_var 3)) rss_nil) rss_nil) rss_nil))) (rss_cons (rs_ret re_none) rss_nil))
abbrev s__law_is_place_right : Stmt := topS 69
abbrev N__law_is_place_right : List Str := ["_law_deck_here", "_law_hill_here", "_law_script_here", "_law_couple", "_law_x", "_law_due", "_law_word", "_law_water_here", "_law_at"]
theorem sc__law_is_place_right : FnScope N__law_is_place_right ["_law_deck_here", "_law_hill_here", "_law_script_here", "_law_couple", "_law_x"] (defScope s__law_is_place_right) := sc_by (by decide +kernel)
def m__law_is_place_right : MS := (sSeq (sAsg (mCallFn F__law_sought (cD (mVar 1) (cD (mVar 2) (cD (mVar 4) cNil)))) (gSet 5)) (sSeq (sIf (m2b dNe (mCall dRepr (mCons (mTup (mCons (mCallFn F_last_reaching (cD (mVar 1) (cD (mVar 2) (cD (mVar 4) cNil)))) (mCons (mCallFn (fRev F_last_reaching) (cD (mVar 4) (cD (mVar 2) (cD (mVar 1) cNil)))) mNil))) mNil)) (mCall dRepr (mCons (mTup (mCons (mVar 5) (mCons (mVar 5) mNil))) mNil))) (sSeq (sRet (mr (PyData.bool false))) sNx) sNx) (sSeq (sAsg (mIf (m2bP dIs 5 (mr PyData.none)) (mr PyData.none) (mIx (mIxP 2 (mVar 5)) (mr (PyData.int 0)))) (gSet 6)) (sSeq (sIf (m2b dNe (mTup (mCons (mB (m2bP dIn 4 (mIxP 3 (mr (PyData.int 0))))) (mCons (mB (m2bP dIn 4 (mIxP 3 (mr (PyData.int 1))))) mNil))) (mTup (mCons (mB (m2bP dEq 6 (mr (PyData.str "pour")))) (mCons (mB (m2bP dEq 6 (mr (PyData.str "open")))) mNil)))) (sSeq (sRet (mr (PyData.bool false))) sNx) sNx) (sSeq (sAsg (mCallFn F__law_water (cK 0 (cD (mVar 1) cNil))) (gSet 7)) (sSeq (sIf (m2bP dIs 5 (mr PyData.none)) (sSeq (sRet (mB (m2b dEq (mB (m2bP dIn 4 (mCallFn F_run (cD (mVar 1) (cD (mVar 7) (cD (mVar 2) cNil)))))) (mB (m2bP dIn 4 (mVar 7)))))) sNx) sNx) (sSeq (sIf (mOr (m2bP dNotIn 4 (mCallFn F_reach (cD (mVar 1) (cD (mIxP 2 (mVar 5)) cNil)))) (m2b dNe (mCall dRepr (mCons (mCallFn F_last_reaching (cD (mVar 1) (cD (mCutHiA (mVar 2) (m2 dAdd (mVar 5) (mr (PyData.int 1)))) (cD (mVar 4) cNil)))) mNil)) (mCall dRepr (mCons (mVar 5) mNil)))) (sSeq (sRet (mr (PyData.bool false))) sNx) sNx) (sSeq (sAsg (mCallFn F__law_draw (cK 0 (cD (m2 dAdd (mVar 5) (mr (PyData.int 1))) cNil))) (gSet 8)) (sSeq (sRet (mAndV (mB (m2b dEq (mB (m2bP dIn 4 (mCallFn F_run (cD (mVar 1) (cD (mVar 7) (cD (mCutLoA (mVar 2) (mVar 8)) cNil)))))) (mB (m2bP dEq 6 (mr (PyData.str "pour")))))) (mB (m2b dEq (mCall dRepr (mCons (mCallFn F_last_reaching (cD (mVar 1) (cD (mCutLoA (mVar 2) (mVar 8)) (cD (mVar 4) cNil)))) mNil)) (mCall dRepr (mCons (m2 dSub (mVar 5) (mVar 8)) mNil)))))) sNx)))))))))
def F__law_is_place_right : FF := fAr 5 (fOf 9 m__law_is_place_right)
theorem ok__law_is_place_right (D : DefD K mg "_law_is_place_right" s__law_is_place_right ["_law_deck_here", "_law_hill_here", "_law_script_here", "_law_couple", "_law_x"]) (B : Blt mg) (c_run : CalK P w K mg base tb 11 "run" F_run ["hill", "water", "script"]) (c_last_reaching : CalK P w K mg base tb 11 "last_reaching" F_last_reaching ["hill", "script", "terrace"]) (c__law_draw : CalK P w K mg base tb 1 "_law_draw" F__law_draw ["_law_deck_here", "_law_many"]) (c_reach : CalK P w K mg base tb 11 "reach" F_reach ["hill", "deed"]) (c__law_water : CalK P w K mg base tb 3 "_law_water" F__law_water ["_law_deck_here", "_law_hill_here"]) (c__law_sought : CalK P w K mg base tb 1 "_law_sought" F__law_sought ["_law_hill_here", "_law_script_here", "_law_x"]) : CalK P w K mg base tb 12 "_law_is_place_right" F__law_is_place_right ["_law_deck_here", "_law_hill_here", "_law_script_here", "_law_couple", "_law_x"] :=
  calD D sc__law_is_place_right fun f9 c9 A9 o9 s9 H9 E9 hr => (rss_cons (rs_set 5 sc__law_is_place_right.nd (re_c c__law_sought.c hr (rc_d (re_var 1) (rc_d (re_var 2) (rc_d (re_var 4) rc_nil))))) (rss_cons (rs_if (rt_cmp (opb_ne (room65 hr)) (re_callB (cd_repr hr) (by rfl) (B.no "repr" (by decide)) bt_repr (ra_cons (re_tup (ra_cons (re_c c_last_reaching.c hr (rc_d (re_var 1) (rc_d (re_var 2) (rc_d (re_var 4) rc_nil)))) (ra_cons (re_ckR c_last_reaching hr (rk_d (re_var 4) (rk_d (re_var 2) (rk_d (re_var 1) rk_nil)))) ra_nil))) ra_nil)) (re_callB (cd_repr hr) (by rfl) (B.no "repr" (by decide)) bt_repr (ra_cons (re_tup (ra_cons (re_var 5) (ra_cons (re_var 5) ra_nil))) ra_nil))) (rss_cons (rs_ret re_bool) rss_nil) rss_nil) (rss_cons (rs_set 6 sc__law_is_place_right.nd (re_if (rt_cmpP opb_is 5 re_none) re_none (re_ix (re_ixP 2 (re_var 5)) re_int))) (rss_cons (rs_if (rt_cmp (opb_ne (room65 hr)) (re_tup (ra_cons (re_cmpP (opb_in (room65 hr)) 4 (re_ixP 3 re_int)) (ra_cons (re_cmpP (opb_in (room65 hr)) 4 (re_ixP 3 re_int)) ra_nil))) (re_tup (ra_cons (re_cmpP (opb_eq (room65 hr)) 6 re_str) (ra_cons (re_cmpP (opb_eq (room65 hr)) 6 re_str) ra_nil)))) (rss_cons (rs_ret re_bool) rss_nil) rss_nil) (rss_cons (rs_set 7 sc__law_is_place_right.nd (re_c c__law_water.c hr (rc_k 0 (rc_d (re_var 1) rc_nil)))) (rss_cons (rs_if (rt_cmpP opb_is 5 re_none) (rss_cons (rs_ret (re_cmp (opb_eq (room65 hr)) (re_cmpP (opb_in (room65 hr)) 4 (re_c c_run.c hr (rc_d (re_var 1) (rc_d (re_var 7) (rc_d (re_var 2) rc_nil))))) (re_cmpP (opb_in (room65 hr)) 4 (re_var 7)))) rss_nil) rss_nil) (rss_cons (rs_if (rt_w (rw_or (rt_cmpP (opb_notIn (room65 hr)) 4 (re_c c_reach.c hr (rc_d (re_var 1) (rc_d (re_ixP 2 (re_var 5)) rc_nil)))) (rw_or1 (rt_cmp (opb_ne (room65 hr)) (re_callB (cd_repr hr) (by rfl) (B.no "repr" (by decide)) bt_repr (ra_cons (re_c c_last_reaching.c hr (rc_d (re_var 1) (rc_d (re_cutHiA (re_var 2) (re_bin opd_add (re_var 5) re_int)) (rc_d (re_var 4) rc_nil)))) ra_nil)) (re_callB (cd_repr hr) (by rfl) (B.no "repr" (by decide)) bt_repr (ra_cons (re_var 5) ra_nil)))))) (rss_cons (rs_ret re_bool) rss_nil) rss_nil) (rss_cons (rs_set 8 sc__law_is_place_right.nd (re_c c__law_draw.c hr (rc_k 0 (rc_d (re_bin opd_add (re_var 5) re_int) rc_nil)))) (rss_cons (rs_ret (re_and (re_cmp (opb_eq (room65 hr)) (re_cmpP (opb_in (room65 hr)) 4 (re_c c_run.c hr (rc_d (re_var 1) (rc_d (re_var 7) (rc_d (re_cutLoA (re_var 2) (re_var 8)) rc_nil))))) (re_cmpP (opb_eq (room65 hr)) 6 re_str)) (re_one (re_cmp (opb_eq (room65 hr)) (re_callB (cd_repr hr) (by rfl) (B.no "repr" (by decide)) bt_repr (ra_cons (re_c c_last_reaching.c hr (rc_d (re_var 1) (rc_d (re_cutLoA (re_var 2) (re_var 8)) (rc_d (re_var 4) rc_nil)))) ra_nil)) (re_callB (cd_repr hr) (by rfl) (B.no "repr" (by decide)) bt_repr (ra_cons (re_bin opd_sub (re_var 5) (re_var 8)) ra_nil)))))) rss_nil)))))))))
abbrev s_law : Stmt := topS 70
abbrev N_law : List Str := ["_law_script_here", "_law_deck_here", "_law_turn", "_law_hill_here", "_law_n", "_law_deeds", "_law_couple", "_law_due", "_law_x", "_law_deed", "_law_more", "_law_told", "_law_order_here", "_law_led_here", "_law_named", "_law_word", "_law_turned", "_law_near"]
theorem sc_law : FnScope N_law ["_law_script_here"] (defScope s_law) := sc_by (by decide +kernel)
def m_law : MS := (sSeq (sFor (mR1 (mr (PyData.int 3))) (gSet 2) (sSeq (sAsg (mCallFn F__law_hill (cK 1 (cD (m2 dAdd (mr (PyData.int 1)) (mCallFn F__law_draw (cK 1 (cD (mr (PyData.int 10)) cNil)))) cNil))) (gSet 3)) (sSeq (sAsg (mIxP 3 (mr (PyData.int 0))) (gSet 4)) (sSeq (sAsg (mCallFn F__law_script (cK 1 (cD (mVar 4) (cD (mIf (m2b dEq (mCallFn F__law_draw (cK 1 (cD (mr (PyData.int 8)) cNil))) (mr (PyData.int 0))) (mr (PyData.int 60)) (mr (PyData.int 10))) cNil)))) (gSet 5)) (sSeq (sPair 6 7 (mD (mCallFn F_couple_of (cD (mVar 3) (cD (mVar 5) cNil)))) (mF (mLc [8] (mR1 (mVar 4)) (gSet 8) (mr true) (mCallFn F__law_sought (cD (mVar 3) (cD (mVar 5) (cD (mVar 8) cNil))))))) (sSeq (sFor (mR1 (mVar 4)) (gSet 8) (sSeq (sIf (mNot (m1b tr (mCallFn F__law_is_place_right (cK 1 (cD (mVar 3) (cD (mVar 5) (cD (mVar 6) (cD (mVar 8) cNil)))))))) (sSeq (sRet (mr (PyData.bool false))) sNx) sNx) sNx)) (sSeq (sIf (m2b dNe (mCall dRepr (mCons (mCallFn F_deciders (cD (mVar 3) (cD (mVar 5) cNil))) mNil)) (mCall dRepr (mCons (m1 dTupOf (mVar 7)) mNil))) (sSeq (sRet (mr (PyData.bool false))) sNx) sNx) (sSeq (sAsg (mTup (mCons (mCallFn F__law_pick (cK 1 (cD (mTup (mCons (mr (PyData.str "pour")) (mCons (mr (PyData.str "open")) mNil))) cNil))) (mCons (mCallFn F__law_draw (cK 1 (cD (mVar 4) cNil))) mNil))) (gSet 9)) (sSeq (sIf (m2b dLt (mLenP 5) (mr (PyData.int 60))) (sSeq (sAsg (m2 dAdd (mVar 5) (mTup (mCons (mVar 9) mNil))) (gSet 10)) (sSeq (sOwn 11 (mLc [8] (mR1 (mVar 4)) (gSet 8) (mr true) (mCallFn F_last_reaching (cD (mVar 3) (cD (mVar 10) (cD (mVar 8) cNil)))))) (sSeq (sIf (m2bP dNe 11 (mL (mLc [8] (mR1 (mVar 4)) (gSet 8) (mr true) (mIf (m2bP dIn 8 (mCallFn F_reach (cD (mVar 3) (cD (mVar 9) cNil)))) (mLenP 5) (mIxP 7 (mVar 8)))))) (sSeq (sRet (mr (PyData.bool false))) sNx) sNx) sNx))) sNx) (sSeq (sAsg (mCallFn F__law_order (cK 1 (cD (mVar 4) cNil))) (gSet 12)) (sSeq (sPair 13 14 (mD (mCallFn F_led_hill (cD (mVar 3) (cD (mVar 12) cNil)))) (mD (m1 dTupOf (mL (mLc [15, 8] (mItems (mVar 5)) (gTp (gMore (gSet 15) (gMore (gSet 8) gNo))) (mr true) (mTup (mCons (mVar 15) (mCons (mIxP 12 (mVar 8)) mNil)))))))) (sSeq (sIf (m2b dNe (mL (mLc [8] (mR1 (mVar 4)) (gSet 8) (mr true) (mCallFn F_last_reaching (cD (mVar 13) (cD (mVar 14) (cD (mIxP 12 (mVar 8)) cNil)))))) (mVar 7)) (sSeq (sRet (mr (PyData.bool false))) sNx) sNx) (sSeq (sAsg (m1 dTupOf (mL (mLc [15, 8] (mItems (mVar 5)) (gTp (gMore (gSet 15) (gMore (gSet 8) gNo))) (mr true) (mTup (mCons (mIf (m2bP dEq 15 (mr (PyData.str "pour"))) (mr (PyData.str "open")) (mr (PyData.str "pour"))) (mCons (mVar 8) mNil)))))) (gSet 16)) (sSeq (sAsg (mCallFn F_mirror (cD (mVar 3) cNil)) (gSet 17)) (sSeq (sIf (m2b dNe (mL (mLc [8] (mR1 (mVar 4)) (gSet 8) (mr true) (mCallFn F_last_reaching (cD (mVar 17) (cD (mVar 16) (cD (mVar 8) cNil)))))) (mVar 7)) (sSeq (sRet (mr (PyData.bool false))) sNx) sNx) sNx))))))))))))))) (sSeq (sRet (mr (PyData.bool true))) sNx))
theorem ok_law {f : Addr} {fd : FuncData} (F : Fun K "law" "law" s_law f fd) (B : Blt mg) (c__law_deck : DeckP P w K mg base tb 1 "_law_deck" 69621 2147483549 81 2147483563 10892421) (c_last_reaching : CalK P w K mg base tb 11 "last_reaching" F_last_reaching ["hill", "script", "terrace"]) (c_mirror : CalK P w K mg base tb 11 "mirror" F_mirror ["hill"]) (c_led_hill : CalK P w K mg base tb 11 "led_hill" F_led_hill ["hill", "names"]) (c__law_order : CalK P w K mg base tb 2 "_law_order" F__law_order ["_law_deck_here", "_law_n"]) (c_reach : CalK P w K mg base tb 11 "reach" F_reach ["hill", "deed"]) (c__law_draw : CalK P w K mg base tb 1 "_law_draw" F__law_draw ["_law_deck_here", "_law_many"]) (c__law_pick : CalK P w K mg base tb 2 "_law_pick" F__law_pick ["_law_deck_here", "_law_some"]) (c_deciders : CalK P w K mg base tb 12 "deciders" F_deciders ["hill", "script"]) (c__law_is_place_right : CalK P w K mg base tb 12 "_law_is_place_right" F__law_is_place_right ["_law_deck_here", "_law_hill_here", "_law_script_here", "_law_couple", "_law_x"]) (c_couple_of : CalK P w K mg base tb 11 "couple_of" F_couple_of ["hill", "script"]) (c__law_sought : CalK P w K mg base tb 1 "_law_sought" F__law_sought ["_law_hill_here", "_law_script_here", "_law_x"]) (c__law_script : CalK P w K mg base tb 3 "_law_script" F__law_script ["_law_deck_here", "_law_n", "_law_most"]) (c__law_hill : CalK P w K mg base tb 3 "_law_hill" F__law_hill ["_law_deck_here", "_law_n"]) (T : LawTrue 18 m_law 69621 2147483549 81 2147483563 10892421) : FnG P w K mg base 13 f fd ["_law_script_here"] (spLaw K tb) :=
  lawP (N := ["_law_turn", "_law_hill_here", "_law_n", "_law_deeds", "_law_couple", "_law_due", "_law_x", "_law_deed", "_law_more", "_law_told", "_law_order_here", "_law_led_here", "_law_named", "_law_word", "_law_turned", "_law_near"]) F sc_law c__law_deck (by decide) rfl (by decide) (by decide) (by decide) rfl (by first | exact Or.inl rfl | exact Or.inr (Or.inl rfl)) (by first | exact Or.inl rfl | exact Or.inr rfl) (fun _ _ _ _ _ _ => rfl) (fun c9 A9 o9 s9 H9 E9 hr => (rss_cons (rs_for PassesOwn.never (by rfl) (ri_range1 (by rfl) (B.no "range" (by decide)) re_int) (rg_name 2 sc_law.nd) (rss_cons (rs_set 3 sc_law.nd (re_c c__law_hill.c hr (rc_k 1 (rc_d (re_bin opd_add re_int (re_c c__law_draw.c hr (rc_k 1 (rc_d re_int rc_nil)))) rc_nil)))) (rss_cons (rs_set 4 sc_law.nd (re_ixP 3 re_int)) (rss_cons (rs_set 5 sc_law.nd (re_c c__law_script.c hr (rc_k 1 (rc_d (re_var 4) (rc_d (re_if (rt_cmp (opb_eq (room65 hr)) (re_c c__law_draw.c hr (rc_k 1 (rc_d re_int rc_nil))) re_int) re_int re_int) rc_nil))))) (rss_cons (rs_parT 6 7 (by rfl) sc_law.nd (rx_d (re_c c_couple_of.c hr (rc_d (re_var 3) (rc_d (re_var 5) rc_nil)))) (rx_f (rf_lc (own := [("_law_x", 8)]) (by rfl) sc_law.nd (ri_range1 (by rfl) (B.no "range" (by decide)) (re_var 4)) (blk_by (by kernel_rfl)) (by decide) (fun s9 H9 C9 cl9 fp9 => (rg_name 8 sc_law.nd)) (fun s9 H9 C9 cl9 fp9 => rts_nil) (fun s9 H9 C9 cl9 fp9 => (re_c c__law_sought.c hr (rc_d (re_var 3) (rc_d (re_var 5) (rc_d (re_var 8) rc_nil)))))))) (rss_cons (rs_for PassesOwn.never (by rfl) (ri_range1 (by rfl) (B.no "range" (by decide)) (re_var 4)) (rg_name 8 sc_law.nd) (rss_cons (rs_if (rt_not (rt_val (re_c c__law_is_place_right.c hr (rc_k 1 (rc_d (re_var 3) (rc_d (re_var 5) (rc_d (re_var 6) (rc_d (re_var 8) rc_nil)))))))) (rss_cons (rs_ret re_bool) rss_nil) rss_nil) rss_nil)) (rss_cons (rs_if (rt_cmp (opb_ne (room65 hr)) (re_callB (cd_repr hr) (by rfl) (B.no "repr" (by decide)) bt_repr (ra_cons (re_c c_deciders.c hr (rc_d (re_var 3) (rc_d (re_var 5) rc_nil))) ra_nil)) (re_callB (cd_repr hr) (by rfl) (B.no "repr" (by decide)) bt_repr (ra_cons (re_tupleOf (by rfl) (B.no "tuple" (by decide)) (re_var 7)) ra_nil))) (rss_cons (rs_ret re_bool) rss_nil) rss_nil) (rss_cons (rs_set 9 sc_law.nd (re_tup (ra_cons (re_c c__law_pick.c hr (rc_k 1 (rc_d (re_tup (ra_cons re_str (ra_cons re_str ra_nil))) rc_nil))) (ra_cons (re_c c__law_draw.c hr (rc_k 1 (rc_d (re_var 4) rc_nil))) ra_nil)))) (rss_cons (rs_if (rt_cmp (opb_lt (room0 hr)) (re_lenP 5 (by rfl) (B.no "len" (by decide))) re_int) (rss_cons (rs_set 10 sc_law.nd (re_bin opd_add (re_var 5) (re_tup (ra_cons (re_var 9) ra_nil)))) (rss_cons (rs_ownLc (own := [("_law_x", 8)]) 11 (by rfl) sc_law.nd (ri_range1 (by rfl) (B.no "range" (by decide)) (re_var 4)) (blk_by (by kernel_rfl)) (by decide) (fun s9 H9 C9 cl9 fp9 => (rg_name 8 sc_law.nd)) (fun s9 H9 C9 cl9 fp9 => rts_nil) (fun s9 H9 C9 cl9 fp9 => (re_c c_last_reaching.c hr (rc_d (re_var 3) (rc_d (re_var 10) (rc_d (re_var 8) rc_nil)))))) (rss_cons (rs_if (rt_cmpP (opb_ne (room65 hr)) 11 (re_fresh (rf_lc (own := [("_law_x", 8)]) (by rfl) sc_law.nd (ri_range1 (by rfl) (B.no "range" (by decide)) (re_var 4)) (blk_by (by kernel_rfl)) (by decide) (fun s9 H9 C9 cl9 fp9 => (rg_name 8 sc_law.nd)) (fun s9 H9 C9 cl9 fp9 => rts_nil) (fun s9 H9 C9 cl9 fp9 => (re_if (rt_cmpP (opb_in (room65 hr)) 8 (re_c c_reach.c hr (rc_d (re_var 3) (rc_d (re_var 9) rc_nil)))) (re_lenP 5 (by rfl) (B.no "len" (by decide))) (re_ixP 7 (re_var 8))))))) (rss_cons (rs_ret re_bool) rss_nil) rss_nil) rss_nil))) rss_nil) (rss_cons (rs_set 12 sc_law.nd (re_c c__law_order.c hr (rc_k 1 (rc_d (re_var 4) rc_nil)))) (rss_cons (rs_parT 13 14 (by rfl) sc_law.nd (rx_d (re_c c_led_hill.c hr (rc_d (re_var 3) (rc_d (re_var 12) rc_nil)))) (rx_d (re_tupleOf (by rfl) (B.no "tuple" (by decide)) (re_fresh (rf_lc (own := [("_law_word", 15), ("_law_x", 8)]) (by rfl) sc_law.nd (ri_seq (re_var 5)) (blk_by (by kernel_rfl)) (by decide) (fun s9 H9 C9 cl9 fp9 => (rg_pair (by rfl) (rg_name 15 sc_law.nd) (rg_name 8 sc_law.nd))) (fun s9 H9 C9 cl9 fp9 => rts_nil) (fun s9 H9 C9 cl9 fp9 => (re_tup (ra_cons (re_var 15) (ra_cons (re_ixP 12 (re_var 8)) ra_nil))))))))) (rss_cons (rs_if (rt_cmp (opb_ne (room65 hr)) (re_fresh (rf_lc (own := [("_law_x", 8)]) (by rfl) sc_law.nd (ri_range1 (by rfl) (B.no "range" (by decide)) (re_var 4)) (blk_by (by kernel_rfl)) (by decide) (fun s9 H9 C9 cl9 fp9 => (rg_name 8 sc_law.nd)) (fun s9 H9 C9 cl9 fp9 => rts_nil) (fun s9 H9 C9 cl9 fp9 => (re_c c_last_reaching.c hr (rc_d (re_var 13) (rc_d (re_var 14) (rc_d (re_ixP 12 (re_var 8)) rc_nil))))))) (re_var 7)) (rss_cons (rs_ret re_bool) rss_nil) rss_nil) (rss_cons (rs_set 16 sc_law.nd (re_tupleOf (by rfl) (B.no "tuple" (by decide)) (re_fresh (rf_lc (own := [("_law_word", 15), ("_law_x", 8)]) (by rfl) sc_law.nd (ri_seq (re_var 5)) (blk_by (by kernel_rfl)) (by decide) (fun s9 H9 C9 cl9 fp9 => (rg_pair (by rfl) (rg_name 15 sc_law.nd) (rg_name 8 sc_law.nd))) (fun s9 H9 C9 cl9 fp9 => rts_nil) (fun s9 H9 C9 cl9 fp9 => (re_tup (ra_cons (re_if (rt_cmpP (opb_eq (room65 hr)) 15 re_str) re_str re_str) (ra_cons (re_var 8) ra_nil)))))))) (rss_cons (rs_set 17 sc_law.nd (re_c c_mirror.c hr (rc_d (re_var 3) rc_nil))) (rss_cons (rs_if (rt_cmp (opb_ne (room65 hr)) (re_fresh (rf_lc (own := [("_law_x", 8)]) (by rfl) sc_law.nd (ri_range1 (by rfl) (B.no "range" (by decide)) (re_var 4)) (blk_by (by kernel_rfl)) (by decide) (fun s9 H9 C9 cl9 fp9 => (rg_name 8 sc_law.nd)) (fun s9 H9 C9 cl9 fp9 => rts_nil) (fun s9 H9 C9 cl9 fp9 => (re_c c_last_reaching.c hr (rc_d (re_var 17) (rc_d (re_var 16) (rc_d (re_var 8) rc_nil))))))) (re_var 7)) (rss_cons (rs_ret re_bool) rss_nil) rss_nil) rss_nil))))))))))))))) (rss_cons (rs_ret re_bool) rss_nil))) T
end
end P14
-- skipped:
end
section
set_option Elab.async false
set_option linter.all false
namespace Pd
theorem ln4 {A : Type} {l : List A} (h : l.length = 4) : ∃ a b c d, l = [a, b, c, d] := by
  match l, h with
  | [a, b, c, d], _ => exact ⟨a, b, c, d, rfl⟩
theorem sp4 {A : Type} {us ws : List A} (h : us.length + ws.length = 4) : (∃ a b c d, us = [a, b, c, d] ∧ ws = []) ∨ (∃ a b c d, us = [a, b, c] ∧ ws = [d]) ∨ (∃ a b c d, us = [a, b] ∧ ws = [c, d]) ∨ (∃ a b c d, us = [a] ∧ ws = [b, c, d]) ∨ (∃ a b c d, us = [] ∧ ws = [a, b, c, d]) := by
  cases us with
  | nil => obtain ⟨a, b, c, d, hE⟩ := ln4 (l := ws) (by simpa using h); exact .inr (.inr (.inr (.inr ⟨a, b, c, d, rfl, hE⟩)))
  | cons a us =>
    have h : us.length + 1 + ws.length = 4 := h
    rcases sp3 (us := us) (ws := ws) (by omega) with ⟨b, c, d, rfl, rfl⟩ | ⟨b, c, d, rfl, rfl⟩ | ⟨b, c, d, rfl, rfl⟩ | ⟨b, c, d, rfl, rfl⟩
    · exact .inl ⟨a, b, c, d, rfl, rfl⟩
    · exact .inr (.inl ⟨a, b, c, d, rfl, rfl⟩)
    · exact .inr (.inr (.inl ⟨a, b, c, d, rfl, rfl⟩))
    · exact .inr (.inr (.inr (.inl ⟨a, b, c, d, rfl, rfl⟩)))
theorem ln5 {A : Type} {l : List A} (h : l.length = 5) : ∃ a b c d e, l = [a, b, c, d, e] := by
  match l, h with
  | [a, b, c, d, e], _ => exact ⟨a, b, c, d, e, rfl⟩
theorem sp5 {A : Type} {us ws : List A} (h : us.length + ws.length = 5) : (∃ a b c d e, us = [a, b, c, d, e] ∧ ws = []) ∨ (∃ a b c d e, us = [a, b, c, d] ∧ ws = [e]) ∨ (∃ a b c d e, us = [a, b, c] ∧ ws = [d, e]) ∨ (∃ a b c d e, us = [a, b] ∧ ws = [c, d, e]) ∨ (∃ a b c d e, us = [a] ∧ ws = [b, c, d, e]) ∨ (∃ a b c d e, us = [] ∧ ws = [a, b, c, d, e]) := by
  cases us with
  | nil => obtain ⟨a, b, c, d, e, hE⟩ := ln5 (l := ws) (by simpa using h); exact .inr (.inr (.inr (.inr (.inr ⟨a, b, c, d, e, rfl, hE⟩))))
  | cons a us =>
    have h : us.length + 1 + ws.length = 5 := h
    rcases sp4 (us := us) (ws := ws) (by omega) with ⟨b, c, d, e, rfl, rfl⟩ | ⟨b, c, d, e, rfl, rfl⟩ | ⟨b, c, d, e, rfl, rfl⟩ | ⟨b, c, d, e, rfl, rfl⟩ | ⟨b, c, d, e, rfl, rfl⟩
    · exact .inl ⟨a, b, c, d, e, rfl, rfl⟩
    · exact .inr (.inl ⟨a, b, c, d, e, rfl, rfl⟩)
    · exact .inr (.inr (.inl ⟨a, b, c, d, e, rfl, rfl⟩))
    · exact .inr (.inr (.inr (.inl ⟨a, b, c, d, e, rfl, rfl⟩)))
    · exact .inr (.inr (.inr (.inr (.inl ⟨a, b, c, d, e, rfl, rfl⟩))))
theorem ln6 {A : Type} {l : List A} (h : l.length = 6) : ∃ a b c d e f, l = [a, b, c, d, e, f] := by
  match l, h with
  | [a, b, c, d, e, f], _ => exact ⟨a, b, c, d, e, f, rfl⟩
theorem sp6 {A : Type} {us ws : List A} (h : us.length + ws.length = 6) : (∃ a b c d e f, us = [a, b, c, d, e, f] ∧ ws = []) ∨ (∃ a b c d e f, us = [a, b, c, d, e] ∧ ws = [f]) ∨ (∃ a b c d e f, us = [a, b, c, d] ∧ ws = [e, f]) ∨ (∃ a b c d e f, us = [a, b, c] ∧ ws = [d, e, f]) ∨ (∃ a b c d e f, us = [a, b] ∧ ws = [c, d, e, f]) ∨ (∃ a b c d e f, us = [a] ∧ ws = [b, c, d, e, f]) ∨ (∃ a b c d e f, us = [] ∧ ws = [a, b, c, d, e, f]) := by
  cases us with
  | nil => obtain ⟨a, b, c, d, e, f, hE⟩ := ln6 (l := ws) (by simpa using h); exact .inr (.inr (.inr (.inr (.inr (.inr ⟨a, b, c, d, e, f, rfl, hE⟩)))))
  | cons a us =>
    have h : us.length + 1 + ws.length = 6 := h
    rcases sp5 (us := us) (ws := ws) (by omega) with ⟨b, c, d, e, f, rfl, rfl⟩ | ⟨b, c, d, e, f, rfl, rfl⟩ | ⟨b, c, d, e, f, rfl, rfl⟩ | ⟨b, c, d, e, f, rfl, rfl⟩ | ⟨b, c, d, e, f, rfl, rfl⟩ | ⟨b, c, d, e, f, rfl, rfl⟩
    · exact .inl ⟨a, b, c, d, e, f, rfl, rfl⟩
    · exact .inr (.inl ⟨a, b, c, d, e, f, rfl, rfl⟩)
    · exact .inr (.inr (.inl ⟨a, b, c, d, e, f, rfl, rfl⟩))
    · exact .inr (.inr (.inr (.inl ⟨a, b, c, d, e, f, rfl, rfl⟩)))
    · exact .inr (.inr (.inr (.inr (.inl ⟨a, b, c, d, e, f, rfl, rfl⟩))))
    · exact .inr (.inr (.inr (.inr (.inr (.inl ⟨a, b, c, d, e, f, rfl, rfl⟩)))))
theorem ln7 {A : Type} {l : List A} (h : l.length = 7) : ∃ a b c d e f g, l = [a, b, c, d, e, f, g] := by
  match l, h with
  | [a, b, c, d, e, f, g], _ => exact ⟨a, b, c, d, e, f, g, rfl⟩
theorem sp7 {A : Type} {us ws : List A} (h : us.length + ws.length = 7) : (∃ a b c d e f g, us = [a, b, c, d, e, f, g] ∧ ws = []) ∨ (∃ a b c d e f g, us = [a, b, c, d, e, f] ∧ ws = [g]) ∨ (∃ a b c d e f g, us = [a, b, c, d, e] ∧ ws = [f, g]) ∨ (∃ a b c d e f g, us = [a, b, c, d] ∧ ws = [e, f, g]) ∨ (∃ a b c d e f g, us = [a, b, c] ∧ ws = [d, e, f, g]) ∨ (∃ a b c d e f g, us = [a, b] ∧ ws = [c, d, e, f, g]) ∨ (∃ a b c d e f g, us = [a] ∧ ws = [b, c, d, e, f, g]) ∨ (∃ a b c d e f g, us = [] ∧ ws = [a, b, c, d, e, f, g]) := by
  cases us with
  | nil => obtain ⟨a, b, c, d, e, f, g, hE⟩ := ln7 (l := ws) (by simpa using h); exact .inr (.inr (.inr (.inr (.inr (.inr (.inr ⟨a, b, c, d, e, f, g, rfl, hE⟩))))))
  | cons a us =>
    have h : us.length + 1 + ws.length = 7 := h
    rcases sp6 (us := us) (ws := ws) (by omega) with ⟨b, c, d, e, f, g, rfl, rfl⟩ | ⟨b, c, d, e, f, g, rfl, rfl⟩ | ⟨b, c, d, e, f, g, rfl, rfl⟩ | ⟨b, c, d, e, f, g, rfl, rfl⟩ | ⟨b, c, d, e, f, g, rfl, rfl⟩ | ⟨b, c, d, e, f, g, rfl, rfl⟩ | ⟨b, c, d, e, f, g, rfl, rfl⟩
    · exact .inl ⟨a, b, c, d, e, f, g, rfl, rfl⟩
    · exact .inr (.inl ⟨a, b, c, d, e, f, g, rfl, rfl⟩)
    · exact .inr (.inr (.inl ⟨a, b, c, d, e, f, g, rfl, rfl⟩))
    · exact .inr (.inr (.inr (.inl ⟨a, b, c, d, e, f, g, rfl, rfl⟩)))
    · exact .inr (.inr (.inr (.inr (.inl ⟨a, b, c, d, e, f, g, rfl, rfl⟩))))
    · exact .inr (.inr (.inr (.inr (.inr (.inl ⟨a, b, c, d, e, f, g, rfl, rfl⟩)))))
    · exact .inr (.inr (.inr (.inr (.inr (.inr (.inl ⟨a, b, c, d, e, f, g, rfl, rfl⟩))))))
end Pd
end
section
set_option Elab.async false
set_option linter.all false
set_option maxRecDepth 100000
set_option maxHeartbeats 4000000
namespace P14
open PySem PySem.Spec PyProof.Rows L2 Pd
section
structure At (K : PySem.W.Frag) (x : Str) (st : Stmt) (f c : Addr) : Prop where
  a : PySem.W.nsIn K mainGlobals x = some (some (.ref f))
  l : ∃ (oc : Value) (od : Option Addr) (kV dc pm : Value) (an : Option Addr) (ct : Value) (sl : Array (Option Value)), K.lookup f = some ⟨oc, od, .func (PySem.W.fnOf x x (defArgs st) (defBody st) (defScope st) .none kV dc pm an (.ref c) ct), sl⟩
  c : PySem.W.codeIn K (.ref c) x = true
theorem bg_mask_of : BindG "mask_of" s_mask_of ["lot"] := ⟨fun kV doc pm an cdv ct us ws hl => by rcases sp1 hl with ⟨a, rfl, rfl⟩ | ⟨a, rfl, rfl⟩ <;> rfl, fun kV doc pm an cdv ct ws hl => by obtain ⟨a, rfl⟩ := ln1 hl; rfl⟩
theorem bg_lot_of : BindG "lot_of" s_lot_of ["mask"] := ⟨fun kV doc pm an cdv ct us ws hl => by rcases sp1 hl with ⟨a, rfl, rfl⟩ | ⟨a, rfl, rfl⟩ <;> rfl, fun kV doc pm an cdv ct ws hl => by obtain ⟨a, rfl⟩ := ln1 hl; rfl⟩
theorem bg_above_masks : BindG "above_masks" s_above_masks ["book"] := ⟨fun kV doc pm an cdv ct us ws hl => by rcases sp1 hl with ⟨a, rfl, rfl⟩ | ⟨a, rfl, rfl⟩ <;> rfl, fun kV doc pm an cdv ct ws hl => by obtain ⟨a, rfl⟩ := ln1 hl; rfl⟩
theorem bg_below_masks : BindG "below_masks" s_below_masks ["book"] := ⟨fun kV doc pm an cdv ct us ws hl => by rcases sp1 hl with ⟨a, rfl, rfl⟩ | ⟨a, rfl, rfl⟩ <;> rfl, fun kV doc pm an cdv ct ws hl => by obtain ⟨a, rfl⟩ := ln1 hl; rfl⟩
theorem bg_union_of : BindG "union_of" s_union_of ["masks", "mask"] := ⟨fun kV doc pm an cdv ct us ws hl => by rcases sp2 hl with ⟨a, b, rfl, rfl⟩ | ⟨a, b, rfl, rfl⟩ | ⟨a, b, rfl, rfl⟩ <;> rfl, fun kV doc pm an cdv ct ws hl => by obtain ⟨a, b, rfl⟩ := ln2 hl; rfl⟩
theorem bg_is_shut : BindG "is_shut" s_is_shut ["masks", "mask"] := ⟨fun kV doc pm an cdv ct us ws hl => by rcases sp2 hl with ⟨a, b, rfl, rfl⟩ | ⟨a, b, rfl, rfl⟩ | ⟨a, b, rfl, rfl⟩ <;> rfl, fun kV doc pm an cdv ct ws hl => by obtain ⟨a, b, rfl⟩ := ln2 hl; rfl⟩
theorem bg_is_integer : BindG "is_integer" s_is_integer ["thing"] := ⟨fun kV doc pm an cdv ct us ws hl => by rcases sp1 hl with ⟨a, rfl, rfl⟩ | ⟨a, rfl, rfl⟩ <;> rfl, fun kV doc pm an cdv ct ws hl => by obtain ⟨a, rfl⟩ := ln1 hl; rfl⟩
theorem bg_is_within : BindG "is_within" s_is_within ["thing", "least", "most"] := ⟨fun kV doc pm an cdv ct us ws hl => by rcases sp3 hl with ⟨a, b, c, rfl, rfl⟩ | ⟨a, b, c, rfl, rfl⟩ | ⟨a, b, c, rfl, rfl⟩ | ⟨a, b, c, rfl, rfl⟩ <;> rfl, fun kV doc pm an cdv ct ws hl => by obtain ⟨a, b, c, rfl⟩ := ln3 hl; rfl⟩
theorem bg_has_items : BindG "has_items" s_has_items ["thing", "many"] := ⟨fun kV doc pm an cdv ct us ws hl => by rcases sp2 hl with ⟨a, b, rfl, rfl⟩ | ⟨a, b, rfl, rfl⟩ | ⟨a, b, rfl, rfl⟩ <;> rfl, fun kV doc pm an cdv ct ws hl => by obtain ⟨a, b, rfl⟩ := ln2 hl; rfl⟩
theorem bg_is_ascending : BindG "is_ascending" s_is_ascending ["items"] := ⟨fun kV doc pm an cdv ct us ws hl => by rcases sp1 hl with ⟨a, rfl, rfl⟩ | ⟨a, rfl, rfl⟩ <;> rfl, fun kV doc pm an cdv ct ws hl => by obtain ⟨a, rfl⟩ := ln1 hl; rfl⟩
theorem bg_is_pair_of : BindG "is_pair_of" s_is_pair_of ["many", "thing"] := ⟨fun kV doc pm an cdv ct us ws hl => by rcases sp2 hl with ⟨a, b, rfl, rfl⟩ | ⟨a, b, rfl, rfl⟩ | ⟨a, b, rfl, rfl⟩ <;> rfl, fun kV doc pm an cdv ct ws hl => by obtain ⟨a, b, rfl⟩ := ln2 hl; rfl⟩
theorem bg_are_pairs_of : BindG "are_pairs_of" s_are_pairs_of ["many", "thing"] := ⟨fun kV doc pm an cdv ct us ws hl => by rcases sp2 hl with ⟨a, b, rfl, rfl⟩ | ⟨a, b, rfl, rfl⟩ | ⟨a, b, rfl, rfl⟩ <;> rfl, fun kV doc pm an cdv ct ws hl => by obtain ⟨a, b, rfl⟩ := ln2 hl; rfl⟩
theorem bg_is_terrace_of : BindG "is_terrace_of" s_is_terrace_of ["many", "thing"] := ⟨fun kV doc pm an cdv ct us ws hl => by rcases sp2 hl with ⟨a, b, rfl, rfl⟩ | ⟨a, b, rfl, rfl⟩ | ⟨a, b, rfl, rfl⟩ <;> rfl, fun kV doc pm an cdv ct ws hl => by obtain ⟨a, b, rfl⟩ := ln2 hl; rfl⟩
theorem bg_is_lot_of : BindG "is_lot_of" s_is_lot_of ["many", "thing"] := ⟨fun kV doc pm an cdv ct us ws hl => by rcases sp2 hl with ⟨a, b, rfl, rfl⟩ | ⟨a, b, rfl, rfl⟩ | ⟨a, b, rfl, rfl⟩ <;> rfl, fun kV doc pm an cdv ct ws hl => by obtain ⟨a, b, rfl⟩ := ln2 hl; rfl⟩
theorem bg_is_lower_of : BindG "is_lower_of" s_is_lower_of ["hill", "thing"] := ⟨fun kV doc pm an cdv ct us ws hl => by rcases sp2 hl with ⟨a, b, rfl, rfl⟩ | ⟨a, b, rfl, rfl⟩ | ⟨a, b, rfl, rfl⟩ <;> rfl, fun kV doc pm an cdv ct ws hl => by obtain ⟨a, b, rfl⟩ := ln2 hl; rfl⟩
theorem bg_is_deed_of : BindG "is_deed_of" s_is_deed_of ["many", "thing"] := ⟨fun kV doc pm an cdv ct us ws hl => by rcases sp2 hl with ⟨a, b, rfl, rfl⟩ | ⟨a, b, rfl, rfl⟩ | ⟨a, b, rfl, rfl⟩ <;> rfl, fun kV doc pm an cdv ct ws hl => by obtain ⟨a, b, rfl⟩ := ln2 hl; rfl⟩
theorem bg_is_script_of : BindG "is_script_of" s_is_script_of ["many", "thing"] := ⟨fun kV doc pm an cdv ct us ws hl => by rcases sp2 hl with ⟨a, b, rfl, rfl⟩ | ⟨a, b, rfl, rfl⟩ | ⟨a, b, rfl, rfl⟩ <;> rfl, fun kV doc pm an cdv ct ws hl => by obtain ⟨a, b, rfl⟩ := ln2 hl; rfl⟩
theorem bg_need_terrace : BindG "need_terrace" s_need_terrace ["many", "terrace"] := ⟨fun kV doc pm an cdv ct us ws hl => by rcases sp2 hl with ⟨a, b, rfl, rfl⟩ | ⟨a, b, rfl, rfl⟩ | ⟨a, b, rfl, rfl⟩ <;> rfl, fun kV doc pm an cdv ct ws hl => by obtain ⟨a, b, rfl⟩ := ln2 hl; rfl⟩
theorem bg_need_water : BindG "need_water" s_need_water ["hill", "water"] := ⟨fun kV doc pm an cdv ct us ws hl => by rcases sp2 hl with ⟨a, b, rfl, rfl⟩ | ⟨a, b, rfl, rfl⟩ | ⟨a, b, rfl, rfl⟩ <;> rfl, fun kV doc pm an cdv ct ws hl => by obtain ⟨a, b, rfl⟩ := ln2 hl; rfl⟩
theorem bg_need_deed : BindG "need_deed" s_need_deed ["many", "deed"] := ⟨fun kV doc pm an cdv ct us ws hl => by rcases sp2 hl with ⟨a, b, rfl, rfl⟩ | ⟨a, b, rfl, rfl⟩ | ⟨a, b, rfl, rfl⟩ <;> rfl, fun kV doc pm an cdv ct ws hl => by obtain ⟨a, b, rfl⟩ := ln2 hl; rfl⟩
theorem bg_need_script : BindG "need_script" s_need_script ["many", "script"] := ⟨fun kV doc pm an cdv ct us ws hl => by rcases sp2 hl with ⟨a, b, rfl, rfl⟩ | ⟨a, b, rfl, rfl⟩ | ⟨a, b, rfl, rfl⟩ <;> rfl, fun kV doc pm an cdv ct ws hl => by obtain ⟨a, b, rfl⟩ := ln2 hl; rfl⟩
theorem bg_reaches : BindG "reaches" s_reaches ["hill"] := ⟨fun kV doc pm an cdv ct us ws hl => by rcases sp1 hl with ⟨a, rfl, rfl⟩ | ⟨a, rfl, rfl⟩ <;> rfl, fun kV doc pm an cdv ct ws hl => by obtain ⟨a, rfl⟩ := ln1 hl; rfl⟩
theorem bg_is_book : BindG "is_book" s_is_book ["thing"] := ⟨fun kV doc pm an cdv ct us ws hl => by rcases sp1 hl with ⟨a, rfl, rfl⟩ | ⟨a, rfl, rfl⟩ <;> rfl, fun kV doc pm an cdv ct ws hl => by obtain ⟨a, rfl⟩ := ln1 hl; rfl⟩
theorem bg__is_closed : BindG "_is_closed" s__is_closed ["book"] := ⟨fun kV doc pm an cdv ct us ws hl => by rcases sp1 hl with ⟨a, rfl, rfl⟩ | ⟨a, rfl, rfl⟩ <;> rfl, fun kV doc pm an cdv ct ws hl => by obtain ⟨a, rfl⟩ := ln1 hl; rfl⟩
theorem bg_is_hill : BindG "is_hill" s_is_hill ["thing"] := ⟨fun kV doc pm an cdv ct us ws hl => by rcases sp1 hl with ⟨a, rfl, rfl⟩ | ⟨a, rfl, rfl⟩ <;> rfl, fun kV doc pm an cdv ct ws hl => by obtain ⟨a, rfl⟩ := ln1 hl; rfl⟩
theorem bg_need_hill : BindG "need_hill" s_need_hill ["hill"] := ⟨fun kV doc pm an cdv ct us ws hl => by rcases sp1 hl with ⟨a, rfl, rfl⟩ | ⟨a, rfl, rfl⟩ <;> rfl, fun kV doc pm an cdv ct ws hl => by obtain ⟨a, rfl⟩ := ln1 hl; rfl⟩
theorem bg_reach : BindG "reach" s_reach ["hill", "deed"] := ⟨fun kV doc pm an cdv ct us ws hl => by rcases sp2 hl with ⟨a, b, rfl, rfl⟩ | ⟨a, b, rfl, rfl⟩ | ⟨a, b, rfl, rfl⟩ <;> rfl, fun kV doc pm an cdv ct ws hl => by obtain ⟨a, b, rfl⟩ := ln2 hl; rfl⟩
theorem bg_wet_behind : BindG "wet_behind" s_wet_behind ["water", "deed", "reach"] := ⟨fun kV doc pm an cdv ct us ws hl => by rcases sp3 hl with ⟨a, b, c, rfl, rfl⟩ | ⟨a, b, c, rfl, rfl⟩ | ⟨a, b, c, rfl, rfl⟩ | ⟨a, b, c, rfl, rfl⟩ <;> rfl, fun kV doc pm an cdv ct ws hl => by obtain ⟨a, b, c, rfl⟩ := ln3 hl; rfl⟩
theorem bg_couple_behind : BindG "couple_behind" s_couple_behind ["couple", "deed", "reach"] := ⟨fun kV doc pm an cdv ct us ws hl => by rcases sp3 hl with ⟨a, b, c, rfl, rfl⟩ | ⟨a, b, c, rfl, rfl⟩ | ⟨a, b, c, rfl, rfl⟩ | ⟨a, b, c, rfl, rfl⟩ <;> rfl, fun kV doc pm an cdv ct ws hl => by obtain ⟨a, b, c, rfl⟩ := ln3 hl; rfl⟩
theorem bg_couple_masks : BindG "couple_masks" s_couple_masks ["hill", "script"] := ⟨fun kV doc pm an cdv ct us ws hl => by rcases sp2 hl with ⟨a, b, rfl, rfl⟩ | ⟨a, b, rfl, rfl⟩ | ⟨a, b, rfl, rfl⟩ <;> rfl, fun kV doc pm an cdv ct ws hl => by obtain ⟨a, b, rfl⟩ := ln2 hl; rfl⟩
theorem bg_mirror : BindG "mirror" s_mirror ["hill"] := ⟨fun kV doc pm an cdv ct us ws hl => by rcases sp1 hl with ⟨a, rfl, rfl⟩ | ⟨a, rfl, rfl⟩ <;> rfl, fun kV doc pm an cdv ct ws hl => by obtain ⟨a, rfl⟩ := ln1 hl; rfl⟩
theorem bg__is_renaming : BindG "_is_renaming" s__is_renaming ["many", "thing"] := ⟨fun kV doc pm an cdv ct us ws hl => by rcases sp2 hl with ⟨a, b, rfl, rfl⟩ | ⟨a, b, rfl, rfl⟩ | ⟨a, b, rfl, rfl⟩ <;> rfl, fun kV doc pm an cdv ct ws hl => by obtain ⟨a, b, rfl⟩ := ln2 hl; rfl⟩
theorem bg_led_hill : BindG "led_hill" s_led_hill ["hill", "names"] := ⟨fun kV doc pm an cdv ct us ws hl => by rcases sp2 hl with ⟨a, b, rfl, rfl⟩ | ⟨a, b, rfl, rfl⟩ | ⟨a, b, rfl, rfl⟩ <;> rfl, fun kV doc pm an cdv ct ws hl => by obtain ⟨a, b, rfl⟩ := ln2 hl; rfl⟩
theorem bg_run : BindG "run" s_run ["hill", "water", "script"] := ⟨fun kV doc pm an cdv ct us ws hl => by rcases sp3 hl with ⟨a, b, c, rfl, rfl⟩ | ⟨a, b, c, rfl, rfl⟩ | ⟨a, b, c, rfl, rfl⟩ | ⟨a, b, c, rfl, rfl⟩ <;> rfl, fun kV doc pm an cdv ct ws hl => by obtain ⟨a, b, c, rfl⟩ := ln3 hl; rfl⟩
theorem bg_couple_of : BindG "couple_of" s_couple_of ["hill", "script"] := ⟨fun kV doc pm an cdv ct us ws hl => by rcases sp2 hl with ⟨a, b, rfl, rfl⟩ | ⟨a, b, rfl, rfl⟩ | ⟨a, b, rfl, rfl⟩ <;> rfl, fun kV doc pm an cdv ct ws hl => by obtain ⟨a, b, rfl⟩ := ln2 hl; rfl⟩
theorem bg_last_reaching : BindG "last_reaching" s_last_reaching ["hill", "script", "terrace"] := ⟨fun kV doc pm an cdv ct us ws hl => by rcases sp3 hl with ⟨a, b, c, rfl, rfl⟩ | ⟨a, b, c, rfl, rfl⟩ | ⟨a, b, c, rfl, rfl⟩ | ⟨a, b, c, rfl, rfl⟩ <;> rfl, fun kV doc pm an cdv ct ws hl => by obtain ⟨a, b, c, rfl⟩ := ln3 hl; rfl⟩
theorem bg__need_script_of : BindG "_need_script_of" s__need_script_of ["hill", "script"] := ⟨fun kV doc pm an cdv ct us ws hl => by rcases sp2 hl with ⟨a, b, rfl, rfl⟩ | ⟨a, b, rfl, rfl⟩ | ⟨a, b, rfl, rfl⟩ <;> rfl, fun kV doc pm an cdv ct ws hl => by obtain ⟨a, b, rfl⟩ := ln2 hl; rfl⟩
theorem bg_deciders : BindG "deciders" s_deciders ["hill", "script"] := ⟨fun kV doc pm an cdv ct us ws hl => by rcases sp2 hl with ⟨a, b, rfl, rfl⟩ | ⟨a, b, rfl, rfl⟩ | ⟨a, b, rfl, rfl⟩ <;> rfl, fun kV doc pm an cdv ct ws hl => by obtain ⟨a, b, rfl⟩ := ln2 hl; rfl⟩
theorem bg__law_deck : BindG "_law_deck" s__law_deck ["_law_script_here"] := ⟨fun kV doc pm an cdv ct us ws hl => by rcases sp1 hl with ⟨a, rfl, rfl⟩ | ⟨a, rfl, rfl⟩ <;> rfl, fun kV doc pm an cdv ct ws hl => by obtain ⟨a, rfl⟩ := ln1 hl; rfl⟩
theorem bg__law_draw : BindG "_law_draw" s__law_draw ["_law_deck_here", "_law_many"] := ⟨fun kV doc pm an cdv ct us ws hl => by rcases sp2 hl with ⟨a, b, rfl, rfl⟩ | ⟨a, b, rfl, rfl⟩ | ⟨a, b, rfl, rfl⟩ <;> rfl, fun kV doc pm an cdv ct ws hl => by obtain ⟨a, b, rfl⟩ := ln2 hl; rfl⟩
theorem bg__law_pick : BindG "_law_pick" s__law_pick ["_law_deck_here", "_law_some"] := ⟨fun kV doc pm an cdv ct us ws hl => by rcases sp2 hl with ⟨a, b, rfl, rfl⟩ | ⟨a, b, rfl, rfl⟩ | ⟨a, b, rfl, rfl⟩ <;> rfl, fun kV doc pm an cdv ct ws hl => by obtain ⟨a, b, rfl⟩ := ln2 hl; rfl⟩
theorem bg__law_reached : BindG "_law_reached" s__law_reached ["_law_n", "_law_pairs"] := ⟨fun kV doc pm an cdv ct us ws hl => by rcases sp2 hl with ⟨a, b, rfl, rfl⟩ | ⟨a, b, rfl, rfl⟩ | ⟨a, b, rfl, rfl⟩ <;> rfl, fun kV doc pm an cdv ct ws hl => by obtain ⟨a, b, rfl⟩ := ln2 hl; rfl⟩
theorem bg__law_closed : BindG "_law_closed" s__law_closed ["_law_n", "_law_pairs"] := ⟨fun kV doc pm an cdv ct us ws hl => by rcases sp2 hl with ⟨a, b, rfl, rfl⟩ | ⟨a, b, rfl, rfl⟩ | ⟨a, b, rfl, rfl⟩ <;> rfl, fun kV doc pm an cdv ct ws hl => by obtain ⟨a, b, rfl⟩ := ln2 hl; rfl⟩
theorem bg__law_under : BindG "_law_under" s__law_under ["_law_hill_here", "_law_x"] := ⟨fun kV doc pm an cdv ct us ws hl => by rcases sp2 hl with ⟨a, b, rfl, rfl⟩ | ⟨a, b, rfl, rfl⟩ | ⟨a, b, rfl, rfl⟩ <;> rfl, fun kV doc pm an cdv ct ws hl => by obtain ⟨a, b, rfl⟩ := ln2 hl; rfl⟩
theorem bg__law_over : BindG "_law_over" s__law_over ["_law_hill_here", "_law_x"] := ⟨fun kV doc pm an cdv ct us ws hl => by rcases sp2 hl with ⟨a, b, rfl, rfl⟩ | ⟨a, b, rfl, rfl⟩ | ⟨a, b, rfl, rfl⟩ <;> rfl, fun kV doc pm an cdv ct ws hl => by obtain ⟨a, b, rfl⟩ := ln2 hl; rfl⟩
theorem bg__law_closure : BindG "_law_closure" s__law_closure ["_law_hill_here", "_law_lot", "_law_downwards"] := ⟨fun kV doc pm an cdv ct us ws hl => by rcases sp3 hl with ⟨a, b, c, rfl, rfl⟩ | ⟨a, b, c, rfl, rfl⟩ | ⟨a, b, c, rfl, rfl⟩ | ⟨a, b, c, rfl, rfl⟩ <;> rfl, fun kV doc pm an cdv ct ws hl => by obtain ⟨a, b, c, rfl⟩ := ln3 hl; rfl⟩
theorem bg__law_order : BindG "_law_order" s__law_order ["_law_deck_here", "_law_n"] := ⟨fun kV doc pm an cdv ct us ws hl => by rcases sp2 hl with ⟨a, b, rfl, rfl⟩ | ⟨a, b, rfl, rfl⟩ | ⟨a, b, rfl, rfl⟩ <;> rfl, fun kV doc pm an cdv ct ws hl => by obtain ⟨a, b, rfl⟩ := ln2 hl; rfl⟩
theorem bg__law_led : BindG "_law_led" s__law_led ["_law_hill_here", "_law_order_here"] := ⟨fun kV doc pm an cdv ct us ws hl => by rcases sp2 hl with ⟨a, b, rfl, rfl⟩ | ⟨a, b, rfl, rfl⟩ | ⟨a, b, rfl, rfl⟩ <;> rfl, fun kV doc pm an cdv ct ws hl => by obtain ⟨a, b, rfl⟩ := ln2 hl; rfl⟩
theorem bg__law_hill : BindG "_law_hill" s__law_hill ["_law_deck_here", "_law_n"] := ⟨fun kV doc pm an cdv ct us ws hl => by rcases sp2 hl with ⟨a, b, rfl, rfl⟩ | ⟨a, b, rfl, rfl⟩ | ⟨a, b, rfl, rfl⟩ <;> rfl, fun kV doc pm an cdv ct ws hl => by obtain ⟨a, b, rfl⟩ := ln2 hl; rfl⟩
theorem bg__law_water : BindG "_law_water" s__law_water ["_law_deck_here", "_law_hill_here"] := ⟨fun kV doc pm an cdv ct us ws hl => by rcases sp2 hl with ⟨a, b, rfl, rfl⟩ | ⟨a, b, rfl, rfl⟩ | ⟨a, b, rfl, rfl⟩ <;> rfl, fun kV doc pm an cdv ct ws hl => by obtain ⟨a, b, rfl⟩ := ln2 hl; rfl⟩
theorem bg__law_script : BindG "_law_script" s__law_script ["_law_deck_here", "_law_n", "_law_most"] := ⟨fun kV doc pm an cdv ct us ws hl => by rcases sp3 hl with ⟨a, b, c, rfl, rfl⟩ | ⟨a, b, c, rfl, rfl⟩ | ⟨a, b, c, rfl, rfl⟩ | ⟨a, b, c, rfl, rfl⟩ <;> rfl, fun kV doc pm an cdv ct ws hl => by obtain ⟨a, b, c, rfl⟩ := ln3 hl; rfl⟩
theorem bg__law_sought : BindG "_law_sought" s__law_sought ["_law_hill_here", "_law_script_here", "_law_x"] := ⟨fun kV doc pm an cdv ct us ws hl => by rcases sp3 hl with ⟨a, b, c, rfl, rfl⟩ | ⟨a, b, c, rfl, rfl⟩ | ⟨a, b, c, rfl, rfl⟩ | ⟨a, b, c, rfl, rfl⟩ <;> rfl, fun kV doc pm an cdv ct ws hl => by obtain ⟨a, b, c, rfl⟩ := ln3 hl; rfl⟩
theorem bg__law_is_place_right : BindG "_law_is_place_right" s__law_is_place_right ["_law_deck_here", "_law_hill_here", "_law_script_here", "_law_couple", "_law_x"] := ⟨fun kV doc pm an cdv ct us ws hl => by rcases sp5 hl with ⟨a, b, c, d, e, rfl, rfl⟩ | ⟨a, b, c, d, e, rfl, rfl⟩ | ⟨a, b, c, d, e, rfl, rfl⟩ | ⟨a, b, c, d, e, rfl, rfl⟩ | ⟨a, b, c, d, e, rfl, rfl⟩ | ⟨a, b, c, d, e, rfl, rfl⟩ <;> rfl, fun kV doc pm an cdv ct ws hl => by obtain ⟨a, b, c, d, e, rfl⟩ := ln5 hl; rfl⟩
theorem all_mk {w : World} {K : PySem.W.Frag} {h : Heap} {mg : Str → Option Value} {fa : Addr} {f_mask_of q_mask_of f_lot_of q_lot_of f_above_masks q_above_masks f_below_masks q_below_masks f_union_of q_union_of f_is_shut q_is_shut f_is_integer q_is_integer f_is_within q_is_within f_has_items q_has_items f_is_ascending q_is_ascending f_is_pair_of q_is_pair_of f_are_pairs_of q_are_pairs_of f_is_terrace_of q_is_terrace_of f_is_lot_of q_is_lot_of f_is_lower_of q_is_lower_of f_is_deed_of q_is_deed_of f_is_script_of q_is_script_of f_need_terrace q_need_terrace f_need_water q_need_water f_need_deed q_need_deed f_need_script q_need_script f_reaches q_reaches f_is_book q_is_book f__is_closed q__is_closed f_is_hill q_is_hill f_need_hill q_need_hill f_reach q_reach f_wet_behind q_wet_behind f_couple_behind q_couple_behind f_couple_masks q_couple_masks f_mirror q_mirror f__is_renaming q__is_renaming f_led_hill q_led_hill f_run q_run f_couple_of q_couple_of f_last_reaching q_last_reaching f__need_script_of q__need_script_of f_deciders q_deciders f__law_deck q__law_deck f__law_draw q__law_draw f__law_pick q__law_pick f__law_reached q__law_reached f__law_closed q__law_closed f__law_under q__law_under f__law_over q__law_over f__law_closure q__law_closure f__law_order q__law_order f__law_led q__law_led f__law_hill q__law_hill f__law_water q__law_water f__law_script q__law_script f__law_sought q__law_sought f__law_is_place_right q__law_is_place_right f_law q_law t_lot_of t_is_ascending t_are_pairs_of t_is_lot_of t_is_script_of t__is_closed t_mirror t__is_renaming t_led_hill : Addr} (X : K.In h) (G : h.Ns mainGlobals mg) (hfa : mg "law" = some (.ref fa))
    (A_mask_of : At K "mask_of" s_mask_of f_mask_of q_mask_of) (A_lot_of : At K "lot_of" s_lot_of f_lot_of q_lot_of) (A_above_masks : At K "above_masks" s_above_masks f_above_masks q_above_masks) (A_below_masks : At K "below_masks" s_below_masks f_below_masks q_below_masks) (A_union_of : At K "union_of" s_union_of f_union_of q_union_of) (A_is_shut : At K "is_shut" s_is_shut f_is_shut q_is_shut) (A_is_integer : At K "is_integer" s_is_integer f_is_integer q_is_integer) (A_is_within : At K "is_within" s_is_within f_is_within q_is_within) (A_has_items : At K "has_items" s_has_items f_has_items q_has_items) (A_is_ascending : At K "is_ascending" s_is_ascending f_is_ascending q_is_ascending) (A_is_pair_of : At K "is_pair_of" s_is_pair_of f_is_pair_of q_is_pair_of) (A_are_pairs_of : At K "are_pairs_of" s_are_pairs_of f_are_pairs_of q_are_pairs_of) (A_is_terrace_of : At K "is_terrace_of" s_is_terrace_of f_is_terrace_of q_is_terrace_of) (A_is_lot_of : At K "is_lot_of" s_is_lot_of f_is_lot_of q_is_lot_of) (A_is_lower_of : At K "is_lower_of" s_is_lower_of f_is_lower_of q_is_lower_of) (A_is_deed_of : At K "is_deed_of" s_is_deed_of f_is_deed_of q_is_deed_of) (A_is_script_of : At K "is_script_of" s_is_script_of f_is_script_of q_is_script_of) (A_need_terrace : At K "need_terrace" s_need_terrace f_need_terrace q_need_terrace) (A_need_water : At K "need_water" s_need_water f_need_water q_need_water) (A_need_deed : At K "need_deed" s_need_deed f_need_deed q_need_deed) (A_need_script : At K "need_script" s_need_script f_need_script q_need_script) (A_reaches : At K "reaches" s_reaches f_reaches q_reaches) (A_is_book : At K "is_book" s_is_book f_is_book q_is_book) (A__is_closed : At K "_is_closed" s__is_closed f__is_closed q__is_closed) (A_is_hill : At K "is_hill" s_is_hill f_is_hill q_is_hill) (A_need_hill : At K "need_hill" s_need_hill f_need_hill q_need_hill) (A_reach : At K "reach" s_reach f_reach q_reach) (A_wet_behind : At K "wet_behind" s_wet_behind f_wet_behind q_wet_behind) (A_couple_behind : At K "couple_behind" s_couple_behind f_couple_behind q_couple_behind) (A_couple_masks : At K "couple_masks" s_couple_masks f_couple_masks q_couple_masks) (A_mirror : At K "mirror" s_mirror f_mirror q_mirror) (A__is_renaming : At K "_is_renaming" s__is_renaming f__is_renaming q__is_renaming) (A_led_hill : At K "led_hill" s_led_hill f_led_hill q_led_hill) (A_run : At K "run" s_run f_run q_run) (A_couple_of : At K "couple_of" s_couple_of f_couple_of q_couple_of) (A_last_reaching : At K "last_reaching" s_last_reaching f_last_reaching q_last_reaching) (A__need_script_of : At K "_need_script_of" s__need_script_of f__need_script_of q__need_script_of) (A_deciders : At K "deciders" s_deciders f_deciders q_deciders) (A__law_deck : At K "_law_deck" s__law_deck f__law_deck q__law_deck) (A__law_draw : At K "_law_draw" s__law_draw f__law_draw q__law_draw) (A__law_pick : At K "_law_pick" s__law_pick f__law_pick q__law_pick) (A__law_reached : At K "_law_reached" s__law_reached f__law_reached q__law_reached) (A__law_closed : At K "_law_closed" s__law_closed f__law_closed q__law_closed) (A__law_under : At K "_law_under" s__law_under f__law_under q__law_under) (A__law_over : At K "_law_over" s__law_over f__law_over q__law_over) (A__law_closure : At K "_law_closure" s__law_closure f__law_closure q__law_closure) (A__law_order : At K "_law_order" s__law_order f__law_order q__law_order) (A__law_led : At K "_law_led" s__law_led f__law_led q__law_led) (A__law_hill : At K "_law_hill" s__law_hill f__law_hill q__law_hill) (A__law_water : At K "_law_water" s__law_water f__law_water q__law_water) (A__law_script : At K "_law_script" s__law_script f__law_script q__law_script) (A__law_sought : At K "_law_sought" s__law_sought f__law_sought q__law_sought) (A__law_is_place_right : At K "_law_is_place_right" s__law_is_place_right f__law_is_place_right q__law_is_place_right) (A_law : At K "law" s_law f_law q_law) (g_MOST_TERRACES : ∃ t, PySem.W.nsIn K mainGlobals "MOST_TERRACES" = some (some (Value.int 10 t))) (B0 : (["len", "int", "bool", "str", "list", "tuple", "min", "max", "sorted", "repr", "range", "zip", "enumerate", "all", "isinstance", "set", "sum", "dict"] : List Str).all (fun x => match PySem.W.nsIn K mainGlobals x with | some none => true | _ => false) = true)
    (h1 : ∀ p ∈ ([(q_lot_of, t_lot_of), (q_is_ascending, t_is_ascending), (q_are_pairs_of, t_are_pairs_of), (q_is_lot_of, t_is_lot_of), (q_is_script_of, t_is_script_of), (q__is_closed, t__is_closed), (q_mirror, t_mirror), (q__is_renaming, t__is_renaming), (q_led_hill, t_led_hill)] : List (Addr × Addr)), K.lookup p.2 = some { cls := .none, data := .fields #[] }) (h3 : ∀ p ∈ ([(q_lot_of, t_lot_of), (q_is_ascending, t_is_ascending), (q_are_pairs_of, t_are_pairs_of), (q_is_lot_of, t_is_lot_of), (q_is_script_of, t_is_script_of), (q__is_closed, t__is_closed), (q_mirror, t_mirror), (q__is_renaming, t__is_renaming), (q_led_hill, t_led_hill)] : List (Addr × Addr)), PySem.W.codeHdIn K p.1 p.2 = true) (h4 : ∀ a ∈ ([f_mask_of, q_mask_of, f_lot_of, q_lot_of, f_above_masks, q_above_masks, f_below_masks, q_below_masks, f_union_of, q_union_of, f_is_shut, q_is_shut, f_is_integer, q_is_integer, f_is_within, q_is_within, f_has_items, q_has_items, f_is_ascending, q_is_ascending, f_is_pair_of, q_is_pair_of, f_are_pairs_of, q_are_pairs_of, f_is_terrace_of, q_is_terrace_of, f_is_lot_of, q_is_lot_of, f_is_lower_of, q_is_lower_of, f_is_deed_of, q_is_deed_of, f_is_script_of, q_is_script_of, f_need_terrace, q_need_terrace, f_need_water, q_need_water, f_need_deed, q_need_deed, f_need_script, q_need_script, f_reaches, q_reaches, f_is_book, q_is_book, f__is_closed, q__is_closed, f_is_hill, q_is_hill, f_need_hill, q_need_hill, f_reach, q_reach, f_wet_behind, q_wet_behind, f_couple_behind, q_couple_behind, f_couple_masks, q_couple_masks, f_mirror, q_mirror, f__is_renaming, q__is_renaming, f_led_hill, q_led_hill, f_run, q_run, f_couple_of, q_couple_of, f_last_reaching, q_last_reaching, f__need_script_of, q__need_script_of, f_deciders, q_deciders, f__law_deck, q__law_deck, f__law_draw, q__law_draw, f__law_pick, q__law_pick, f__law_reached, q__law_reached, f__law_closed, q__law_closed, f__law_under, q__law_under, f__law_over, q__law_over, f__law_closure, q__law_closure, f__law_order, q__law_order, f__law_led, q__law_led, f__law_hill, q__law_hill, f__law_water, q__law_water, f__law_script, q__law_script, f__law_sought, q__law_sought, f__law_is_place_right, q__law_is_place_right, f_law, q_law] : List Addr), (([(q_lot_of, t_lot_of), (q_is_ascending, t_is_ascending), (q_are_pairs_of, t_are_pairs_of), (q_is_lot_of, t_is_lot_of), (q_is_script_of, t_is_script_of), (q__is_closed, t__is_closed), (q_mirror, t_mirror), (q__is_renaming, t__is_renaming), (q_led_hill, t_led_hill)] : List (Addr × Addr)).map (·.2)).contains a = false)
    (T : LawTrue 18 m_law 69621 2147483549 81 2147483563 10892421) : ∃ K' : PySem.W.Frag, K'.In h ∧ LawG PySem.Challenge.rw_pourdrains_k14_the_last_deed_that_reache w K' 13 "_law_script_here" mg fa h := by
  have B := blt_of X G B0
  obtain ⟨oc0, od0, kV0, dc0, pm0, an0, ct0, sl0, l_law⟩ := A_law.l
  have k_MOST_TERRACES : ∃ t, mg "MOST_TERRACES" = some (Value.int 10 t) := by
    obtain ⟨t, e⟩ := g_MOST_TERRACES
    exact ⟨t, PySem.W.mg_of X G e⟩
  refine lawG_of X G hfa A_law.a rfl h1 rfl h3 ⟨PySem.W.fnOf "law" "law" (defArgs s_law) (defBody s_law) (defScope s_law) .none kV0 dc0 pm0 an0 (.ref q_law) ct0, fun s v => .of_eq rfl, fun base KI NI TB => ?_⟩
  generalize htb : ([(q_lot_of, t_lot_of), (q_is_ascending, t_is_ascending), (q_are_pairs_of, t_are_pairs_of), (q_is_lot_of, t_is_lot_of), (q_is_script_of, t_is_script_of), (q__is_closed, t__is_closed), (q_mirror, t_mirror), (q__is_renaming, t__is_renaming), (q_led_hill, t_led_hill)] : List (Addr × Addr)) = tbs at *
  have nT : ∀ a ∈ ([f_mask_of, q_mask_of, f_lot_of, q_lot_of, f_above_masks, q_above_masks, f_below_masks, q_below_masks, f_union_of, q_union_of, f_is_shut, q_is_shut, f_is_integer, q_is_integer, f_is_within, q_is_within, f_has_items, q_has_items, f_is_ascending, q_is_ascending, f_is_pair_of, q_is_pair_of, f_are_pairs_of, q_are_pairs_of, f_is_terrace_of, q_is_terrace_of, f_is_lot_of, q_is_lot_of, f_is_lower_of, q_is_lower_of, f_is_deed_of, q_is_deed_of, f_is_script_of, q_is_script_of, f_need_terrace, q_need_terrace, f_need_water, q_need_water, f_need_deed, q_need_deed, f_need_script, q_need_script, f_reaches, q_reaches, f_is_book, q_is_book, f__is_closed, q__is_closed, f_is_hill, q_is_hill, f_need_hill, q_need_hill, f_reach, q_reach, f_wet_behind, q_wet_behind, f_couple_behind, q_couple_behind, f_couple_masks, q_couple_masks, f_mirror, q_mirror, f__is_renaming, q__is_renaming, f_led_hill, q_led_hill, f_run, q_run, f_couple_of, q_couple_of, f_last_reaching, q_last_reaching, f__need_script_of, q__need_script_of, f_deciders, q_deciders, f__law_deck, q__law_deck, f__law_draw, q__law_draw, f__law_pick, q__law_pick, f__law_reached, q__law_reached, f__law_closed, q__law_closed, f__law_under, q__law_under, f__law_over, q__law_over, f__law_closure, q__law_closure, f__law_order, q__law_order, f__law_led, q__law_led, f__law_hill, q__law_hill, f__law_water, q__law_water, f__law_script, q__law_script, f__law_sought, q__law_sought, f__law_is_place_right, q__law_is_place_right, f_law, q_law] : List Addr), (tbs.map (·.2)).contains a = false := h4
  obtain ⟨_, _, _, _, _, _, _, _, l_mask_of⟩ := A_mask_of.l
  have ok_mask_of1 := ok_mask_of (P := PySem.Challenge.rw_pourdrains_k14_the_last_deed_that_reache.prog) (w := w) (base := base) (tb := tbs) (defD_of X G A_mask_of.a l_mask_of ⟨_, rfl, A_mask_of.c, nT q_mask_of (by simp)⟩ (nT f_mask_of (by simp)) bg_mask_of) B 
  obtain ⟨_, _, _, _, _, _, _, _, l_lot_of⟩ := A_lot_of.l
  have ok_lot_of1 := ok_lot_of (P := PySem.Challenge.rw_pourdrains_k14_the_last_deed_that_reache.prog) (w := w) (base := base) (tb := tbs) (defT_of (P' := t_lot_of) X G A_lot_of.a l_lot_of A_lot_of.c (nT q_lot_of (by simp)) (nT f_lot_of (by simp)) bg_lot_of (by rw [← htb]; simp) TB) B 
  obtain ⟨_, _, _, _, _, _, _, _, l_above_masks⟩ := A_above_masks.l
  have ok_above_masks1 := ok_above_masks (P := PySem.Challenge.rw_pourdrains_k14_the_last_deed_that_reache.prog) (w := w) (base := base) (tb := tbs) (defD_of X G A_above_masks.a l_above_masks ⟨_, rfl, A_above_masks.c, nT q_above_masks (by simp)⟩ (nT f_above_masks (by simp)) bg_above_masks) B 
  obtain ⟨_, _, _, _, _, _, _, _, l_below_masks⟩ := A_below_masks.l
  have ok_below_masks1 := ok_below_masks (P := PySem.Challenge.rw_pourdrains_k14_the_last_deed_that_reache.prog) (w := w) (base := base) (tb := tbs) (defD_of X G A_below_masks.a l_below_masks ⟨_, rfl, A_below_masks.c, nT q_below_masks (by simp)⟩ (nT f_below_masks (by simp)) bg_below_masks) B 
  obtain ⟨_, _, _, _, _, _, _, _, l_union_of⟩ := A_union_of.l
  have ok_union_of1 := ok_union_of (P := PySem.Challenge.rw_pourdrains_k14_the_last_deed_that_reache.prog) (w := w) (base := base) (tb := tbs) (defD_of X G A_union_of.a l_union_of ⟨_, rfl, A_union_of.c, nT q_union_of (by simp)⟩ (nT f_union_of (by simp)) bg_union_of) B ok_lot_of1
  obtain ⟨_, _, _, _, _, _, _, _, l_is_shut⟩ := A_is_shut.l
  have ok_is_shut1 := ok_is_shut (P := PySem.Challenge.rw_pourdrains_k14_the_last_deed_that_reache.prog) (w := w) (base := base) (tb := tbs) (defD_of X G A_is_shut.a l_is_shut ⟨_, rfl, A_is_shut.c, nT q_is_shut (by simp)⟩ (nT f_is_shut (by simp)) bg_is_shut) B ok_union_of1
  obtain ⟨_, _, _, _, _, _, _, _, l_is_integer⟩ := A_is_integer.l
  have ok_is_integer1 := ok_is_integer (P := PySem.Challenge.rw_pourdrains_k14_the_last_deed_that_reache.prog) (w := w) (base := base) (tb := tbs) (defD_of X G A_is_integer.a l_is_integer ⟨_, rfl, A_is_integer.c, nT q_is_integer (by simp)⟩ (nT f_is_integer (by simp)) bg_is_integer) B  kitD
  obtain ⟨_, _, _, _, _, _, _, _, l_is_within⟩ := A_is_within.l
  have ok_is_within1 := ok_is_within (P := PySem.Challenge.rw_pourdrains_k14_the_last_deed_that_reache.prog) (w := w) (base := base) (tb := tbs) (defD_of X G A_is_within.a l_is_within ⟨_, rfl, A_is_within.c, nT q_is_within (by simp)⟩ (nT f_is_within (by simp)) bg_is_within) B ok_is_integer1
  obtain ⟨_, _, _, _, _, _, _, _, l_has_items⟩ := A_has_items.l
  have ok_has_items1 := ok_has_items (P := PySem.Challenge.rw_pourdrains_k14_the_last_deed_that_reache.prog) (w := w) (base := base) (tb := tbs) (defD_of X G A_has_items.a l_has_items ⟨_, rfl, A_has_items.c, nT q_has_items (by simp)⟩ (nT f_has_items (by simp)) bg_has_items) B  kitD
  obtain ⟨_, _, _, _, _, _, _, _, l_is_ascending⟩ := A_is_ascending.l
  have ok_is_ascending1 := ok_is_ascending (P := PySem.Challenge.rw_pourdrains_k14_the_last_deed_that_reache.prog) (w := w) (base := base) (tb := tbs) (defT_of (P' := t_is_ascending) X G A_is_ascending.a l_is_ascending A_is_ascending.c (nT q_is_ascending (by simp)) (nT f_is_ascending (by simp)) bg_is_ascending (by rw [← htb]; simp) TB) B 
  obtain ⟨_, _, _, _, _, _, _, _, l_is_pair_of⟩ := A_is_pair_of.l
  have ok_is_pair_of1 := ok_is_pair_of (P := PySem.Challenge.rw_pourdrains_k14_the_last_deed_that_reache.prog) (w := w) (base := base) (tb := tbs) (defD_of X G A_is_pair_of.a l_is_pair_of ⟨_, rfl, A_is_pair_of.c, nT q_is_pair_of (by simp)⟩ (nT f_is_pair_of (by simp)) bg_is_pair_of) B ok_is_within1 ok_has_items1
  obtain ⟨_, _, _, _, _, _, _, _, l_are_pairs_of⟩ := A_are_pairs_of.l
  have ok_are_pairs_of1 := ok_are_pairs_of (P := PySem.Challenge.rw_pourdrains_k14_the_last_deed_that_reache.prog) (w := w) (base := base) (tb := tbs) (defT_of (P' := t_are_pairs_of) X G A_are_pairs_of.a l_are_pairs_of A_are_pairs_of.c (nT q_are_pairs_of (by simp)) (nT f_are_pairs_of (by simp)) bg_are_pairs_of (by rw [← htb]; simp) TB) B ok_is_pair_of1 ok_is_ascending1 kitD
  obtain ⟨_, _, _, _, _, _, _, _, l_is_terrace_of⟩ := A_is_terrace_of.l
  have ok_is_terrace_of1 := ok_is_terrace_of (P := PySem.Challenge.rw_pourdrains_k14_the_last_deed_that_reache.prog) (w := w) (base := base) (tb := tbs) (defD_of X G A_is_terrace_of.a l_is_terrace_of ⟨_, rfl, A_is_terrace_of.c, nT q_is_terrace_of (by simp)⟩ (nT f_is_terrace_of (by simp)) bg_is_terrace_of) B ok_is_within1
  obtain ⟨_, _, _, _, _, _, _, _, l_is_lot_of⟩ := A_is_lot_of.l
  have ok_is_lot_of1 := ok_is_lot_of (P := PySem.Challenge.rw_pourdrains_k14_the_last_deed_that_reache.prog) (w := w) (base := base) (tb := tbs) (defT_of (P' := t_is_lot_of) X G A_is_lot_of.a l_is_lot_of A_is_lot_of.c (nT q_is_lot_of (by simp)) (nT f_is_lot_of (by simp)) bg_is_lot_of (by rw [← htb]; simp) TB) B ok_is_terrace_of1 ok_is_ascending1 kitD
  obtain ⟨_, _, _, _, _, _, _, _, l_is_lower_of⟩ := A_is_lower_of.l
  have ok_is_lower_of1 := ok_is_lower_of (P := PySem.Challenge.rw_pourdrains_k14_the_last_deed_that_reache.prog) (w := w) (base := base) (tb := tbs) (defD_of X G A_is_lower_of.a l_is_lower_of ⟨_, rfl, A_is_lower_of.c, nT q_is_lower_of (by simp)⟩ (nT f_is_lower_of (by simp)) bg_is_lower_of) B ok_is_lot_of1 ok_is_shut1 ok_mask_of1 ok_below_masks1
  obtain ⟨_, _, _, _, _, _, _, _, l_is_deed_of⟩ := A_is_deed_of.l
  have ok_is_deed_of1 := ok_is_deed_of (P := PySem.Challenge.rw_pourdrains_k14_the_last_deed_that_reache.prog) (w := w) (base := base) (tb := tbs) (defD_of X G A_is_deed_of.a l_is_deed_of ⟨_, rfl, A_is_deed_of.c, nT q_is_deed_of (by simp)⟩ (nT f_is_deed_of (by simp)) bg_is_deed_of) B ok_has_items1 ok_is_terrace_of1
  obtain ⟨_, _, _, _, _, _, _, _, l_is_script_of⟩ := A_is_script_of.l
  have ok_is_script_of1 := ok_is_script_of (P := PySem.Challenge.rw_pourdrains_k14_the_last_deed_that_reache.prog) (w := w) (base := base) (tb := tbs) (defT_of (P' := t_is_script_of) X G A_is_script_of.a l_is_script_of A_is_script_of.c (nT q_is_script_of (by simp)) (nT f_is_script_of (by simp)) bg_is_script_of (by rw [← htb]; simp) TB) B ok_is_deed_of1 kitD
  obtain ⟨_, _, _, _, _, _, _, _, l_need_terrace⟩ := A_need_terrace.l
  have ok_need_terrace1 := ok_need_terrace (P := PySem.Challenge.rw_pourdrains_k14_the_last_deed_that_reache.prog) (w := w) (base := base) (tb := tbs) (defD_of X G A_need_terrace.a l_need_terrace ⟨_, rfl, A_need_terrace.c, nT q_need_terrace (by simp)⟩ (nT f_need_terrace (by simp)) bg_need_terrace) B ok_is_terrace_of1
  obtain ⟨_, _, _, _, _, _, _, _, l_need_water⟩ := A_need_water.l
  have ok_need_water1 := ok_need_water (P := PySem.Challenge.rw_pourdrains_k14_the_last_deed_that_reache.prog) (w := w) (base := base) (tb := tbs) (defD_of X G A_need_water.a l_need_water ⟨_, rfl, A_need_water.c, nT q_need_water (by simp)⟩ (nT f_need_water (by simp)) bg_need_water) B ok_is_lower_of1
  obtain ⟨_, _, _, _, _, _, _, _, l_need_deed⟩ := A_need_deed.l
  have ok_need_deed1 := ok_need_deed (P := PySem.Challenge.rw_pourdrains_k14_the_last_deed_that_reache.prog) (w := w) (base := base) (tb := tbs) (defD_of X G A_need_deed.a l_need_deed ⟨_, rfl, A_need_deed.c, nT q_need_deed (by simp)⟩ (nT f_need_deed (by simp)) bg_need_deed) B ok_is_deed_of1
  obtain ⟨_, _, _, _, _, _, _, _, l_need_script⟩ := A_need_script.l
  have ok_need_script1 := ok_need_script (P := PySem.Challenge.rw_pourdrains_k14_the_last_deed_that_reache.prog) (w := w) (base := base) (tb := tbs) (defD_of X G A_need_script.a l_need_script ⟨_, rfl, A_need_script.c, nT q_need_script (by simp)⟩ (nT f_need_script (by simp)) bg_need_script) B ok_is_script_of1
  obtain ⟨_, _, _, _, _, _, _, _, l_reaches⟩ := A_reaches.l
  have ok_reaches1 := ok_reaches (P := PySem.Challenge.rw_pourdrains_k14_the_last_deed_that_reache.prog) (w := w) (base := base) (tb := tbs) (defD_of X G A_reaches.a l_reaches ⟨_, rfl, A_reaches.c, nT q_reaches (by simp)⟩ (nT f_reaches (by simp)) bg_reaches) B ok_above_masks1 ok_below_masks1
  obtain ⟨_, _, _, _, _, _, _, _, l_is_book⟩ := A_is_book.l
  have ok_is_book1 := ok_is_book (P := PySem.Challenge.rw_pourdrains_k14_the_last_deed_that_reache.prog) (w := w) (base := base) (tb := tbs) (defD_of X G A_is_book.a l_is_book ⟨_, rfl, A_is_book.c, nT q_is_book (by simp)⟩ (nT f_is_book (by simp)) bg_is_book) B ok_is_within1 ok_are_pairs_of1 ok_has_items1 k_MOST_TERRACES
  obtain ⟨_, _, _, _, _, _, _, _, l__is_closed⟩ := A__is_closed.l
  have ok__is_closed1 := ok__is_closed (P := PySem.Challenge.rw_pourdrains_k14_the_last_deed_that_reache.prog) (w := w) (base := base) (tb := tbs) (defT_of (P' := t__is_closed) X G A__is_closed.a l__is_closed A__is_closed.c (nT q__is_closed (by simp)) (nT f__is_closed (by simp)) bg__is_closed (by rw [← htb]; simp) TB) B ok_above_masks1
  obtain ⟨_, _, _, _, _, _, _, _, l_is_hill⟩ := A_is_hill.l
  have ok_is_hill1 := ok_is_hill (P := PySem.Challenge.rw_pourdrains_k14_the_last_deed_that_reache.prog) (w := w) (base := base) (tb := tbs) (defD_of X G A_is_hill.a l_is_hill ⟨_, rfl, A_is_hill.c, nT q_is_hill (by simp)⟩ (nT f_is_hill (by simp)) bg_is_hill) B ok_is_book1 ok__is_closed1
  obtain ⟨_, _, _, _, _, _, _, _, l_need_hill⟩ := A_need_hill.l
  have ok_need_hill1 := ok_need_hill (P := PySem.Challenge.rw_pourdrains_k14_the_last_deed_that_reache.prog) (w := w) (base := base) (tb := tbs) (defD_of X G A_need_hill.a l_need_hill ⟨_, rfl, A_need_hill.c, nT q_need_hill (by simp)⟩ (nT f_need_hill (by simp)) bg_need_hill) B ok_is_hill1
  obtain ⟨_, _, _, _, _, _, _, _, l_reach⟩ := A_reach.l
  have ok_reach1 := ok_reach (P := PySem.Challenge.rw_pourdrains_k14_the_last_deed_that_reache.prog) (w := w) (base := base) (tb := tbs) (defD_of X G A_reach.a l_reach ⟨_, rfl, A_reach.c, nT q_reach (by simp)⟩ (nT f_reach (by simp)) bg_reach) B ok_lot_of1 ok_reaches1 ok_need_deed1 ok_need_hill1
  obtain ⟨_, _, _, _, _, _, _, _, l_wet_behind⟩ := A_wet_behind.l
  have ok_wet_behind1 := ok_wet_behind (P := PySem.Challenge.rw_pourdrains_k14_the_last_deed_that_reache.prog) (w := w) (base := base) (tb := tbs) (defD_of X G A_wet_behind.a l_wet_behind ⟨_, rfl, A_wet_behind.c, nT q_wet_behind (by simp)⟩ (nT f_wet_behind (by simp)) bg_wet_behind) B 
  obtain ⟨_, _, _, _, _, _, _, _, l_couple_behind⟩ := A_couple_behind.l
  have ok_couple_behind1 := ok_couple_behind (P := PySem.Challenge.rw_pourdrains_k14_the_last_deed_that_reache.prog) (w := w) (base := base) (tb := tbs) (defD_of X G A_couple_behind.a l_couple_behind ⟨_, rfl, A_couple_behind.c, nT q_couple_behind (by simp)⟩ (nT f_couple_behind (by simp)) bg_couple_behind) B 
  obtain ⟨_, _, _, _, _, _, _, _, l_couple_masks⟩ := A_couple_masks.l
  have ok_couple_masks1 := ok_couple_masks (P := PySem.Challenge.rw_pourdrains_k14_the_last_deed_that_reache.prog) (w := w) (base := base) (tb := tbs) (defD_of X G A_couple_masks.a l_couple_masks ⟨_, rfl, A_couple_masks.c, nT q_couple_masks (by simp)⟩ (nT f_couple_masks (by simp)) bg_couple_masks) B ok_couple_behind1 ok_reaches1
  obtain ⟨_, _, _, _, _, _, _, _, l_mirror⟩ := A_mirror.l
  have ok_mirror1 := ok_mirror (P := PySem.Challenge.rw_pourdrains_k14_the_last_deed_that_reache.prog) (w := w) (base := base) (tb := tbs) (defT_of (P' := t_mirror) X G A_mirror.a l_mirror A_mirror.c (nT q_mirror (by simp)) (nT f_mirror (by simp)) bg_mirror (by rw [← htb]; simp) TB) B ok_need_hill1
  obtain ⟨_, _, _, _, _, _, _, _, l__is_renaming⟩ := A__is_renaming.l
  have ok__is_renaming1 := ok__is_renaming (P := PySem.Challenge.rw_pourdrains_k14_the_last_deed_that_reache.prog) (w := w) (base := base) (tb := tbs) (defT_of (P' := t__is_renaming) X G A__is_renaming.a l__is_renaming A__is_renaming.c (nT q__is_renaming (by simp)) (nT f__is_renaming (by simp)) bg__is_renaming (by rw [← htb]; simp) TB) B ok_is_integer1 ok_has_items1
  obtain ⟨_, _, _, _, _, _, _, _, l_led_hill⟩ := A_led_hill.l
  have ok_led_hill1 := ok_led_hill (P := PySem.Challenge.rw_pourdrains_k14_the_last_deed_that_reache.prog) (w := w) (base := base) (tb := tbs) (defT_of (P' := t_led_hill) X G A_led_hill.a l_led_hill A_led_hill.c (nT q_led_hill (by simp)) (nT f_led_hill (by simp)) bg_led_hill (by rw [← htb]; simp) TB) B ok__is_renaming1 ok_need_hill1
  obtain ⟨_, _, _, _, _, _, _, _, l_run⟩ := A_run.l
  have ok_run1 := ok_run (P := PySem.Challenge.rw_pourdrains_k14_the_last_deed_that_reache.prog) (w := w) (base := base) (tb := tbs) (defD_of X G A_run.a l_run ⟨_, rfl, A_run.c, nT q_run (by simp)⟩ (nT f_run (by simp)) bg_run) B ok_lot_of1 ok_wet_behind1 ok_mask_of1 ok_reaches1 ok_need_script1 ok_need_water1 ok_need_hill1
  obtain ⟨_, _, _, _, _, _, _, _, l_couple_of⟩ := A_couple_of.l
  have ok_couple_of1 := ok_couple_of (P := PySem.Challenge.rw_pourdrains_k14_the_last_deed_that_reache.prog) (w := w) (base := base) (tb := tbs) (defD_of X G A_couple_of.a l_couple_of ⟨_, rfl, A_couple_of.c, nT q_couple_of (by simp)⟩ (nT f_couple_of (by simp)) bg_couple_of) B ok_lot_of1 ok_couple_masks1 ok_need_script1 ok_need_hill1
  obtain ⟨_, _, _, _, _, _, _, _, l_last_reaching⟩ := A_last_reaching.l
  have ok_last_reaching1 := ok_last_reaching (P := PySem.Challenge.rw_pourdrains_k14_the_last_deed_that_reache.prog) (w := w) (base := base) (tb := tbs) (defD_of X G A_last_reaching.a l_last_reaching ⟨_, rfl, A_last_reaching.c, nT q_last_reaching (by simp)⟩ (nT f_last_reaching (by simp)) bg_last_reaching) B ok_reaches1 ok_need_terrace1 ok_need_script1 ok_need_hill1
  obtain ⟨_, _, _, _, _, _, _, _, l__need_script_of⟩ := A__need_script_of.l
  have ok__need_script_of1 := ok__need_script_of (P := PySem.Challenge.rw_pourdrains_k14_the_last_deed_that_reache.prog) (w := w) (base := base) (tb := tbs) (defD_of X G A__need_script_of.a l__need_script_of ⟨_, rfl, A__need_script_of.c, nT q__need_script_of (by simp)⟩ (nT f__need_script_of (by simp)) bg__need_script_of) B ok_need_script1 ok_need_hill1
  obtain ⟨_, _, _, _, _, _, _, _, l_deciders⟩ := A_deciders.l
  have ok_deciders1 := ok_deciders (P := PySem.Challenge.rw_pourdrains_k14_the_last_deed_that_reache.prog) (w := w) (base := base) (tb := tbs) (defD_of X G A_deciders.a l_deciders ⟨_, rfl, A_deciders.c, nT q_deciders (by simp)⟩ (nT f_deciders (by simp)) bg_deciders) B ok_lot_of1 ok_reaches1 ok__need_script_of1
  obtain ⟨_, _, _, _, _, _, _, _, l__law_deck⟩ := A__law_deck.l
  have ok__law_deck1 := ok__law_deck (P := PySem.Challenge.rw_pourdrains_k14_the_last_deed_that_reache.prog) (w := w) (base := base) (tb := tbs) (defD_of X G A__law_deck.a l__law_deck ⟨_, rfl, A__law_deck.c, nT q__law_deck (by simp)⟩ (nT f__law_deck (by simp)) bg__law_deck) B 
  obtain ⟨_, _, _, _, _, _, _, _, l__law_draw⟩ := A__law_draw.l
  have ok__law_draw1 := ok__law_draw (P := PySem.Challenge.rw_pourdrains_k14_the_last_deed_that_reache.prog) (w := w) (base := base) (tb := tbs) (defD_of X G A__law_draw.a l__law_draw ⟨_, rfl, A__law_draw.c, nT q__law_draw (by simp)⟩ (nT f__law_draw (by simp)) bg__law_draw) B 
  obtain ⟨_, _, _, _, _, _, _, _, l__law_pick⟩ := A__law_pick.l
  have ok__law_pick1 := ok__law_pick (P := PySem.Challenge.rw_pourdrains_k14_the_last_deed_that_reache.prog) (w := w) (base := base) (tb := tbs) (defD_of X G A__law_pick.a l__law_pick ⟨_, rfl, A__law_pick.c, nT q__law_pick (by simp)⟩ (nT f__law_pick (by simp)) bg__law_pick) B ok__law_draw1
  obtain ⟨_, _, _, _, _, _, _, _, l__law_reached⟩ := A__law_reached.l
  have ok__law_reached1 := ok__law_reached (P := PySem.Challenge.rw_pourdrains_k14_the_last_deed_that_reache.prog) (w := w) (base := base) (tb := tbs) (defD_of X G A__law_reached.a l__law_reached ⟨_, rfl, A__law_reached.c, nT q__law_reached (by simp)⟩ (nT f__law_reached (by simp)) bg__law_reached) B 
  obtain ⟨_, _, _, _, _, _, _, _, l__law_closed⟩ := A__law_closed.l
  have ok__law_closed1 := ok__law_closed (P := PySem.Challenge.rw_pourdrains_k14_the_last_deed_that_reache.prog) (w := w) (base := base) (tb := tbs) (defD_of X G A__law_closed.a l__law_closed ⟨_, rfl, A__law_closed.c, nT q__law_closed (by simp)⟩ (nT f__law_closed (by simp)) bg__law_closed) B ok__law_reached1
  obtain ⟨_, _, _, _, _, _, _, _, l__law_under⟩ := A__law_under.l
  have ok__law_under1 := ok__law_under (P := PySem.Challenge.rw_pourdrains_k14_the_last_deed_that_reache.prog) (w := w) (base := base) (tb := tbs) (defD_of X G A__law_under.a l__law_under ⟨_, rfl, A__law_under.c, nT q__law_under (by simp)⟩ (nT f__law_under (by simp)) bg__law_under) B 
  obtain ⟨_, _, _, _, _, _, _, _, l__law_over⟩ := A__law_over.l
  have ok__law_over1 := ok__law_over (P := PySem.Challenge.rw_pourdrains_k14_the_last_deed_that_reache.prog) (w := w) (base := base) (tb := tbs) (defD_of X G A__law_over.a l__law_over ⟨_, rfl, A__law_over.c, nT q__law_over (by simp)⟩ (nT f__law_over (by simp)) bg__law_over) B 
  obtain ⟨_, _, _, _, _, _, _, _, l__law_closure⟩ := A__law_closure.l
  have ok__law_closure1 := ok__law_closure (P := PySem.Challenge.rw_pourdrains_k14_the_last_deed_that_reache.prog) (w := w) (base := base) (tb := tbs) (defD_of X G A__law_closure.a l__law_closure ⟨_, rfl, A__law_closure.c, nT q__law_closure (by simp)⟩ (nT f__law_closure (by simp)) bg__law_closure) B ok__law_under1 ok__law_over1
  obtain ⟨_, _, _, _, _, _, _, _, l__law_order⟩ := A__law_order.l
  have ok__law_order1 := ok__law_order (P := PySem.Challenge.rw_pourdrains_k14_the_last_deed_that_reache.prog) (w := w) (base := base) (tb := tbs) (defD_of X G A__law_order.a l__law_order ⟨_, rfl, A__law_order.c, nT q__law_order (by simp)⟩ (nT f__law_order (by simp)) bg__law_order) B ok__law_draw1
  obtain ⟨_, _, _, _, _, _, _, _, l__law_led⟩ := A__law_led.l
  have ok__law_led1 := ok__law_led (P := PySem.Challenge.rw_pourdrains_k14_the_last_deed_that_reache.prog) (w := w) (base := base) (tb := tbs) (defD_of X G A__law_led.a l__law_led ⟨_, rfl, A__law_led.c, nT q__law_led (by simp)⟩ (nT f__law_led (by simp)) bg__law_led) B 
  obtain ⟨_, _, _, _, _, _, _, _, l__law_hill⟩ := A__law_hill.l
  have ok__law_hill1 := ok__law_hill (P := PySem.Challenge.rw_pourdrains_k14_the_last_deed_that_reache.prog) (w := w) (base := base) (tb := tbs) (defD_of X G A__law_hill.a l__law_hill ⟨_, rfl, A__law_hill.c, nT q__law_hill (by simp)⟩ (nT f__law_hill (by simp)) bg__law_hill) B ok__law_draw1 ok__law_led1 ok__law_order1 ok__law_closed1
  obtain ⟨_, _, _, _, _, _, _, _, l__law_water⟩ := A__law_water.l
  have ok__law_water1 := ok__law_water (P := PySem.Challenge.rw_pourdrains_k14_the_last_deed_that_reache.prog) (w := w) (base := base) (tb := tbs) (defD_of X G A__law_water.a l__law_water ⟨_, rfl, A__law_water.c, nT q__law_water (by simp)⟩ (nT f__law_water (by simp)) bg__law_water) B ok__law_closure1 ok__law_draw1
  obtain ⟨_, _, _, _, _, _, _, _, l__law_script⟩ := A__law_script.l
  have ok__law_script1 := ok__law_script (P := PySem.Challenge.rw_pourdrains_k14_the_last_deed_that_reache.prog) (w := w) (base := base) (tb := tbs) (defD_of X G A__law_script.a l__law_script ⟨_, rfl, A__law_script.c, nT q__law_script (by simp)⟩ (nT f__law_script (by simp)) bg__law_script) B ok__law_draw1 ok__law_pick1
  obtain ⟨_, _, _, _, _, _, _, _, l__law_sought⟩ := A__law_sought.l
  have ok__law_sought1 := ok__law_sought (P := PySem.Challenge.rw_pourdrains_k14_the_last_deed_that_reache.prog) (w := w) (base := base) (tb := tbs) (defD_of X G A__law_sought.a l__law_sought ⟨_, rfl, A__law_sought.c, nT q__law_sought (by simp)⟩ (nT f__law_sought (by simp)) bg__law_sought) B 
  obtain ⟨_, _, _, _, _, _, _, _, l__law_is_place_right⟩ := A__law_is_place_right.l
  have ok__law_is_place_right1 := ok__law_is_place_right (P := PySem.Challenge.rw_pourdrains_k14_the_last_deed_that_reache.prog) (w := w) (base := base) (tb := tbs) (defD_of X G A__law_is_place_right.a l__law_is_place_right ⟨_, rfl, A__law_is_place_right.c, nT q__law_is_place_right (by simp)⟩ (nT f__law_is_place_right (by simp)) bg__law_is_place_right) B ok_run1 ok_last_reaching1 ok__law_draw1 ok_reach1 ok__law_water1 ok__law_sought1
  exact ok_law (fun_of l_law ⟨_, rfl, A_law.c, nT q_law (by simp)⟩ (nT f_law (by simp))) B ok__law_deck1 ok_last_reaching1 ok_mirror1 ok_led_hill1 ok__law_order1 ok_reach1 ok__law_draw1 ok__law_pick1 ok_deciders1 ok__law_is_place_right1 ok_couple_of1 ok__law_sought1 ok__law_script1 ok__law_hill1 T
end
end P14
end
section
set_option Elab.async false
set_option linter.all false
set_option maxRecDepth 100000
set_option maxHeartbeats 1000000
namespace Md
open PySem PySem.Spec PyProof.Rows L2 Pd

/-! ### weakest readings -/
/-- keeps the simplifier out of what comes later -/
inductive Mark {σ : Type} (k : σ) : Type
  | mk : Mark k
def wp {τ : Type} (t : M τ) (α : Ab) (Q : τ → Ab → Prop) (m : Mark Q := .mk) : Prop := ∃ x α', t α = some (x, α') ∧ Q x α'
/-- what an option tells -/
def ws {τ : Type} (o : Option τ) (k : τ → Prop) (m : Mark k := .mk) : Prop := ∃ x, o = some x ∧ k x
@[simp ↓] theorem ws_some {τ : Type} {x : τ} {k : τ → Prop} : ws (some x) k ↔ k x := by simp [ws]
@[simp ↓] theorem ws_none {τ : Type} {k : τ → Prop} : ws (none : Option τ) k ↔ False := by simp [ws]
theorem ws_of {τ : Type} {o : Option τ} {x : τ} {k : τ → Prop} (h : o = some x) (q : k x) : ws o k := ⟨x, h, q⟩
theorem wp_mono {τ : Type} {t : M τ} {α : Ab} {Q R : τ → Ab → Prop} (h : wp t α Q) (k : ∀ x α', Q x α' → R x α') : wp t α R := by
  obtain ⟨x, α', e, q⟩ := h
  exact ⟨x, α', e, k _ _ q⟩
theorem wp_iff {τ : Type} {t : M τ} {α : Ab} {Q R : τ → Ab → Prop} (h : ∀ x α', Q x α' ↔ R x α') : wp t α Q ↔ wp t α R := ⟨fun q => wp_mono q fun x α' => (h x α').mp, fun q => wp_mono q fun x α' => (h x α').mpr⟩
theorem ws_iff {τ : Type} {o : Option τ} {Q R : τ → Prop} (h : ∀ x, Q x ↔ R x) : ws o Q ↔ ws o R := by
  constructor
  · rintro ⟨x, e, q⟩; exact ⟨x, e, (h x).mp q⟩
  · rintro ⟨x, e, q⟩; exact ⟨x, e, (h x).mpr q⟩
theorem wp_of {τ : Type} {t : M τ} {α α' : Ab} {x : τ} {Q : τ → Ab → Prop} (h : t α = some (x, α')) : wp t α Q ↔ Q x α' := by
  constructor
  · rintro ⟨y, β, e, q⟩; rw [h] at e; cases e; exact q
  · intro q; exact ⟨_, _, h, q⟩
section
variable {τ υ : Type} {α : Ab}
@[simp ↓] theorem wp_mb {t : M τ} {f : τ → M υ} {Q} : wp (mb t f) α Q ↔ wp t α fun x α1 => wp (f x) α1 Q := by
  constructor
  · rintro ⟨x, α', e, q⟩
    obtain ⟨y, β, e1, e2⟩ := mb_some e
    exact ⟨y, β, e1, x, α', e2, q⟩
  · rintro ⟨y, β, e1, x, α', e2, q⟩
    refine ⟨x, α', ?_, q⟩
    unfold mb; rw [e1]; exact e2
@[simp ↓] theorem wp_mo {o : Option τ} {Q} : wp (mo o) α Q ↔ ws o fun x => Q x α := by
  constructor
  · rintro ⟨x, α', e, q⟩
    obtain ⟨h1, rfl⟩ := mo_some e
    exact ⟨x, h1, q⟩
  · rintro ⟨x, rfl, q⟩
    exact ⟨x, α, rfl, q⟩
@[simp ↓] theorem wp_bif {b : Bool} {t u : M τ} {Q} : wp (bif b then t else u) α Q ↔ (b = true → wp t α Q) ∧ (b = false → wp u α Q) := by cases b <;> simp
@[simp ↓] theorem wp_fun_none {Q : τ → Ab → Prop} : wp (fun _ => none) α Q ↔ False := by
  constructor
  · rintro ⟨x, α', e, q⟩; cases e
  · intro h; exact h.elim
@[simp ↓] theorem wp_var {i : Nat} {Q} : wp (mVar i) α Q ↔ match α.ρ[i]? with | some (.val d) => Q d α | some (.obj (.l ds)) => Q (.list ds) (α.set i (.val (.list ds))) | _ => False := by
  unfold wp mVar
  cases h : α.ρ[i]? with
  | none => simp
  | some s =>
    cases s with
    | obj o => cases o <;> simp [and_assoc]
    | _ => simp [and_assoc]
@[simp ↓] theorem wp_m2bP {f : PyData → PyData → Option Bool} {i : Nat} {t2 : M PyData} {Q} : wp (m2bP f i t2) α Q ↔ ws (peek i α) fun d0 => wp t2 α fun d2 α2 => ws (peek i α2) fun d1 => ws (f d1 d2) fun b => Q b α2 := by
  unfold wp m2bP ws
  constructor
  · rintro ⟨x, α', e, q⟩
    split at e
    · cases e
    · rename_i d0 h0
      obtain ⟨d2, α2, e1, e2⟩ := mb_some e
      split at e2
      · cases e2
      · rename_i d1 h1
        obtain ⟨e3, rfl⟩ := mo_some e2
        exact ⟨d0, h0, d2, α', e1, d1, h1, x, e3, q⟩
  · rintro ⟨d0, h0, d2, α', e1, d1, h1, x, e3, q⟩
    refine ⟨x, α', ?_, q⟩
    rw [h0]
    simp only [mb, e1, h1, mo, e3]
@[simp ↓] theorem wp_mTruP {i : Nat} {Q} : wp (mTruP i) α Q ↔ ws (peek i α) fun d => ws (tr d) fun b => Q b α := by
  unfold wp mTruP ws
  cases peek i α with
  | none => simp
  | some d =>
    constructor
    · rintro ⟨x, α', e, q⟩
      obtain ⟨h1, rfl⟩ := mo_some e
      exact ⟨d, rfl, x, h1, q⟩
    · rintro ⟨d', e', b, h, q⟩
      cases e'
      exact ⟨b, α, by simp [mo, h], q⟩
@[simp ↓] theorem wp_mIxP {i : Nat} {t2 : M PyData} {Q} : wp (mIxP i t2) α Q ↔ ws (peek i α) fun d0 => wp t2 α fun d2 α2 => ws (peek i α2) fun d1 => ws (dIx d1 d2) fun b => Q b α2 := by
  unfold wp mIxP ws
  constructor
  · rintro ⟨x, α', e, q⟩
    split at e
    · cases e
    · rename_i d0 h0
      obtain ⟨d2, α2, e1, e2⟩ := mb_some e
      split at e2
      · cases e2
      · rename_i d1 h1
        obtain ⟨e3, rfl⟩ := mo_some e2
        exact ⟨d0, h0, d2, α', e1, d1, h1, x, e3, q⟩
  · rintro ⟨d0, h0, d2, α', e1, d1, h1, x, e3, q⟩
    refine ⟨x, α', ?_, q⟩
    rw [h0]
    simp only [mb, e1, h1, mo, e3]
@[simp ↓] theorem wp_mLenP {i : Nat} {Q} : wp (mLenP i) α Q ↔ ws (peek i α) fun d => ws (dLen [d]) fun b => Q b α := by
  unfold wp mLenP ws
  cases peek i α with
  | none => simp
  | some d =>
    constructor
    · rintro ⟨x, α', e, q⟩
      obtain ⟨h1, rfl⟩ := mo_some e
      exact ⟨d, rfl, x, h1, q⟩
    · rintro ⟨d', e', b, h, q⟩
      cases e'
      exact ⟨b, α, by simp [mo, h], q⟩
/-! calls -/
@[simp ↓] theorem wp_cNil {Q} : wp cNil α Q ↔ Q [] α := wp_of rfl
@[simp ↓] theorem wp_cD {t : M PyData} {ts : M (List Sl)} {Q} : wp (cD t ts) α Q ↔ wp t α fun d α1 => wp ts α1 fun as α2 => Q (.val d :: as) α2 := by
  unfold wp cD
  constructor
  · rintro ⟨x, α', e, q⟩
    split at e
    · cases e
    · rename_i d α1 h1
      split at e
      · cases e
      · rename_i as α2 h2
        cases e
        exact ⟨d, α1, h1, as, α', h2, q⟩
  · rintro ⟨d, α1, h1, as, α', h2, q⟩
    exact ⟨_, α', by simp [h1, h2], q⟩
@[simp ↓] theorem wp_cK {i : Nat} {ts : M (List Sl)} {Q} : wp (cK i ts) α Q ↔ α.ρ[i]? = some .dck ∧ wp ts α fun as α2 => α2.δ ≠ none ∧ Q (.dck :: as) α2 := by
  unfold wp cK
  constructor
  · rintro ⟨x, α', e, q⟩
    split at e
    · rename_i h0
      split at e
      · cases e
      · rename_i as α2 h2
        split at e
        · cases e
        · rename_i δ h3
          cases e
          exact ⟨h0, as, α', h2, by rw [h3]; simp, q⟩
    · cases e
  · rintro ⟨h0, as, α', h2, h3, q⟩
    obtain ⟨δ, h3⟩ := Option.ne_none_iff_exists'.mp h3
    exact ⟨_, α', by simp [h0, h2, h3], q⟩
@[simp ↓] theorem wp_call {F : FF} {ts : M (List Sl)} {Q} : wp (mCallFn F ts) α Q ↔ wp ts α fun as α1 => if hasDk as = true then ws (F as α1.δ) fun p => ∃ δ', p.2 = some δ' ∧ Q p.1 ⟨α1.ρ, some δ'⟩ else ws (F as none) fun p => p.2 = none ∧ Q p.1 α1 := by
  unfold wp mCallFn
  constructor
  · rintro ⟨x, α', e, q⟩
    split at e
    · cases e
    · rename_i as α1 h1
      refine ⟨as, α1, h1, ?_⟩
      split at e
      · rename_i hd
        rw [if_pos hd]
        split at e
        · rename_i r δ' h2
          cases e
          exact ⟨_, h2, δ', rfl, q⟩
        · cases e
      · rename_i hd
        rw [if_neg hd]
        split at e
        · rename_i r h2
          cases e
          exact ⟨_, h2, rfl, q⟩
        · cases e
  · rintro ⟨as, α1, h1, h⟩
    split at h
    · rename_i hd
      obtain ⟨⟨r, z⟩, h2, δ', e2, q⟩ := h
      have e2 : z = some δ' := e2
      subst e2
      exact ⟨r, _, by simp [h1, hd, h2], q⟩
    · rename_i hd
      obtain ⟨⟨r, z⟩, h2, e2, q⟩ := h
      have e2 : z = none := e2
      subst e2
      exact ⟨r, _, by simp [h1, hd, h2], q⟩
/-! statements -/
@[simp ↓] theorem wp_nx {Q} : wp sNx α Q ↔ Q .nx α := wp_of rfl
@[simp ↓] theorem wp_bk {Q} : wp sBk α Q ↔ Q .bk α := wp_of rfl
@[simp ↓] theorem wp_ct {Q} : wp sCt α Q ↔ Q .ct α := wp_of rfl
@[simp ↓] theorem wp_no {Q} : wp sNo α Q ↔ False := by
  constructor
  · rintro ⟨x, α', e, q⟩; cases e
  · intro h; exact h.elim
@[simp ↓] theorem wp_seq {t u : MS} {Q} : wp (sSeq t u) α Q ↔ wp t α fun o α1 => match o with | .nx => wp u α1 Q | .bk => Q .bk α1 | .ct => Q .ct α1 | .rt d => Q (.rt d) α1 := by
  unfold wp sSeq
  constructor
  · rintro ⟨x, α', e, q⟩
    split at e
    · cases e
    · rename_i α1 h1; exact ⟨_, _, h1, x, α', e, q⟩
    · rename_i α1 h1; cases e; exact ⟨_, _, h1, q⟩
    · rename_i α1 h1; cases e; exact ⟨_, _, h1, q⟩
    · rename_i α1 d h1; cases e; exact ⟨_, _, h1, q⟩
  · rintro ⟨o, α1, h1, h⟩
    cases o with
    | nx => obtain ⟨x, α', e, q⟩ := h; exact ⟨x, α', by simp [h1, e], q⟩
    | bk => exact ⟨_, _, by simp [h1], h⟩
    | ct => exact ⟨_, _, by simp [h1], h⟩
    | rt d => exact ⟨_, _, by simp [h1], h⟩
@[simp ↓] theorem wp_drop {t : M PyData} {Q} : wp (sDrop t) α Q ↔ wp t α fun _ α1 => Q .nx α1 := by
  unfold wp sDrop
  constructor
  · rintro ⟨x, α', e, q⟩
    split at e
    · cases e
    · rename_i d α1 h1; cases e; exact ⟨_, _, h1, q⟩
  · rintro ⟨d, α1, h1, q⟩; exact ⟨_, _, by rw [h1], q⟩
@[simp ↓] theorem wp_ret {t : M PyData} {Q} : wp (sRet t) α Q ↔ wp t α fun d α1 => Q (.rt d) α1 := by
  unfold wp sRet
  constructor
  · rintro ⟨x, α', e, q⟩
    split at e
    · cases e
    · rename_i d α1 h1; cases e; exact ⟨_, _, h1, q⟩
  · rintro ⟨d, α1, h1, q⟩; exact ⟨_, _, by rw [h1], q⟩
@[simp ↓] theorem wp_if {c : M Bool} {t u : MS} {Q} : wp (sIf c t u) α Q ↔ wp c α fun b α1 => (b = true → wp t α1 Q) ∧ (b = false → wp u α1 Q) := by
  unfold wp sIf
  constructor
  · rintro ⟨x, α', e, q⟩
    split at e
    · cases e
    · rename_i α1 h1; exact ⟨_, _, h1, fun _ => ⟨x, α', e, q⟩, fun h => by cases h⟩
    · rename_i α1 h1; exact ⟨_, _, h1, fun h => (by cases h), fun _ => ⟨x, α', e, q⟩⟩
  · rintro ⟨b, α1, h1, h2, h3⟩
    cases b with
    | true => obtain ⟨x, α', e, q⟩ := h2 rfl; exact ⟨x, α', by rw [h1]; exact e, q⟩
    | false => obtain ⟨x, α', e, q⟩ := h3 rfl; exact ⟨x, α', by rw [h1]; exact e, q⟩
@[simp ↓] theorem wp_asg {t : M PyData} {g : G1} {Q} : wp (sAsg t g) α Q ↔ wp t α fun d α1 => ws (g d α1) fun α2 => Q .nx α2 := by
  unfold wp sAsg ws
  constructor
  · rintro ⟨x, α', e, q⟩
    split at e
    · cases e
    · rename_i d α1 h1
      split at e
      · cases e
      · rename_i α2 h2; cases e; exact ⟨_, _, h1, _, h2, q⟩
  · rintro ⟨d, α1, h1, α2, h2, q⟩; exact ⟨_, α2, by simp [h1, h2], q⟩
@[simp ↓] theorem wp_own {i : Nat} {t : M (List PyData)} {Q} : wp (sOwn i t) α Q ↔ wp t α fun ds α1 => i < α1.ρ.length ∧ Q .nx (α1.set i (.own ds)) := by
  unfold wp sOwn
  constructor
  · rintro ⟨x, α', e, q⟩
    split at e
    · cases e
    · rename_i d α1 h1
      split at e
      · rename_i h2; cases e; exact ⟨_, _, h1, h2, q⟩
      · cases e
  · rintro ⟨d, α1, h1, h2, q⟩; exact ⟨_, _, by simp [h1, h2], q⟩
@[simp ↓] theorem wp_mD {t : M PyData} {Q} : wp (mD t) α Q ↔ wp t α fun d α1 => Q (.d d) α1 := by
  unfold wp mD
  constructor
  · rintro ⟨x, α', e, q⟩
    split at e
    · cases e
    · rename_i d α1 h1; cases e; exact ⟨_, _, h1, q⟩
  · rintro ⟨d, α1, h1, q⟩; exact ⟨_, _, by rw [h1], q⟩
@[simp ↓] theorem wp_mF {t : M (List PyData)} {Q} : wp (mF t) α Q ↔ wp t α fun d α1 => Q (.f d) α1 := by
  unfold wp mF
  constructor
  · rintro ⟨x, α', e, q⟩
    split at e
    · cases e
    · rename_i d α1 h1; cases e; exact ⟨_, _, h1, q⟩
  · rintro ⟨d, α1, h1, q⟩; exact ⟨_, _, by rw [h1], q⟩
@[simp ↓] theorem wp_pair {i j : Nat} {t1 t2 : M Ar} {Q} : wp (sPair i j t1 t2) α Q ↔ wp t1 α fun a1 α1 => wp t2 α1 fun a2 α2 => (i < α2.ρ.length ∧ j < α2.ρ.length) ∧ Q .nx ((α2.set i a1.sl).set j a2.sl) := by
  unfold wp sPair
  constructor
  · rintro ⟨x, α', e, q⟩
    split at e
    · cases e
    · rename_i a1 α1 h1
      split at e
      · cases e
      · rename_i a2 α2 h2
        split at e
        · rename_i h3; cases e; exact ⟨_, _, h1, _, _, h2, h3, q⟩
        · cases e
  · rintro ⟨a1, α1, h1, a2, α2, h2, h3, q⟩
    exact ⟨_, _, by rw [h1]; simp only [h2, if_pos h3], q⟩
def lsOf : PyData → Option (List PyData)
  | .list es => some es
  | _ => none
@[simp ↓] theorem lsOf_l {es} : lsOf (.list es) = some es := rfl
theorem lsOf_some {d es} (h : lsOf d = some es) : d = .list es := by
  cases d <;> simp_all [lsOf]
@[simp ↓] theorem wp_app {i : Nat} {t : M PyData} {Q} : wp (mApp i t) α Q ↔ ws (Pd.ownOf i α) fun _ => wp t α fun d α1 => ws (Pd.ownOf i α1) fun ds => ds.length < 16777216 ∧ Q .none (α1.set i (.own (ds ++ [d]))) := by
  unfold wp mApp ws
  constructor
  · rintro ⟨x, α', e, q⟩
    split at e
    · cases e
    · rename_i es h0
      split at e
      · cases e
      · rename_i d α1 h1
        split at e
        · cases e
        · rename_i ds h2
          split at e
          · rename_i h3; cases e; exact ⟨es, h0, _, _, h1, _, h2, h3, q⟩
          · cases e
  · rintro ⟨es, h0, d, α1, h1, ds, h2, h3, q⟩
    exact ⟨_, _, by rw [h0, h1]; simp only [h2, if_pos h3], q⟩
@[simp ↓] theorem wp_ext {i : Nat} {t : M PyData} {Q} : wp (mExt i t) α Q ↔ ws (Pd.ownOf i α) fun _ => wp t α fun d α1 => ws (lsOf d) fun es => ws (Pd.ownOf i α1) fun ds => ds.length + es.length ≤ 16777216 ∧ Q .none (α1.set i (.own (ds ++ es))) := by
  unfold wp mExt ws
  constructor
  · rintro ⟨x, α', e, q⟩
    split at e
    · cases e
    · rename_i es h0
      split at e
      · rename_i fs α1 h1
        split at e
        · cases e
        · rename_i ds h2
          split at e
          · rename_i h3; cases e; exact ⟨es, h0, _, _, h1, _, rfl, _, h2, h3, q⟩
          · cases e
      · cases e
  · rintro ⟨es, h0, d, α1, h1, fs, hd, ds, h2, h3, q⟩
    have hd := lsOf_some hd
    subst hd
    exact ⟨_, _, by rw [h0, h1]; simp only [h2, if_pos h3], q⟩
theorem wp_augIx {f : Int → Int → Int} {i : Nat} {ti tv : M PyData} {Q} (h : ∃ es, ownOf i α = some es) (q : wp ti α fun k α1 => ∃ k' : Nat, k = .int k' ∧ (k' : Int) < 2 ^ 63 ∧ ∃ ds a, ownOf i α1 = some ds ∧ ds[k']? = some (.int a) ∧ wp tv α1 fun b α2 => ∃ b', b = .int b' ∧ ∃ es, ownOf i α2 = some es ∧ k' < es.length ∧ Q .nx (α2.set i (.own (es.set k' (.int (f a b')))))) : wp (sAugIx f i ti tv) α Q := by
  obtain ⟨es, h0⟩ := h
  obtain ⟨k, α1, h1, k', rfl, hk, ds, a, h2, h3, b, α2, h4, b', rfl, fs, h5, h6, q⟩ := q
  refine ⟨.nx, _, ?_, q⟩
  unfold sAugIx
  simp only [h0, h1, h2]
  rw [if_pos ⟨by omega, hk⟩]
  simp only [Int.toNat_natCast, h3, h4, h5]
  have : ixN fs.length (k' : Int) = some k' := by unfold ixN; rw [if_pos (by omega), if_pos (by omega)]; rfl
  rw [this]
theorem wp_aug {f : Int → Int → Int} {i : Nat} {tv : M PyData} {Q} {a : Int} (h : α.ρ[i]? = some (.val (.int a))) (q : wp tv α fun b α1 => ∃ b', b = .int b' ∧ i < α1.ρ.length ∧ Q .nx (α1.set i (.val (.int (f a b'))))) : wp (sAug f i tv) α Q := by
  obtain ⟨b, α1, h1, b', rfl, h2, q⟩ := q
  refine ⟨.nx, _, ?_, q⟩
  unfold sAug
  simp only [h, h1, if_pos h2]
@[simp ↓] theorem wp_for {ti : M (List PyData)} {gt : G1} {body : MS} {Q} : wp (sFor ti gt body) α Q ↔ wp ti α fun ds α1 => wp (forGo gt body ds) α1 Q := by
  unfold wp sFor
  constructor
  · rintro ⟨x, α', e, q⟩
    split at e
    · cases e
    · rename_i ds α1 h1; exact ⟨_, _, h1, x, α', e, q⟩
  · rintro ⟨ds, α1, h1, x, α', e, q⟩; exact ⟨x, α', by rw [h1]; exact e, q⟩
@[simp ↓] theorem wp_forNil {gt : G1} {body : MS} {Q} : wp (forGo gt body []) α Q ↔ Q .nx α := wp_of rfl
theorem wp_forCons {gt : G1} {body : MS} {d : PyData} {ds : List PyData} {Q} : wp (forGo gt body (d :: ds)) α Q ↔ ws (gt d α) fun α1 => wp body α1 fun o α2 => match o with | .nx => wp (forGo gt body ds) α2 Q | .ct => wp (forGo gt body ds) α2 Q | .bk => Q .nx α2 | .rt r => Q (.rt r) α2 := by
  constructor
  · rintro ⟨x, α', e, q⟩
    unfold forGo at e
    split at e
    · cases e
    · rename_i α1 h1
      refine ⟨α1, h1, ?_⟩
      split at e
      · cases e
      · rename_i α2 h2; exact ⟨_, _, h2, x, α', e, q⟩
      · rename_i α2 h2; exact ⟨_, _, h2, x, α', e, q⟩
      · rename_i α2 h2; cases e; exact ⟨_, _, h2, q⟩
      · rename_i r α2 h2; cases e; exact ⟨_, _, h2, q⟩
  · rintro ⟨α1, h1, o, α2, h2, h⟩
    cases o with
    | nx => obtain ⟨x, α', e, q⟩ := h; exact ⟨x, α', by unfold forGo; simp only [h1, h2]; exact e, q⟩
    | ct => obtain ⟨x, α', e, q⟩ := h; exact ⟨x, α', by unfold forGo; simp only [h1, h2]; exact e, q⟩
    | bk => exact ⟨_, _, by unfold forGo; simp only [h1, h2], h⟩
    | rt d => exact ⟨_, _, by unfold forGo; simp only [h1, h2], h⟩
/-- a loop by its invariant: the items to come, and those behind -/
theorem wp_forI {gt : G1} {body : MS} {Q : Out → Ab → Prop} (I : List PyData → Ab → Prop) {ds : List PyData} (h0 : I ds α)
    (hs : ∀ d r β, I (d :: r) β → ws (gt d β) fun α1 => wp body α1 fun o α2 => match o with | .nx => I r α2 | .ct => I r α2 | .bk => Q .nx α2 | .rt x => Q (.rt x) α2)
    (he : ∀ β, I [] β → Q .nx β) : wp (forGo gt body ds) α Q := by
  induction ds generalizing α with
  | nil => rw [wp_forNil]; exact he _ h0
  | cons d r ih =>
    rw [wp_forCons]
    obtain ⟨α1, h1, h2⟩ := hs d r α h0
    refine ⟨α1, h1, wp_mono h2 fun o α2 h => ?_⟩
    cases o with
    | nx => exact ih h
    | ct => exact ih h
    | bk => exact h
    | rt x => exact h
end

inductive F2 {A B : Type} (Y : A → B → Prop) : List A → List B → Prop
  | nil : F2 Y [] []
  | cons {a : A} {b : B} {as : List A} {bs : List B} : Y a b → F2 Y as bs → F2 Y (a :: as) (b :: bs)
/-! ### comprehensions -/
section
variable {vs : List Nat} {ti : M (List PyData)} {gt : G1} {tt : M Bool} {te : M PyData} {α : Ab}
@[simp ↓] theorem wp_lc {Q} : wp (mLc vs ti gt tt te) α Q ↔ wp ti α fun ds α1 => (okVs vs α1.ρ && decide (ds.length < 16777216)) = true ∧ wp (lcGo vs gt tt te ds) (α1.wipe vs) fun ys α2 => Q ys (α1.rest α2 vs) := by
  unfold wp mLc
  constructor
  · rintro ⟨x, α', e, q⟩
    split at e
    · cases e
    · rename_i ds α1 h1
      split at e
      · rename_i h2
        split at e
        · cases e
        · rename_i ys α2 h3; cases e; exact ⟨_, _, h1, h2, _, _, h3, q⟩
      · cases e
  · rintro ⟨ds, α1, h1, h2, ys, α2, h3, q⟩
    exact ⟨_, _, by rw [h1]; simp only [if_pos h2, h3], q⟩
/-- no part of it changes anything -/
theorem lc_pure {σ : Ab} (f : PyData → Option PyData) : ∀ (ds : List PyData), (∀ d ∈ ds, ws (gt d σ) fun α1 => wp tt α1 fun b α2 => match f d with | none => b = false ∧ α2.wipe vs = σ | some y => b = true ∧ wp te α2 fun y' α3 => y' = y ∧ α3.wipe vs = σ) → lcGo vs gt tt te ds σ = some (ds.filterMap f, σ)
  | [], _ => rfl
  | d :: ds, h => by
    have ih := lc_pure f ds fun x hx => h x (List.mem_cons_of_mem _ hx)
    obtain ⟨α1, h1, b, α2, h2, h3⟩ := h d List.mem_cons_self
    unfold lcGo
    simp only [h1, h2]
    cases e : f d with
    | none =>
      rw [e] at h3
      obtain ⟨rfl, h4⟩ := h3
      simp only [h4, ih, List.filterMap_cons, e]
    | some y =>
      rw [e] at h3
      obtain ⟨rfl, y', α3, h4, rfl, h5⟩ := h3
      simp only [h4, h5, ih, List.filterMap_cons, e]
theorem wp_lcGo {σ : Ab} (f : PyData → Option PyData) {ds : List PyData} (h : ∀ d ∈ ds, ws (gt d σ) fun α1 => wp tt α1 fun b α2 => match f d with | none => b = false ∧ α2.wipe vs = σ | some y => b = true ∧ wp te α2 fun y' α3 => y' = y ∧ α3.wipe vs = σ) {Q} (q : Q (ds.filterMap f) σ) : wp (lcGo vs gt tt te ds) σ Q := ⟨_, _, lc_pure f ds h, q⟩
/-- with draws: an invariant of the state, and what an item can give -/
theorem lc_rel {I : Nat → Ab → Prop} {Y : PyData → PyData → Prop} : ∀ (ds : List PyData) (k : Nat) (σ : Ab), I k σ → (∀ d ∈ ds, ∀ k σ, I k σ → ws (gt d σ) fun α1 => wp tt α1 fun b α2 => if b = true then wp te α2 fun y α3 => Y d y ∧ I (k + 1) (α3.wipe vs) else I (k + 1) (α2.wipe vs)) →
    ∃ ys σ' l, lcGo vs gt tt te ds σ = some (ys, σ') ∧ I (k + ds.length) σ' ∧ l.Sublist ds ∧ F2 Y l ys
  | [], k, σ, h0, _ => ⟨[], σ, [], rfl, h0, .slnil, F2.nil⟩
  | d :: ds, k, σ, h0, h => by
    obtain ⟨α1, h1, b, α2, h2, h3⟩ := h d List.mem_cons_self k σ h0
    unfold lcGo
    simp only [h1, h2]
    cases b with
    | false =>
      obtain ⟨ys, σ', l, e, i, s, f⟩ := lc_rel ds (k + 1) _ h3 fun x hx => h x (List.mem_cons_of_mem _ hx)
      refine ⟨ys, σ', l, e, ?_, s.cons _, f⟩
      rw [List.length_cons]; rw [show k + (ds.length + 1) = k + 1 + ds.length by omega]; exact i
    | true =>
      rw [if_pos rfl] at h3
      obtain ⟨y, α3, h4, h5, h6⟩ := h3
      obtain ⟨ys, σ', l, e, i, s, f⟩ := lc_rel ds (k + 1) _ h6 fun x hx => h x (List.mem_cons_of_mem _ hx)
      refine ⟨y :: ys, σ', d :: l, ?_, ?_, s.cons₂ _, F2.cons h5 f⟩
      · simp only [h4, e]
      · rw [List.length_cons]; rw [show k + (ds.length + 1) = k + 1 + ds.length by omega]; exact i
@[simp ↓] theorem wp_all {Q} : wp (mAll vs ti gt tt te) α Q ↔ wp ti α fun ds α1 => (okVs vs α1.ρ && decide (ds.length < 16777216)) = true ∧ wp (alGo vs gt tt te ds) (α1.wipe vs) fun b α2 => Q (.bool b) (α1.rest α2 vs) := by
  unfold wp mAll
  constructor
  · rintro ⟨x, α', e, q⟩
    split at e
    · cases e
    · rename_i ds α1 h1
      split at e
      · rename_i h2
        split at e
        · cases e
        · rename_i ys α2 h3; cases e; exact ⟨_, _, h1, h2, _, _, h3, q⟩
      · cases e
  · rintro ⟨ds, α1, h1, h2, ys, α2, h3, q⟩
    exact ⟨_, _, by rw [h1]; simp only [if_pos h2, h3], q⟩
theorem al_pure {σ : Ab} (f : PyData → Bool) : ∀ (ds : List PyData), (∀ d ∈ ds, ws (gt d σ) fun α1 => wp tt α1 fun b α2 => b = true ∧ wp te α2 fun y' α3 => y' = .bool (f d) ∧ α3.wipe vs = σ) → alGo vs gt tt te ds σ = some (ds.all f, σ)
  | [], _ => rfl
  | d :: ds, h => by
    have ih := al_pure f ds fun x hx => h x (List.mem_cons_of_mem _ hx)
    obtain ⟨α1, h1, b, α2, h2, rfl, y', α3, h4, rfl, h5⟩ := h d List.mem_cons_self
    unfold alGo
    simp only [h1, h2, h4]
    cases e : f d with
    | true => simp only [h5, ih, List.all_cons, e, Bool.true_and]
    | false => simp only [h5, List.all_cons, e, Bool.false_and]
theorem wp_alGo {σ : Ab} (f : PyData → Bool) {ds : List PyData} (h : ∀ d ∈ ds, ws (gt d σ) fun α1 => wp tt α1 fun b α2 => b = true ∧ wp te α2 fun y' α3 => y' = .bool (f d) ∧ α3.wipe vs = σ) {Q} (q : Q (ds.all f) σ) : wp (alGo vs gt tt te ds) σ Q := ⟨_, _, al_pure f ds h, q⟩
@[simp ↓] theorem wp_sortS {Q} : wp (mSortS vs ti gt tt te) α Q ↔ wp ti α fun ds α1 => (okVs vs α1.ρ && decide (ds.length < 63)) = true ∧ wp (lcGo vs gt tt te ds) (α1.wipe vs) fun ys α2 => ws (dSortS ys) fun out => Q out (α1.rest α2 vs) := by
  unfold wp mSortS ws
  constructor
  · rintro ⟨x, α', e, q⟩
    split at e
    · cases e
    · rename_i ds α1 h1
      split at e
      · rename_i h2
        split at e
        · cases e
        · rename_i ys α2 h3
          split at e
          · cases e
          · rename_i out h4; cases e; exact ⟨_, _, h1, h2, _, _, h3, _, h4, q⟩
      · cases e
  · rintro ⟨ds, α1, h1, h2, ys, α2, h3, out, h4, q⟩
    exact ⟨_, _, by rw [h1]; simp only [if_pos h2, h3, h4], q⟩
end
/-- a def by its body -/
theorem f_of {n m : Nat} {body : MS} {as : List Sl} {δ : Option Dk} (hl : as.length = n) {r : PyData} {δ' : Option Dk} (h : wp body ⟨as ++ List.replicate (m - as.length) .un, δ⟩ fun o α => (o = .rt r ∨ (o = .nx ∧ r = .none)) ∧ α.δ = δ') : fAr n (fOf m body) as δ = some (r, δ') := by
  obtain ⟨o, α, e, h1, h2⟩ := h
  unfold fAr fOf
  rw [if_pos hl, e]
  rcases h1 with rfl | ⟨rfl, rfl⟩
  · rw [← h2]
  · rw [← h2]
theorem f_rel {n m : Nat} {body : MS} {as : List Sl} {δ : Option Dk} (hl : as.length = n) {P : PyData → Option Dk → Prop} (h : wp body ⟨as ++ List.replicate (m - as.length) .un, δ⟩ fun o α => ∃ r, (o = .rt r ∨ (o = .nx ∧ r = .none)) ∧ P r α.δ) : ∃ r δ', fAr n (fOf m body) as δ = some (r, δ') ∧ P r δ' := by
  obtain ⟨o, α, e, r, h1, h2⟩ := h
  exact ⟨r, α.δ, f_of hl ⟨o, α, e, h1, rfl⟩, h2⟩
end Md
end
section
set_option Elab.async false
set_option linter.all false
set_option maxRecDepth 100000
set_option maxHeartbeats 1000000
namespace Md
open PySem PySem.Spec PyProof.Rows L2 Pd
@[simp ↓] theorem ws_ite {τ : Type} {c : Prop} [Decidable c] {x : τ} {k} : ws (if c then some x else none) k ↔ c ∧ k x := by unfold ws; split <;> simp_all
section
variable {α : Ab} {t t1 t2 t3 : M PyData} {ts ts2 : M (List PyData)} {c c1 c2 : M Bool}
@[simp ↓] theorem wp_mr {τ : Type} {x : τ} {Q} : wp (mr x) α Q ↔ Q x α := wp_of rfl
@[simp ↓] theorem wp_m2 {f} {Q} : wp (m2 f t1 t2) α Q ↔ wp t1 α fun d1 α1 => wp t2 α1 fun d2 α2 => ws (f d1 d2) fun d => Q d α2 := by unfold m2; rw [wp_mb]; refine wp_iff fun _ _ => ?_; rw [wp_mb]; refine wp_iff fun _ _ => ?_; rw [wp_mo]
@[simp ↓] theorem wp_m2b {f} {Q} : wp (m2b f t1 t2) α Q ↔ wp t1 α fun d1 α1 => wp t2 α1 fun d2 α2 => ws (f d1 d2) fun d => Q d α2 := by unfold m2b; rw [wp_mb]; refine wp_iff fun _ _ => ?_; rw [wp_mb]; refine wp_iff fun _ _ => ?_; rw [wp_mo]
@[simp ↓] theorem wp_m1 {f} {Q} : wp (m1 f t) α Q ↔ wp t α fun d1 α1 => ws (f d1) fun d => Q d α1 := by unfold m1; rw [wp_mb]; refine wp_iff fun _ _ => ?_; rw [wp_mo]
@[simp ↓] theorem wp_m1b {f} {Q} : wp (m1b f t) α Q ↔ wp t α fun d1 α1 => ws (f d1) fun d => Q d α1 := by unfold m1b; rw [wp_mb]; refine wp_iff fun _ _ => ?_; rw [wp_mo]
@[simp ↓] theorem wp_mB {Q} : wp (mB c) α Q ↔ wp c α fun b α1 => Q (.bool b) α1 := by unfold mB; rw [wp_mb]; refine wp_iff fun _ _ => ?_; rw [wp_mr]
@[simp ↓] theorem wp_mL {Q} : wp (mL ts) α Q ↔ wp ts α fun b α1 => Q (.list b) α1 := by unfold mL; rw [wp_mb]; refine wp_iff fun _ _ => ?_; rw [wp_mr]
@[simp ↓] theorem wp_mIf {Q} : wp (mIf c t1 t2) α Q ↔ wp c α fun b α1 => (b = true → wp t1 α1 Q) ∧ (b = false → wp t2 α1 Q) := by unfold mIf; rw [wp_mb]; refine wp_iff fun _ _ => ?_; rw [wp_bif]
@[simp ↓] theorem wp_mAnd {Q} : wp (mAnd c1 c2) α Q ↔ wp c1 α fun b α1 => (b = true → wp c2 α1 Q) ∧ (b = false → Q false α1) := by unfold mAnd; rw [wp_mb]; refine wp_iff fun _ _ => ?_; rw [wp_bif, wp_mr]
@[simp ↓] theorem wp_mOr {Q} : wp (mOr c1 c2) α Q ↔ wp c1 α fun b α1 => (b = true → Q true α1) ∧ (b = false → wp c2 α1 Q) := by unfold mOr; rw [wp_mb]; refine wp_iff fun _ _ => ?_; rw [wp_bif, wp_mr]
@[simp ↓] theorem wp_mNot {Q} : wp (mNot c) α Q ↔ wp c α fun b α1 => Q (!b) α1 := by unfold mNot; rw [wp_mb]; refine wp_iff fun _ _ => ?_; rw [wp_mr]
@[simp ↓] theorem wp_mAndV {Q} : wp (mAndV t1 t2) α Q ↔ wp t1 α fun d α1 => ws (tr d) fun b => (b = true → wp t2 α1 Q) ∧ (b = false → Q d α1) := by unfold mAndV; rw [wp_mb]; refine wp_iff fun _ _ => ?_; rw [wp_mb, wp_mo]; refine ws_iff fun _ => ?_; rw [wp_bif, wp_mr]
@[simp ↓] theorem wp_mOrV {Q} : wp (mOrV t1 t2) α Q ↔ wp t1 α fun d α1 => ws (tr d) fun b => (b = true → Q d α1) ∧ (b = false → wp t2 α1 Q) := by unfold mOrV; rw [wp_mb]; refine wp_iff fun _ _ => ?_; rw [wp_mb, wp_mo]; refine ws_iff fun _ => ?_; rw [wp_bif, wp_mr]
@[simp ↓] theorem wp_mNil {Q} : wp mNil α Q ↔ Q [] α := by exact wp_mr
@[simp ↓] theorem wp_mCons {Q} : wp (mCons t ts) α Q ↔ wp t α fun d α1 => wp ts α1 fun ds α2 => Q (d :: ds) α2 := by unfold mCons; rw [wp_mb]; refine wp_iff fun _ _ => ?_; rw [wp_mb]; refine wp_iff fun _ _ => ?_; rw [wp_mr]
@[simp ↓] theorem wp_mTup {Q} : wp (mTup ts) α Q ↔ wp ts α fun ds α1 => ds.length ≤ 16777216 ∧ Q (.tuple ds) α1 := by unfold mTup; rw [wp_mb]; refine wp_iff fun _ _ => ?_; rw [wp_mo, ws_ite]
@[simp ↓] theorem wp_mLst {Q} : wp (mLst ts) α Q ↔ wp ts α fun ds α1 => ds.length ≤ 16777216 ∧ Q ds α1 := by unfold mLst; rw [wp_mb]; refine wp_iff fun _ _ => ?_; rw [wp_mo, ws_ite]
@[simp ↓] theorem wp_mCall {f} {Q} : wp (mCall f ts) α Q ↔ wp ts α fun ds α1 => ws (f ds) fun d => Q d α1 := by unfold mCall; rw [wp_mb]; refine wp_iff fun _ _ => ?_; rw [wp_mo]
@[simp ↓] theorem wp_mCallF {f} {Q} : wp (mCallF f ts) α Q ↔ wp ts α fun ds α1 => ws (f ds) fun d => Q d α1 := by unfold mCallF; rw [wp_mb]; refine wp_iff fun _ _ => ?_; rw [wp_mo]
@[simp ↓] theorem wp_mNotV {Q} : wp (mNotV t) α Q ↔ wp t α fun d α1 => ws (tr d) fun b => Q (.bool !b) α1 := by unfold mNotV; rw [wp_mb]; refine wp_iff fun _ _ => ?_; rw [wp_mo]; unfold ws; simp only [Option.map_eq_some_iff]; constructor <;> intro h <;> (first | (obtain ⟨_, ⟨b, h1, rfl⟩, h2⟩ := h; exact ⟨b, h1, h2⟩) | (obtain ⟨b, h1, h2⟩ := h; exact ⟨_, ⟨b, h1, rfl⟩, h2⟩))
@[simp ↓] theorem wp_mIx {Q} : wp (mIx t1 t2) α Q ↔ wp t1 α fun d1 α1 => wp t2 α1 fun d2 α2 => ws (dIx d1 d2) fun d => Q d α2 := by unfold mIx; rw [wp_mb]; refine wp_iff fun _ _ => ?_; rw [wp_mb]; refine wp_iff fun _ _ => ?_; rw [wp_mo]
def dR1 (d : PyData) : Option (List PyData) := match d with | .int n => if i62 n then some (rgD 0 n) else none | _ => none
def dR2 (d1 d2 : PyData) : Option (List PyData) := match d1, d2 with | .int a, .int b => if i62 a && i62 b then some (rgD a b) else none | _, _ => none
def dG1 (d : PyData) : Option (List PyData) := match d with | .int n => dRg 0 n | _ => none
def dIt (d : PyData) : Option (List PyData) := match d with | .list ds => some ds | .tuple ds => some ds | _ => none
def dZp (d1 d2 : PyData) : Option (List PyData) := match d1, d2 with | .list a, .list b => some (zipD a b) | _, _ => none
@[simp ↓] theorem wp_mR1 {Q} : wp (mR1 t) α Q ↔ wp t α fun d α1 => ws (dR1 d) fun ds => Q ds α1 := by unfold mR1; rw [wp_mb]; refine wp_iff fun _ _ => ?_; rw [wp_mo]; try exact Iff.rfl
@[simp ↓] theorem wp_mR2 {Q} : wp (mR2 t1 t2) α Q ↔ wp t1 α fun d1 α1 => wp t2 α1 fun d2 α2 => ws (dR2 d1 d2) fun ds => Q ds α2 := by unfold mR2; rw [wp_mb]; refine wp_iff fun _ _ => ?_; rw [wp_mb]; refine wp_iff fun _ _ => ?_; rw [wp_mo]; try exact Iff.rfl
@[simp ↓] theorem wp_mRg1 {Q} : wp (mRg1 t) α Q ↔ wp t α fun d α1 => ws (dG1 d) fun ds => Q ds α1 := by unfold mRg1; rw [wp_mb]; refine wp_iff fun _ _ => ?_; rw [wp_mo]; try exact Iff.rfl
@[simp ↓] theorem wp_mItems {Q} : wp (mItems t) α Q ↔ wp t α fun d α1 => ws (dIt d) fun ds => Q ds α1 := by unfold mItems; rw [wp_mb]; refine wp_iff fun _ _ => ?_; rw [wp_mo]; try exact Iff.rfl
@[simp ↓] theorem wp_mZip {Q} : wp (mZip t1 t2) α Q ↔ wp t1 α fun d1 α1 => wp t2 α1 fun d2 α2 => ws (dZp d1 d2) fun ds => Q ds α2 := by unfold mZip; rw [wp_mb]; refine wp_iff fun _ _ => ?_; rw [wp_mb]; refine wp_iff fun _ _ => ?_; rw [wp_mo]; try exact Iff.rfl
@[simp ↓] theorem wp_mTupG {vs ti gt tt te} {Q} : wp (mTupG vs ti gt tt te) α Q ↔ wp (mLc vs ti gt tt te) α fun ds α1 => Q (.tuple ds) α1 := by unfold mTupG; rw [wp_mb]; refine wp_iff fun _ _ => ?_; rw [wp_mr]
@[simp ↓] theorem wp_mSortG {vs ti gt tt te} {Q} : wp (mSortG vs ti gt tt te) α Q ↔ wp (mLc vs ti gt tt te) α fun ds α1 => ws (dSort ds) fun d => Q d α1 := by unfold mSortG; rw [wp_mb]; refine wp_iff fun _ _ => ?_; rw [wp_mo]
@[simp ↓] theorem wp_mRep {Q} : wp (mRep ts t) α Q ↔ wp ts α fun a α1 => wp t α1 fun d α2 => ws (dRep a d) fun ds => Q ds α2 := by unfold mRep; rw [wp_mb]; refine wp_iff fun _ _ => ?_; rw [wp_mb]; refine wp_iff fun _ _ => ?_; rw [wp_mo]
@[simp ↓] theorem wp_mCat {Q} : wp (mCat ts ts2) α Q ↔ wp ts α fun a α1 => wp ts2 α1 fun b α2 => a.length + b.length ≤ 16777216 ∧ Q (a ++ b) α2 := by unfold mCat; rw [wp_mb]; refine wp_iff fun _ _ => ?_; rw [wp_mb]; refine wp_iff fun _ _ => ?_; rw [wp_mo, ws_ite]
@[simp ↓] theorem wp_mRev {Q} : wp (mRev ts) α Q ↔ wp ts α fun a α1 => Q a.reverse α1 := by unfold mRev; rw [wp_mb]; refine wp_iff fun _ _ => ?_; rw [wp_mr]
@[simp ↓] theorem wp_mChain {f f'} {Q} : wp (mChain f f' t1 t2 t3) α Q ↔ wp t1 α fun d1 α1 => wp t2 α1 fun d2 α2 => ws (f d1 d2) fun b => (b = true → wp t3 α2 fun d3 α3 => ws (f' d2 d3) fun b' => Q b' α3) ∧ (b = false → Q false α2) := by unfold mChain; rw [wp_mb]; refine wp_iff fun _ _ => ?_; rw [wp_mb]; refine wp_iff fun _ _ => ?_; rw [wp_mb, wp_mo]; refine ws_iff fun _ => ?_; rw [wp_bif, wp_mr]; refine and_congr (imp_congr Iff.rfl ?_) Iff.rfl; rw [wp_mb]; refine wp_iff fun _ _ => ?_; rw [wp_mo]
end
/-! data -/
section
variable {i j : Int} {α : Ab}
@[simp ↓] theorem ws_gSet {n : Nat} {d : PyData} {k} : ws (gSet n d α) k ↔ n < α.ρ.length ∧ k (α.set n (.val d)) := by unfold ws gSet; simp [and_assoc]
@[simp ↓] theorem ws_gNo {k} : ws (gNo [] α) k ↔ k α := by simp [ws, gNo]
@[simp ↓] theorem ws_gTp {a : G2} {ds : List PyData} {k} : ws (gTp a (.tuple ds) α) k ↔ ws (a ds α) k := Iff.rfl
@[simp ↓] theorem ws_gMore {a : G1} {b : G2} {d : PyData} {ds : List PyData} {k} : ws (gMore a b (d :: ds) α) k ↔ ws (a d α) fun α1 => ws (b ds α1) k := by
  unfold ws gMore
  cases e : a d α <;> simp [e]
@[simp ↓] theorem ws_mul {k} : ws (dMul (.int i) (.int j)) k ↔ i.natAbs.log2 + j.natAbs.log2 < 1000000 ∧ k (.int (i * j)) := by show ws (if _ then some _ else none) k ↔ _; rw [ws_ite]
@[simp ↓] theorem ws_mod {k} : ws (dMod (.int i) (.int j)) k ↔ 0 < j ∧ k (.int (i % j)) := by unfold ws dMod dI; by_cases h : 0 < j <;> simp [h]
@[simp ↓] theorem ws_div {k} : ws (dDiv (.int i) (.int j)) k ↔ (0 < j ∧ j.natAbs.log2 < 9000) ∧ k (.int (i / j)) := by unfold ws dDiv dI; by_cases h : 0 < j ∧ j.natAbs.log2 < 9000 <;> simp [h]
@[simp ↓] theorem ws_shr {k} : ws (dShr (.int i) (.int j)) k ↔ 0 ≤ j ∧ k (.int (i / 2 ^ j.toNat)) := by unfold ws dShr dI; by_cases h : 0 ≤ j <;> simp [h]
@[simp ↓] theorem ws_addT {a b : List PyData} {k} : ws (dAdd (.tuple a) (.tuple b)) k ↔ a.length + b.length ≤ 16777216 ∧ k (.tuple (a ++ b)) := by show ws (if _ then some _ else none) k ↔ _; rw [ws_ite]
end
@[simp ↓] theorem gNo_eq {α : Ab} : gNo [] α = some α := rfl
@[simp ↓] theorem gTp_eq {a : G2} {ds : List PyData} {α : Ab} : gTp a (.tuple ds) α = a ds α := rfl
theorem dR1_int {n : Int} : dR1 (.int n) = if i62 n then some (rgD 0 n) else none := rfl
theorem dR2_int {a b : Int} : dR2 (.int a) (.int b) = if i62 a && i62 b then some (rgD a b) else none := rfl
theorem dG1_int {a : Int} : dG1 (.int a) = dRg 0 a := rfl
@[simp ↓] theorem dIt_l {ds} : dIt (.list ds) = some ds := rfl
@[simp ↓] theorem dIt_t {ds} : dIt (.tuple ds) = some ds := rfl
@[simp ↓] theorem dZp_l {a b} : dZp (.list a) (.list b) = some (zipD a b) := rfl
theorem shp_i (i : Int) : SeqAt.shaped (.int i) = true := rfl
section
variable {i j : Int}
@[simp ↓] theorem dAdd_i : dAdd (.int i) (.int j) = some (.int (i + j)) := rfl
theorem dAdd_t {a b} : dAdd (.tuple a) (.tuple b) = if a.length + b.length ≤ 16777216 then some (.tuple (a ++ b)) else none := rfl
@[simp ↓] theorem dSub_i : dSub (.int i) (.int j) = some (.int (i - j)) := rfl
theorem dMul_i : dMul (.int i) (.int j) = if i.natAbs.log2 + j.natAbs.log2 < 1000000 then some (.int (i * j)) else none := rfl
@[simp ↓] theorem dAnd_i : dAnd (.int i) (.int j) = some (.int (Builtin.bitAnd i j)) := rfl
@[simp ↓] theorem dOr_i : dOr (.int i) (.int j) = some (.int (Builtin.bitOr i j)) := rfl
@[simp ↓] theorem dInv_i : dInv (.int i) = some (.int (Builtin.bitNot i)) := rfl
theorem dMod_i (h : 0 < j) : dMod (.int i) (.int j) = some (.int (i % j)) := by simp [dMod, dI, h]
theorem dDiv_i (h : 0 < j) (h2 : j.natAbs.log2 < 9000) : dDiv (.int i) (.int j) = some (.int (i / j)) := by simp [dDiv, dI, h, h2]
theorem dShr_i (h : 0 ≤ j) : dShr (.int i) (.int j) = some (.int (i / 2 ^ j.toNat)) := by simp [dShr, dI, h]
theorem dShl_i (h : 0 ≤ j ∧ (Builtin.Int.intBits i : Int) + j ≤ 2 ^ 27) : dShl (.int i) (.int j) = some (.int (i * 2 ^ j.toNat)) := by simp only [dShl, dI]; rw [if_pos h]; rfl
@[simp ↓] theorem dLt_i : dLt (.int i) (.int j) = some (decide (i < j)) := rfl
@[simp ↓] theorem dLe_i : dLe (.int i) (.int j) = some (decide (i ≤ j)) := rfl
@[simp ↓] theorem dGt_i : dGt (.int i) (.int j) = some (decide (j < i)) := rfl
@[simp ↓] theorem dGe_i : dGe (.int i) (.int j) = some (decide (j ≤ i)) := rfl
@[simp ↓] theorem dEq_i : dEq (.int i) (.int j) = some (decide (i = j)) := by unfold dEq; rw [if_pos ⟨shp_i i, shp_i j⟩]; unfold PyData.eqv; rfl
@[simp ↓] theorem dNe_i : dNe (.int i) (.int j) = some (!decide (i = j)) := by unfold dNe; rw [if_pos ⟨shp_i i, shp_i j⟩]; unfold PyData.eqv; rfl
@[simp ↓] theorem tr_i : tr (.int i) = some (i != 0) := rfl
@[simp ↓] theorem dInt_i : dInt [.int i] = some (.int i) := rfl
end
@[simp ↓] theorem tr_b {b} : tr (.bool b) = some b := rfl
@[simp ↓] theorem tr_n : tr .none = some false := rfl
@[simp ↓] theorem dIx_l {ds i} : dIx (.list ds) (.int i) = atI ds i := rfl
@[simp ↓] theorem dIx_t {ds i} : dIx (.tuple ds) (.int i) = atI ds i := rfl
@[simp ↓] theorem dLen_l {ds} : dLen [.list ds] = some (.int ds.length) := rfl
@[simp ↓] theorem dLen_t {ds} : dLen [.tuple ds] = some (.int ds.length) := rfl
@[simp ↓] theorem dTupOf_l {ds} : dTupOf (.list ds) = some (.tuple ds) := rfl
@[simp ↓] theorem dTupOf_t {ds} : dTupOf (.tuple ds) = some (.tuple ds) := rfl
@[simp ↓] theorem dListOf_l {ds} : dListOf [.list ds] = some ds := rfl
@[simp ↓] theorem dListOf_t {ds} : dListOf [.tuple ds] = some ds := rfl
section
variable {ρ ρ0 ρ2 : List Sl} {v i : Nat} {vs : List Nat} {α : Ab} {as : List Sl} {T : String} {ds : List PyData}
@[simp] theorem wipeA_n : wipeA ρ [] = ρ := rfl
@[simp] theorem wipeA_c : wipeA ρ (v :: vs) = (wipeA ρ vs).set v .un := rfl
@[simp] theorem restA_n : restA ρ0 ρ2 [] = ρ2 := rfl
@[simp] theorem restA_c : restA ρ0 ρ2 (v :: vs) = (match ρ0[v]? with | some s => (restA ρ0 ρ2 vs).set v s | none => restA ρ0 ρ2 vs) := rfl
@[simp] theorem okVs_e : okVs vs ρ = vs.all fun v => match ρ[v]? with | some (.obj _) => false | some .dck => false | _ => true := rfl
@[simp] theorem peek_e : Pd.peek i α = (match α.ρ[i]? with | some (.val d) => some d | some (.obj (.l ds)) => some (.list ds) | _ => none) := rfl
@[simp] theorem ownOf_e : Pd.ownOf i α = (match α.ρ[i]? with | some (.obj (.l ds)) => some ds | _ => none) := rfl
@[simp] theorem hasDk_e : hasDk as = as.any fun s => match s with | .dck => true | _ => false := rfl
@[simp] theorem sl_d {x : PyData} : Ar.sl (.d x) = .val x := rfl
@[simp] theorem sl_f : Ar.sl (.f ds) = .own ds := rfl
@[simp] theorem isOf_non : isOf T .none = if T = "int" ∨ T = "bool" ∨ T = "tuple" ∨ T = "list" ∨ T = "str" ∨ T = "dict" then some false else none := rfl
@[simp] theorem isOf_bl {b : Bool} : isOf T (.bool b) = if T = "int" ∨ T = "bool" then some true else if T = "tuple" ∨ T = "list" ∨ T = "str" ∨ T = "dict" then some false else none := rfl
@[simp] theorem isOf_int {n : Int} : isOf T (.int n) = if T = "int" then some true else if T = "tuple" ∨ T = "list" ∨ T = "str" ∨ T = "dict" ∨ T = "bool" then some false else none := rfl
@[simp] theorem isOf_str {x : Str} : isOf T (.str x) = if T = "str" then some true else if T = "tuple" ∨ T = "list" ∨ T = "int" ∨ T = "dict" ∨ T = "bool" then some false else none := rfl
@[simp] theorem isOf_tup : isOf T (.tuple ds) = if T = "tuple" then some true else if T = "str" ∨ T = "list" ∨ T = "int" ∨ T = "dict" ∨ T = "bool" then some false else none := rfl
@[simp] theorem isOf_lst : isOf T (.list ds) = if T = "list" then some true else if T = "str" ∨ T = "tuple" ∨ T = "int" ∨ T = "dict" ∨ T = "bool" then some false else none := rfl
@[simp] theorem dBits_i {n : Int} : dBits (.int n) = some (.int (Builtin.Int.intBits n : Nat)) := rfl
@[simp] theorem dSorted_l : dSorted [.list ds] = dSort ds := rfl
@[simp] theorem dSorted_t : dSorted [.tuple ds] = dSort ds := rfl
end
theorem atI_nat {α : Type} {l : List α} {i : Nat} {x : α} (h : l[i]? = some x) : atI l (i : Int) = some x := by
  have hl : i < l.length := (List.getElem?_eq_some_iff.mp h).1
  unfold atI ixN
  rw [if_pos (by omega), if_pos (by omega)]
  simpa using h
@[simp ↓] theorem atI_0 {α : Type} {a : α} {l : List α} : atI (a :: l) 0 = some a := atI_nat (i := 0) rfl
@[simp ↓] theorem atI_1 {α : Type} {a b : α} {l : List α} : atI (a :: b :: l) 1 = some b := atI_nat (i := 1) rfl
theorem atI_map {α : Type} {l : List Nat} {f : Nat → α} {i : Nat} (h : i < l.length) : atI (l.map f) (i : Int) = some (f l[i]) := atI_nat (by rw [List.getElem?_map, List.getElem?_eq_getElem h]; rfl)
@[simp ↓] theorem i62_nat {n : Nat} (h : n < 1000000) : i62 (n : Int) = true := by unfold i62; simp; omega
theorem rgD0 (n : Nat) : rgD 0 (n : Int) = (List.range n).map fun i : Nat => PyData.int i := by unfold rgD; simp
def eN (n : Nat) : PyData := .int n
def eP (p : Nat × Nat) : PyData := .tuple [.int p.1, .int p.2]
section
variable {vs : List Nat} {gt : G1} {tt : M Bool} {te : M PyData} {σ : Ab} {A : Type} {enc : A → PyData}
theorem lc_map (b : A → Bool) (y : A → PyData) : ∀ (l : List A), (∀ a ∈ l, ws (gt (enc a) σ) fun α1 => wp tt α1 fun k α2 => k = b a ∧ (b a = false → α2.wipe vs = σ) ∧ (b a = true → wp te α2 fun y' α3 => y' = y a ∧ α3.wipe vs = σ)) →
    lcGo vs gt tt te (l.map enc) σ = some ((l.filter b).map y, σ)
  | [], _ => rfl
  | a :: l, h => by
    have ih := lc_map b y l fun x hx => h x (List.mem_cons_of_mem _ hx)
    obtain ⟨α1, h1, k, α2, h2, h3, h4, h5⟩ := h a List.mem_cons_self
    rw [List.map_cons]
    unfold lcGo
    simp only [h1, h2]
    cases e : b a with
    | false => rw [h3, e]; simp only [h4 e, ih, List.filter_cons, e]; rfl
    | true =>
      obtain ⟨y', α3, h6, h7, h8⟩ := h5 e
      rw [h3, e]
      simp only [h6, h8, ih, h7, List.filter_cons, e]
      rfl
theorem wp_lcMap (b : A → Bool) (y : A → PyData) {l : List A} (h : ∀ a ∈ l, ws (gt (enc a) σ) fun α1 => wp tt α1 fun k α2 => k = b a ∧ (b a = false → α2.wipe vs = σ) ∧ (b a = true → wp te α2 fun y' α3 => y' = y a ∧ α3.wipe vs = σ)) {Q} (q : Q ((l.filter b).map y) σ) : wp (lcGo vs gt tt te (l.map enc)) σ Q := ⟨_, _, lc_map b y l h, q⟩
theorem wp_lcAll (y : A → PyData) {l : List A} (h : ∀ a ∈ l, ws (gt (enc a) σ) fun α1 => wp tt α1 fun k α2 => k = true ∧ wp te α2 fun y' α3 => y' = y a ∧ α3.wipe vs = σ) {Q} (q : Q (l.map y) σ) : wp (lcGo vs gt tt te (l.map enc)) σ Q := by
  refine wp_lcMap (fun _ => true) y (fun a ha => ?_) (by rw [List.filter_eq_self.mpr fun _ _ => rfl]; exact q)
  obtain ⟨α1, h1, h2⟩ := h a ha
  exact ⟨α1, h1, wp_mono h2 fun k α2 q => And.intro q.1 (And.intro (fun z => Bool.noConfusion z) fun _ => q.2)⟩
theorem al_map (f : A → Bool) : ∀ (l : List A), (∀ a ∈ l, ws (gt (enc a) σ) fun α1 => wp tt α1 fun k α2 => k = true ∧ wp te α2 fun y' α3 => y' = .bool (f a) ∧ α3.wipe vs = σ) →
    alGo vs gt tt te (l.map enc) σ = some (l.all f, σ)
  | [], _ => rfl
  | a :: l, h => by
    have ih := al_map f l fun x hx => h x (List.mem_cons_of_mem _ hx)
    obtain ⟨α1, h1, b, α2, h2, rfl, y', α3, h4, rfl, h5⟩ := h a List.mem_cons_self
    rw [List.map_cons]
    unfold alGo
    simp only [h1, h2, h4]
    cases e : f a with
    | true => simp only [h5, ih, List.all_cons, e, Bool.true_and]
    | false => simp only [h5, List.all_cons, e, Bool.false_and]
theorem wp_alMap (f : A → Bool) {l : List A} (h : ∀ a ∈ l, ws (gt (enc a) σ) fun α1 => wp tt α1 fun k α2 => k = true ∧ wp te α2 fun y' α3 => y' = .bool (f a) ∧ α3.wipe vs = σ) {Q} (q : Q (l.all f) σ) : wp (alGo vs gt tt te (l.map enc)) σ Q := ⟨_, _, al_map f l h, q⟩
end
/-- a loop by its invariant: the items behind -/
theorem wp_forM {A : Type} {enc : A → PyData} {gt : G1} {body : MS} {α : Ab} {Q : Out → Ab → Prop} (I : List A → Ab → Prop) (l : List A) (h0 : I [] α)
    (hs : ∀ pre a post β, l = pre ++ a :: post → I pre β → ws (gt (enc a) β) fun α1 => wp body α1 fun o α2 => match o with | .nx => I (pre ++ [a]) α2 | .ct => I (pre ++ [a]) α2 | .bk => Q .nx α2 | .rt x => Q (.rt x) α2)
    (he : ∀ β, I l β → Q .nx β) : wp (forGo gt body (l.map enc)) α Q := by
  refine wp_forI (fun rest β => ∃ pre post, l = pre ++ post ∧ rest = post.map enc ∧ I pre β) ⟨[], l, rfl, rfl, h0⟩ ?_ ?_
  · rintro d r β ⟨pre, post, e1, e2, hI⟩
    cases post with
    | nil => cases e2
    | cons a post =>
      rw [List.map_cons] at e2
      cases e2
      obtain ⟨α1, h1, h2⟩ := hs pre a post β e1 hI
      refine ⟨α1, h1, wp_mono h2 fun o α2 h => ?_⟩
      cases o with
      | nx => exact ⟨pre ++ [a], post, by simp [e1], rfl, h⟩
      | ct => exact ⟨pre ++ [a], post, by simp [e1], rfl, h⟩
      | bk => exact h
      | rt x => exact h
  · rintro β ⟨pre, post, e1, e2, hI⟩
    cases post with
    | nil => rw [List.append_nil] at e1; subst e1; exact he β hI
    | cons a post => cases e2
theorem atI_rg {A : Type} {f : Nat → A} {n i : Nat} (h : i < n) : atI ((List.range n).map f) (i : Int) = some (f i) := atI_nat (by simp [h])
theorem ws_atR {f : Nat → PyData} {n i : Nat} (h : i < n) {k} : ws (atI ((List.range n).map f) (i : Int)) k ↔ k (f i) := by rw [atI_rg h, ws_some]
theorem rg0 (n : Nat) : rgD 0 (n : Int) = (List.range n).map eN := rgD0 n
theorem dR1_n {n : Nat} (h : n < 1000000) : dR1 (.int n) = some ((List.range n).map eN) := by rw [dR1_int, i62_nat h, rg0]; rfl
end Md
end
section
set_option Elab.async false
set_option linter.all false
set_option maxRecDepth 100000
set_option maxHeartbeats 1000000
namespace Md
open PySem PySem.Spec PyProof.Rows L2 Pd
/-! ### masks of sets of places below 10 -/
def mkN (f : Nat → Bool) : Nat → Nat
  | 0 => 0
  | k + 1 => mkN f k ||| (if f k then 2 ^ k else 0)
theorem tb_mkN (f : Nat → Bool) (i : Nat) : ∀ k, (mkN f k).testBit i = (decide (i < k) && f i)
  | 0 => by simp [mkN]
  | k + 1 => by
    unfold mkN
    rw [Nat.testBit_or, tb_mkN f i k]
    by_cases e : i = k
    · subst e
      cases h : f i <;> simp [h, Nat.testBit_two_pow]
    · have h1 : decide (k = i) = false := decide_eq_false (by omega)
      have h2 : decide (i < k + 1) = decide (i < k) := by
        by_cases hi : i < k
        · rw [decide_eq_true hi, decide_eq_true (by omega)]
        · rw [decide_eq_false hi, decide_eq_false (by omega)]
      rw [h2]
      cases h : f k
      · simp
      · simp [Nat.testBit_two_pow, h1]
theorem mkN_lt (f : Nat → Bool) : ∀ k, mkN f k < 2 ^ k
  | 0 => by simp [mkN]
  | k + 1 => by
    unfold mkN
    refine Nat.or_lt_two_pow ?_ ?_
    · exact Nat.lt_of_lt_of_le (mkN_lt f k) (Nat.pow_le_pow_right (by decide) (by omega))
    · split
      · exact Nat.pow_lt_pow_right (by decide) (by omega)
      · exact Nat.two_pow_pos _
def mk (f : Nat → Bool) : Nat := mkN f 10
theorem tb_mk (f : Nat → Bool) (i : Nat) : (mk f).testBit i = (decide (i < 10) && f i) := tb_mkN f i 10
theorem mk_lt (f : Nat → Bool) : mk f < 1024 := mkN_lt f 10
theorem mk_eq {f g : Nat → Bool} : mk f = mk g ↔ ∀ i < 10, f i = g i := by
  constructor
  · intro h i hi
    have := congrArg (·.testBit i) h
    simp only [tb_mk, hi, decide_true, Bool.true_and] at this
    exact this
  · intro h
    refine Nat.eq_of_testBit_eq fun i => ?_
    rw [tb_mk, tb_mk]
    by_cases hi : i < 10
    · rw [h i hi]
    · simp [hi]
theorem eq_mk {m : Nat} {f : Nat → Bool} (h : m < 1024) (k : ∀ i < 10, m.testBit i = f i) : m = mk f := by
  refine Nat.eq_of_testBit_eq fun i => ?_
  rw [tb_mk]
  by_cases hi : i < 10
  · rw [k i hi]; simp [hi]
  · rw [Nat.testBit_lt_two_pow (Nat.lt_of_lt_of_le h (Nat.pow_le_pow_right (n := 2) (i := 10) (by decide) (by omega)))]
    simp [hi]
theorem pow_lt {a : Nat} (h : a < 10) : 2 ^ a < 1024 := Nat.pow_lt_pow_right (by decide) h
theorem pow_mk {a : Nat} (h : a < 10) : 2 ^ a = mk fun i => decide (i = a) := eq_mk (pow_lt h) fun i hi => by rw [Nat.testBit_two_pow]; simp [eq_comm]
theorem or_mk (f g : Nat → Bool) : mk f ||| mk g = mk fun i => f i || g i := eq_mk (Nat.or_lt_two_pow (n := 10) (mk_lt f) (mk_lt g)) fun i hi => by rw [Nat.testBit_or, tb_mk, tb_mk]; simp [hi]
theorem and_mk (f g : Nat → Bool) : mk f &&& mk g = mk fun i => f i && g i := eq_mk (Nat.lt_of_le_of_lt Nat.and_le_left (mk_lt f)) fun i hi => by rw [Nat.testBit_and, tb_mk, tb_mk]; simp [hi]
theorem zero_mk : 0 = mk fun _ => false := eq_mk (by decide) fun i hi => by simp
theorem bOr (a b : Nat) : Builtin.bitOr (a : Int) (b : Int) = ((a ||| b : Nat) : Int) := by
  rw [Bits.bitOr_pp (Int.natCast_nonneg a) (Int.natCast_nonneg b), Int.toNat_natCast, Int.toNat_natCast]
theorem bAnd (a b : Nat) : Builtin.bitAnd (a : Int) (b : Int) = ((a &&& b : Nat) : Int) := by
  rw [bitAnd_pp (Int.natCast_nonneg a) (Int.natCast_nonneg b), Int.toNat_natCast, Int.toNat_natCast]
theorem mkN_add (f : Nat → Bool) (k : Nat) : mkN f (k + 1) = mkN f k + (if f k then 2 ^ k else 0) := by
  rw [mkN]
  split
  · have := Nat.two_pow_add_eq_or_of_lt (mkN_lt f k) 1
    rw [Nat.mul_one] at this
    rw [Nat.or_comm, ← this, Nat.add_comm]
  · simp
theorem add_mkN (f g : Nat → Bool) : ∀ k, mkN (fun i => f i && g i) k + mkN (fun i => f i && !g i) k = mkN f k
  | 0 => rfl
  | k + 1 => by
    rw [mkN_add, mkN_add, mkN_add, ← add_mkN f g k]
    cases f k <;> cases g k <;> simp <;> omega
theorem bAndN (f g : Nat → Bool) : Builtin.bitAnd (mk f : Int) (Builtin.bitNot (mk g : Int)) = ((mk fun i => f i && !g i : Nat) : Int) := by
  rw [bitAnd_pn (Int.natCast_nonneg _) (by unfold Builtin.bitNot; omega), bitNot_bitNot, Int.toNat_natCast, Int.toNat_natCast, and_mk]
  have h1 : (mk fun i => f i && g i) + (mk fun i => f i && !g i) = mk f := by
    exact add_mkN f g 10
  omega
theorem bOrM (f g : Nat → Bool) : Builtin.bitOr (mk f : Int) (mk g : Int) = ((mk fun i => f i || g i : Nat) : Int) := by rw [bOr, or_mk]
theorem bAndM (f g : Nat → Bool) : Builtin.bitAnd (mk f : Int) (mk g : Int) = ((mk fun i => f i && g i : Nat) : Int) := by rw [bAnd, and_mk]
def lot (f : Nat → Bool) : List Nat := (List.range 10).filter f
theorem lot_bits : ∀ m : Nat, m < 1024 → (List.range (Builtin.Int.intBits (m : Int))).filter (fun i => m.testBit i) = (List.range 10).filter (fun i => m.testBit i) ∧ Builtin.Int.intBits (m : Int) ≤ 10 := by decide +kernel
theorem lot_mk (f : Nat → Bool) : (List.range 10).filter (fun i => (mk f).testBit i) = lot f := by
  unfold lot
  refine List.filter_congr fun i hi => ?_
  rw [tb_mk]
  simp [List.mem_range.mp hi]
theorem shr1 (m i : Nat) : Builtin.bitAnd ((m : Int) / 2 ^ i) 1 = if m.testBit i then 1 else 0 := by
  rw [bitAnd_m1]
  have e : ((m : Int) / 2 ^ i) = ((m / 2 ^ i : Nat) : Int) := by simp
  rw [e, Nat.testBit_eq_decide_div_mod_eq]
  by_cases h : m / 2 ^ i % 2 = 1
  · simp [h]; omega
  · simp [h]; omega
/-- at most one bit -/
theorem one_bit : ∀ m : Nat, m < 1024 → (Builtin.bitAnd (m : Int) ((m : Int) - 1) = 0 ↔ ((List.range 10).filter fun i => m.testBit i).length ≤ 1) := by
  have h : ∀ m : Nat, m < 1024 → (decide (Builtin.bitAnd (m : Int) ((m : Int) - 1) = 0) = decide (((List.range 10).filter fun i => m.testBit i).length ≤ 1)) := by decide +kernel
  intro m hm
  simpa using h m hm
theorem one_mk (f : Nat → Bool) : decide (Builtin.bitAnd (mk f : Int) ((mk f : Int) - 1) = 0) = decide ((lot f).length ≤ 1) := by
  have := one_bit (mk f) (mk_lt f)
  rw [lot_mk] at this
  simp [this]
/-! ### data -/
def dL (l : List Nat) : PyData := .tuple (l.map eN)
def dPs (ps : List (Nat × Nat)) : PyData := .tuple (ps.map eP)
def dH (n : Nat) (ps : List (Nat × Nat)) : PyData := .tuple [.int n, dPs ps]
abbrev eM (f : Nat → Bool) : PyData := .int (mk f)
def Wf (n : Nat) (ps : List (Nat × Nat)) : Prop := 1 ≤ n ∧ n ≤ 10 ∧ ∀ p ∈ ps, p.1 < n ∧ p.2 < n ∧ p.1 ≠ p.2
def up (ps : List (Nat × Nat)) (a b : Nat) : Bool := decide (b = a) || decide ((a, b) ∈ ps)
def dn (ps : List (Nat × Nat)) (a b : Nat) : Bool := decide (b = a) || decide ((b, a) ∈ ps)
end Md
end
section
set_option Elab.async false
set_option linter.all false
set_option maxRecDepth 100000
set_option maxHeartbeats 2000000
namespace Md
open PySem PySem.Spec PyProof.Rows L2 Pd

/-! ### texts whose signs are signs -/
abbrev okS (x : Str) : Prop := PyData.strOk x = true
theorem okS_iff {x : Str} : okS x ↔ ∀ c ∈ x.cps.toList, c < 0x110000 := by
  unfold okS PyData.strOk
  rw [Array.all_eq_true_iff_forall_mem]
  simp
theorem okS_app {x y : Str} (h : okS x) (k : okS y) : okS (x ++ y) := by
  rw [okS_iff] at *
  intro c hc
  have e : (x ++ y).cps = x.cps ++ y.cps := rfl
  rw [e] at hc
  simp at hc
  rcases hc with hc | hc
  · exact h c (by simpa using hc)
  · exact k c (by simpa using hc)
theorem okS_of (s : String) : okS (Str.ofString s) := by
  rw [okS_iff, Str.ofString_eq_toList]
  intro c hc
  simp at hc
  obtain ⟨a, _, rfl⟩ := hc
  have := a.valid
  unfold UInt32.isValidChar Nat.isValidChar at this
  show a.val.toNat < _
  omega
theorem okS_join {sep : Str} (hs : okS sep) : ∀ {ts : List Str}, (∀ t ∈ ts, okS t) → okS (Str.join sep ts)
  | [], _ => by show okS (Str.ofString ""); exact okS_of _
  | [t], h => h t List.mem_cons_self
  | t :: u :: r, h => by
    show okS (t ++ sep ++ Str.join sep (u :: r))
    exact okS_app (okS_app (h t List.mem_cons_self) hs) (okS_join hs fun x hx => h x (List.mem_cons_of_mem _ hx))
theorem okS_from : ∀ {ts : List Str} {k : Nat} {acc : Str}, okS acc → (∀ t ∈ ts, okS t) → okS (textFrom k acc ts)
  | [], k, acc, h, _ => h
  | t :: ts, k, acc, h, q => by
    show okS (textFrom (k + 1) (acc ++ (if k > 0 then ", " else "" : String) ++ t) ts)
    exact okS_from (okS_app (okS_app h (okS_of _)) (q t List.mem_cons_self)) fun x hx => q x (List.mem_cons_of_mem _ hx)
theorem okS_tup {ts : List Str} (h : ∀ t ∈ ts, okS t) : okS (tupleText ts) := by
  unfold tupleText
  exact okS_app (okS_app (okS_of _) (okS_join (okS_of _) h)) (okS_of _)
theorem okS_lst {ts : List Str} (h : ∀ t ∈ ts, okS t) : okS (listText ts) := by
  unfold listText
  exact okS_app (okS_from (okS_of _) h) (okS_of _)
theorem okS_all : ∀ {ds : List PyData}, (∀ d ∈ ds, okS d.shown) → ∀ t ∈ PyData.shownAll ds, okS t
  | [], _, t, ht => by simp [PyData.shownAll] at ht
  | d :: ds, h, t, ht => by
    simp only [PyData.shownAll, List.mem_cons] at ht
    rcases ht with rfl | ht
    · exact h d List.mem_cons_self
    · exact okS_all (fun x hx => h x (List.mem_cons_of_mem _ hx)) t ht

/-! ### what can be shown: no deeper than c, no longer than s -/
structure Rk (c s : Nat) (d : PyData) : Prop where
  a : d.showable = true
  b : d.hasDict = false
  c : d.depth ≤ c
  s : d.shown.length ≤ s
  o : okS d.shown
theorem Rk.mono {c s c' s' : Nat} {d : PyData} (h : Rk c s d) (hc : c ≤ c') (hs : s ≤ s') : Rk c' s' d := ⟨h.a, h.b, Nat.le_trans h.c hc, Nat.le_trans h.s hs, h.o⟩
theorem rk_int {c : Nat} {i : Int} (h : i.natAbs < 10 ^ 12) : Rk c 13 (.int i) := by
  refine ⟨?_, rfl, ?_, PyData.shown_int_le h, okS_of _⟩
  · show decide (i.natAbs.log2 < 1920) = true
    refine decide_eq_true ?_
    by_cases h0 : i.natAbs = 0
    · rw [h0]; decide
    · have := Nat.log2_self_le h0
      have h2 : 2 ^ i.natAbs.log2 < 2 ^ 40 := by omega
      have := (Nat.pow_lt_pow_iff_right (a := 2) (by decide)).mp h2
      omega
  · show 0 ≤ c; omega
theorem rk_eN {c n : Nat} (h : n < 10 ^ 12) : Rk c 13 (eN n) := rk_int (by omega)
theorem rk_bool {c : Nat} (b : Bool) : Rk c 13 (.bool b) := by
  refine ⟨rfl, rfl, ?_, ?_, ?_⟩
  · show 0 ≤ c; omega
  · cases b <;> decide +kernel
  · cases b <;> exact okS_of _
theorem rk_none {c : Nat} : Rk c 13 .none := ⟨rfl, rfl, by show 0 ≤ c; omega, by decide +kernel, okS_of _⟩
theorem shA {ds : List PyData} (h : ∀ d ∈ ds, d.showable = true) : PyData.showableAll ds = true := by
  induction ds with
  | nil => rfl
  | cons d ds ih =>
    show (d.showable && PyData.showableAll ds) = true
    rw [h d List.mem_cons_self, ih fun x hx => h x (List.mem_cons_of_mem _ hx)]; rfl
theorem hdA {ds : List PyData} (h : ∀ d ∈ ds, d.hasDict = false) : PyData.hasDictAll ds = false := by
  induction ds with
  | nil => rfl
  | cons d ds ih =>
    show (d.hasDict || PyData.hasDictAll ds) = false
    rw [h d List.mem_cons_self, ih fun x hx => h x (List.mem_cons_of_mem _ hx)]; rfl
theorem dpA {c : Nat} : ∀ {ds : List PyData}, (∀ d ∈ ds, d.depth ≤ c) → PyData.depthAll ds ≤ c
  | [], _ => by show 0 ≤ c; omega
  | d :: ds, h => by
    show max d.depth (PyData.depthAll ds) ≤ c
    have := h d List.mem_cons_self
    have := dpA fun x hx => h x (List.mem_cons_of_mem _ hx)
    omega
theorem sumA {s : Nat} : ∀ {ds : List PyData}, (∀ d ∈ ds, d.shown.length ≤ s) → ((PyData.shownAll ds).map (·.length)).sum ≤ ds.length * s
  | [], _ => by simp [PyData.shownAll]
  | d :: ds, h => by
    have h1 := h d List.mem_cons_self
    have h2 := sumA fun x hx => h x (List.mem_cons_of_mem _ hx)
    simp only [PyData.shownAll, List.map_cons, List.sum_cons, List.length_cons, Nat.add_mul, Nat.one_mul]
    omega
theorem rk_tup {c s : Nat} {ds : List PyData} (h : ∀ d ∈ ds, Rk c s d) : Rk (c + 1) (ds.length * (s + 2) + 3) (.tuple ds) := by
  refine ⟨shA fun d hd => (h d hd).a, hdA fun d hd => (h d hd).b, ?_, ?_, okS_tup (okS_all fun d hd => (h d hd).o)⟩
  · show PyData.depthAll ds + 1 ≤ _
    have := dpA fun d hd => (h d hd).c
    omega
  · show (tupleText (PyData.shownAll ds)).length ≤ _
    have h1 := tupleText_len_le (PyData.shownAll ds)
    have h2 := sumA fun d hd => (h d hd).s
    rw [PyData.shownAll_length] at h1
    rw [Nat.mul_add]
    omega
theorem rk_lst {c s : Nat} {ds : List PyData} (h : ∀ d ∈ ds, Rk c s d) : Rk (c + 1) (ds.length * (s + 2) + 3) (.list ds) := by
  refine ⟨shA fun d hd => (h d hd).a, hdA fun d hd => (h d hd).b, ?_, ?_, okS_lst (okS_all fun d hd => (h d hd).o)⟩
  · show PyData.depthAll ds + 1 ≤ _
    have := dpA fun d hd => (h d hd).c
    omega
  · show (listText (PyData.shownAll ds)).length ≤ _
    have h1 := listText_len_le (PyData.shownAll ds)
    have h2 := sumA fun d hd => (h d hd).s
    rw [PyData.shownAll_length] at h1
    rw [Nat.mul_add]
    omega
/-- of at most k items -/
theorem rk_tupB {c s k : Nat} {ds : List PyData} (h : ∀ d ∈ ds, Rk c s d) (hk : ds.length ≤ k) : Rk (c + 1) (k * (s + 2) + 3) (.tuple ds) := (rk_tup h).mono (Nat.le_refl _) (Nat.add_le_add_right (Nat.mul_le_mul_right _ hk) 3)
theorem rk_dL {c k b : Nat} {l : List Nat} (h : ∀ x ∈ l, x < b) (hb : b ≤ 10 ^ 12) (hk : l.length ≤ k) : Rk (c + 1) (k * 15 + 3) (dL l) := rk_tupB (s := 13) (fun d hd => by
  obtain ⟨x, hx, rfl⟩ := List.mem_map.mp hd
  exact rk_eN (Nat.lt_of_lt_of_le (h x hx) hb)) (by simpa using hk)
theorem rk_eP {c : Nat} {p : Nat × Nat} (h1 : p.1 < 10 ^ 12) (h2 : p.2 < 10 ^ 12) : Rk (c + 1) 33 (eP p) := rk_tupB (s := 13) (k := 2) (fun d hd => by
  simp at hd
  rcases hd with rfl | rfl
  · exact rk_eN h1
  · exact rk_eN h2) (by simp)
theorem dRepr_rk {c s : Nat} {d : PyData} (h : Rk c s d) (hc : c ≤ 64) (hs : s ≤ 16777216) : dRepr [d] = some (.str d.shown) := by
  show (if _ then some _ else none) = _
  rw [if_pos ⟨h.a, h.b, Nat.le_trans h.c hc, Nat.le_trans h.s hs⟩]
theorem eqv_str (x y : Str) : PyData.eqv (.str x) (.str y) = decide (x = y) := by unfold PyData.eqv; first | rfl | simp
theorem shp_s {x : Str} (h : okS x) : SeqAt.shaped (.str x) = true := by
  show (PyData.strOk x && decide (0 ≤ 64)) = true
  rw [h]; rfl
theorem dEq_s {x : Str} (h : okS x) : dEq (.str x) (.str x) = some true := by
  unfold dEq
  rw [if_pos ⟨shp_s h, shp_s h⟩, eqv_str]
  simp
theorem dNe_s {x : Str} (h : okS x) : dNe (.str x) (.str x) = some false := by
  unfold dNe
  rw [if_pos ⟨shp_s h, shp_s h⟩, eqv_str]
  simp
/-- the texts of one thing are equal -/
theorem rk_three {c s : Nat} {a b d : PyData} (h : ∀ x ∈ [a, b, d], Rk c s x) : Rk (c + 1) (3 * (s + 2) + 3) (.tuple [a, b, d]) := rk_tup (ds := [a, b, d]) h
theorem rk_four {c s : Nat} {a b d e : PyData} (h : ∀ x ∈ [a, b, d, e], Rk c s x) : Rk (c + 1) (4 * (s + 2) + 3) (.tuple [a, b, d, e]) := rk_tup (ds := [a, b, d, e]) h
theorem rk_two {c s : Nat} {a b : PyData} (h : ∀ x ∈ [a, b], Rk c s x) : Rk (c + 1) (2 * (s + 2) + 3) (.tuple [a, b]) := rk_tup (ds := [a, b]) h
end Md
end
section
set_option Elab.async false
set_option linter.all false
set_option maxRecDepth 100000
set_option maxHeartbeats 1000000
namespace Md
open PySem PySem.Spec PyProof.Rows L2 Pd

/-! ### weakest readings of dicts and sets -/
section
variable {α : Ab} {i : Nat} {t t1 t2 : M PyData}
@[simp] theorem objOf_e : objOf i α = (match α.ρ[i]? with | some (.obj o) => some o | _ => none) := rfl
@[simp ↓] theorem wp_mDGet {Q} : wp (mDGet i t) α Q ↔ ws (objOf i α) fun _ => wp t α fun d α1 => ws (objOf i α1) fun o => ws (o.look d) fun r => ∃ z, r = some z ∧ Q z α1 := by
  unfold wp mDGet ws
  constructor
  · rintro ⟨x, α', e, q⟩
    split at e
    · cases e
    rename_i o0 h0
    split at e
    · cases e
    rename_i d α1 h1
    split at e
    · cases e
    rename_i o h2
    split at e
    case h_2 => cases e
    rename_i z h3
    cases e
    exact ⟨o0, h0, d, _, h1, o, h2, _, h3, _, rfl, q⟩
  · rintro ⟨o0, h0, d, α1, h1, o, h2, r, h3, z, rfl, q⟩
    refine ⟨z, α1, ?_, q⟩
    rw [h0]
    simp only [h1, h2, h3]
@[simp ↓] theorem wp_mDIn {f : Bool → Bool} {Q} : wp (mDIn f i t) α Q ↔ wp t α fun d α1 => ws (objOf i α1) fun o => ws (o.look d) fun r => Q (f r.isSome) α1 := by
  unfold wp mDIn ws
  constructor
  · rintro ⟨x, α', e, q⟩
    split at e
    · cases e
    rename_i d α1 h1
    split at e
    · cases e
    rename_i o h2
    split at e
    case h_2 => cases e
    rename_i r h3
    cases e
    exact ⟨d, _, h1, o, h2, r, h3, q⟩
  · rintro ⟨d, α1, h1, o, h2, r, h3, q⟩
    refine ⟨_, α1, ?_, q⟩
    rw [h1]
    simp only [h2, h3]
@[simp ↓] theorem wp_mDGet1 {Q} : wp (mDGet1 i t) α Q ↔ ws (objOf i α) fun o0 => o0.len ≠ none ∧ wp t α fun d α1 => ws (objOf i α1) fun o => ws (o.look d) fun r => Q (r.getD .none) α1 := by
  unfold wp mDGet1 ws
  constructor
  · rintro ⟨x, α', e, q⟩
    split at e
    · cases e
    rename_i o0 h0
    split at e
    · cases e
    rename_i hl
    split at e
    · cases e
    rename_i d α1 h1
    split at e
    · cases e
    rename_i o h2
    split at e
    case h_2 => cases e
    rename_i r h3
    cases e
    exact ⟨o0, h0, hl, d, _, h1, o, h2, r, h3, q⟩
  · rintro ⟨o0, h0, hl, d, α1, h1, o, h2, r, h3, q⟩
    refine ⟨_, α1, ?_, q⟩
    rw [h0]
    simp only [if_neg hl, h1, h2, h3]
@[simp ↓] theorem wp_mDGet2 {Q} : wp (mDGet2 i t1 t2) α Q ↔ ws (objOf i α) fun o0 => o0.len ≠ none ∧ wp t1 α fun d α1 => wp t2 α1 fun e α2 => ws (objOf i α2) fun o => ws (o.look d) fun r => Q (r.getD e) α2 := by
  unfold wp mDGet2 ws
  constructor
  · rintro ⟨x, α', e, q⟩
    split at e
    · cases e
    rename_i o0 h0
    split at e
    · cases e
    rename_i hl
    split at e
    · cases e
    rename_i d α1 h1
    split at e
    · cases e
    rename_i d2 α2 h2
    split at e
    · cases e
    rename_i o h3
    split at e
    case h_2 => cases e
    rename_i r h4
    cases e
    exact ⟨o0, h0, hl, d, _, h1, d2, _, h2, o, h3, r, h4, q⟩
  · rintro ⟨o0, h0, hl, d, α1, h1, d2, α2, h2, o, h3, r, h4, q⟩
    refine ⟨_, α2, ?_, q⟩
    rw [h0]
    simp only [if_neg hl, h1, h2, h3, h4]
@[simp ↓] theorem wp_mLenD {Q} : wp (mLenD i) α Q ↔ ws (objOf i α) fun o => ws o.len fun n => Q (.int n) α := by
  unfold wp mLenD ws
  constructor
  · rintro ⟨x, α', e, q⟩
    split at e
    · cases e
    rename_i o h
    split at e
    case h_2 => cases e
    rename_i n hn
    cases e
    exact ⟨o, h, n, hn, q⟩
  · rintro ⟨o, h, n, hn, q⟩
    exact ⟨_, α, by rw [h]; simp only [hn], q⟩
@[simp ↓] theorem wp_mListD {Q} : wp (mListD i) α Q ↔ ws (objOf i α) fun o => ws o.keys fun ds => Q ds α := by
  unfold wp mListD ws
  constructor
  · rintro ⟨x, α', e, q⟩
    split at e
    · cases e
    rename_i o h
    split at e
    case h_2 => cases e
    rename_i n hn
    cases e
    exact ⟨o, h, _, hn, q⟩
  · rintro ⟨o, h, n, hn, q⟩
    exact ⟨_, α, by rw [h]; simp only [hn], q⟩
@[simp ↓] theorem wp_mSortD {Q} : wp (mSortD i) α Q ↔ ws (objOf i α) fun o => ws o.keys fun ds => ws (dSort ds) fun out => Q out α := by
  unfold wp mSortD ws
  constructor
  · rintro ⟨x, α', e, q⟩
    split at e
    · cases e
    rename_i o h
    split at e
    · cases e
    rename_i n hn
    split at e
    case h_2 => cases e
    rename_i out ho
    cases e
    exact ⟨o, h, _, hn, _, ho, q⟩
  · rintro ⟨o, h, n, hn, out, ho, q⟩
    exact ⟨_, α, by rw [h]; simp only [hn, ho], q⟩
@[simp ↓] theorem wp_sDPut {Q} : wp (Pd.sDPut i t1 t2) α Q ↔ wp t1 α fun z α1 => ws (objOf i α1) fun _ => wp t2 α1 fun d α2 => ws (objOf i α2) fun o => ws (o.put d z) fun o' => Q .nx (α2.set i (.obj o')) := by
  unfold wp Pd.sDPut ws
  constructor
  · rintro ⟨x, α', e, q⟩
    split at e
    · cases e
    rename_i z α1 h1
    split at e
    · cases e
    rename_i o0 h2
    split at e
    · cases e
    rename_i d α2 h3
    split at e
    · cases e
    rename_i o h4
    split at e
    case h_2 => cases e
    rename_i o' h5
    cases e
    exact ⟨z, α1, h1, o0, h2, d, α2, h3, o, h4, o', h5, q⟩
  · rintro ⟨z, α1, h1, o0, h2, d, α2, h3, o, h4, o', h5, q⟩
    refine ⟨_, _, ?_, q⟩
    rw [h1]
    simp only [h2, h3, h4, h5]
@[simp ↓] theorem wp_sOwnO {to : M OD} {Q} : wp (sOwnO i to) α Q ↔ wp to α fun o α1 => i < α1.ρ.length ∧ Q .nx (α1.set i (.obj o)) := by
  unfold wp sOwnO
  constructor
  · rintro ⟨x, α', e, q⟩
    split at e
    · cases e
    rename_i o α1 h1
    obtain ⟨hl, e⟩ := ite_some e
    cases e
    exact ⟨o, α1, h1, hl, q⟩
  · rintro ⟨o, α1, h1, hl, q⟩
    exact ⟨_, _, by rw [h1]; simp only [if_pos hl], q⟩
@[simp ↓] theorem wp_mO {to : M OD} {Q} : wp (mO to) α Q ↔ wp to α fun o α1 => Q (.o o) α1 := by
  unfold wp mO
  constructor
  · rintro ⟨x, α', e, q⟩
    split at e
    · cases e
    rename_i o α1 h1
    cases e
    exact ⟨o, _, h1, q⟩
  · rintro ⟨o, α1, h1, q⟩
    exact ⟨_, α1, by rw [h1], q⟩
@[simp] theorem sl_o {o : OD} : Ar.sl (.o o) = .obj o := rfl
@[simp ↓] theorem wp_mDisp1T {Q} : wp (mDisp1T t1 t2) α Q ↔ wp t1 α fun k α1 => wp t2 α1 fun d α2 => ws (keyT k) fun ks => Q (.t [(ks, d)]) α2 := by
  unfold mDisp1T
  rw [wp_mb]; refine wp_iff fun _ _ => ?_; rw [wp_mb]; refine wp_iff fun _ _ => ?_; rw [wp_mo]
  cases keyT _ <;> simp
@[simp ↓] theorem wp_mDictK {Q} : wp (mDictK t) α Q ↔ wp t α fun d α1 => ∃ ds, d = .list ds ∧ ws (pairsK ds) fun es => Q (.k (mergeD [] es)) α1 := by
  unfold mDictK
  rw [wp_mb]; refine wp_iff fun d _ => ?_; rw [wp_mo]
  cases d <;> simp
  rename_i ds
  cases pairsK ds <;> simp
@[simp ↓] theorem wp_mDictT {Q} : wp (mDictT t) α Q ↔ wp t α fun d α1 => ∃ ds, d = .list ds ∧ ws (pairsT ds) fun es => Q (.t (mergeD [] es)) α1 := by
  unfold mDictT
  rw [wp_mb]; refine wp_iff fun d _ => ?_; rw [wp_mo]
  cases d <;> simp
  rename_i ds
  cases pairsT ds <;> simp
@[simp ↓] theorem wp_mSortSet {Q} : wp (mSortSet t) α Q ↔ wp t α fun d α1 => ws (dSortSet d) fun out => Q out α1 := by unfold mSortSet; rw [wp_mb]; refine wp_iff fun _ _ => ?_; rw [wp_mo]
@[simp ↓] theorem wp_mTupRg1 {Q} : wp (mTupRg1 t) α Q ↔ wp t α fun d α1 => ws (dG1 d) fun ds => Q (.tuple ds) α1 := by unfold mTupRg1; rw [wp_mb, wp_mRg1]; refine wp_iff fun _ _ => ?_; refine ws_iff fun _ => ?_; rw [wp_mr]
end
end Md
end
section
set_option Elab.async false
set_option linter.all false
set_option maxRecDepth 100000
set_option maxHeartbeats 2000000
namespace Md
open PySem PySem.Spec PyProof.Rows L2 Pd
/-- statement by statement -/
theorem seq_nx {t u : MS} {α : Ab} {Q : Out → Ab → Prop} (P : Ab → Prop) (h1 : wp t α fun o β => o = .nx ∧ P β) (h2 : ∀ β, P β → wp u β Q) : wp (sSeq t u) α Q := by
  rw [wp_seq]
  refine wp_mono h1 fun o β ⟨e, p⟩ => ?_
  subst e
  exact h2 β p
theorem F2.eqm {A B : Type} {f : A → B} {l : List A} {k : List B} (h : F2 (fun a b => b = f a) l k) : k = l.map f := by
  induction h with
  | nil => rfl
  | cons e _ ih => rw [e, ih]; rfl
end Md
end
section
set_option Elab.async false
set_option linter.all false
set_option maxRecDepth 100000
set_option maxHeartbeats 2000000
namespace Md
open PySem PySem.Spec PyProof.Rows L2 Pd

/-! ### lots sorted, dicts whose keys are lots -/
def iL (l : List Nat) : List Int := l.map fun n : Nat => (n : Int)
theorem rowD_iL (l : List Nat) : rowD (iL l) = dL l := by
  unfold rowD iL dL
  rw [List.map_map]; rfl
theorem iL_inj {l k : List Nat} (h : iL l = iL k) : l = k := by
  unfold iL at h
  exact (List.map_inj_right (f := fun n : Nat => (n : Int)) fun a b e => by omega).mp h
def srtL (ls : List (List Nat)) : List (List Nat) := ls.mergeSort fun a b => !HT.lexLt (iL b) (iL a)
theorem srtL_perm (ls : List (List Nat)) : (srtL ls).Perm ls := List.mergeSort_perm _ _
theorem srtL_pw (ls : List (List Nat)) : (srtL ls).Pairwise fun a b => HT.lexLt (iL b) (iL a) = false := by
  refine (List.pairwise_mergeSort (le := fun a b : List Nat => !HT.lexLt (iL b) (iL a)) (fun a b c h1 h2 => ?_) (fun a b => ?_) ls).imp fun h => by simpa using h
  · have h1 : HT.lexLt (iL b) (iL a) = false := by simpa using h1
    have h2 : HT.lexLt (iL c) (iL b) = false := by simpa using h2
    have := NtL.lex_tr _ _ _ h1 h2
    simp [this]
  · rcases lex_total (iL a) (iL b) with h | h <;> simp [h]
theorem srtL_row (ls : List (List Nat)) : (srtL ls).map iL = sortL (ls.map iL) := by
  refine sortL_uniq ((srtL_perm ls).map _) ?_
  rw [List.pairwise_map]
  exact srtL_pw ls
theorem srtL_eq {ls ks : List (List Nat)} (h : ls.Perm ks) : srtL ls = srtL ks := by
  have e : (srtL ls).map iL = (srtL ks).map iL := by
    rw [srtL_row ks]
    refine sortL_uniq (((srtL_perm ls).trans h).map _) ?_
    rw [List.pairwise_map]
    exact srtL_pw ls
  exact (List.map_inj_right (f := iL) fun a b e => iL_inj e).mp e
theorem dSort_L (ls : List (List Nat)) : dSort (ls.map dL) = some ((srtL ls).map dL) := by
  have e1 : ∀ ms : List (List Nat), ms.map dL = (ms.map iL).map rowD := fun ms => by
    rw [List.map_map]
    exact List.map_congr_left fun l _ => (rowD_iL l).symm
  rw [e1 ls, e1 (srtL ls), srtL_row]
  cases ls with
  | nil => simp [dSort, toInts, sortI, sortL]
  | cons p qs =>
    unfold dSort
    rw [List.map_cons, toInts_rows, toRows_map]
    simp only
    split <;> rfl
/-! keys -/
def kL (l : List Nat) : List Key := l.map fun n : Nat => Sum.inl (n : Int)
theorem kL_inj {l k : List Nat} (h : kL l = kL k) : l = k := by
  unfold kL at h
  exact (List.map_inj_right (f := fun n : Nat => (Sum.inl (n : Int) : Key)) fun a b e => by have := Sum.inl.inj e; omega).mp h
theorem keysD_L : ∀ l : List Nat, keysD (l.map eN) = some (kL l)
  | [] => rfl
  | n :: l => by
    show (match keyD (eN n), keysD (l.map eN) with | some k, some ks => some (k :: ks) | _, _ => none) = _
    rw [keysD_L l]; rfl
@[simp] theorem keyT_L (l : List Nat) : keyT (dL l) = some (kL l) := keysD_L l
theorem keyP_L (l : List Nat) : PyData.tuple ((kL l).map keyP) = dL l := by
  unfold kL dL
  rw [List.map_map]; rfl
/-- the dict of these lots, all True -/
def dkL (ls : List (List Nat)) : List (List Key × PyData) := ls.map fun l => (kL l, .bool true)
def addL (ls : List (List Nat)) (l : List Nat) : List (List Nat) := if l ∈ ls then ls else ls ++ [l]
@[simp] theorem dkL_len (ls : List (List Nat)) : (dkL ls).length = ls.length := List.length_map _
theorem any_L (ls : List (List Nat)) (l : List Nat) : ((dkL ls).any fun p => decide (p.1 = kL l)) = decide (l ∈ ls) := by
  unfold dkL
  induction ls with
  | nil => rfl
  | cons k ls ih =>
    rw [List.map_cons, List.any_cons, ih]
    by_cases e : l = k
    · subst e; simp
    · have : ¬ kL k = kL l := fun z => e (kL_inj z).symm
      simp [this, e]
theorem vD_L : ∀ (ls : List (List Nat)) (l : List Nat), vD (dkL ls) (kL l) = if l ∈ ls then some (.bool true) else none
  | [], l => rfl
  | k :: ls, l => by
    have ih := vD_L ls l
    unfold vD dkL at *
    rw [List.map_cons, List.find?_cons]
    by_cases e : kL k = kL l
    · have := kL_inj e
      subst this
      simp
    · have e' : ¬ l = k := fun z => e (by rw [z])
      simp only [decide_eq_false e, ih, List.mem_cons, e', false_or]
theorem putD_L (ls : List (List Nat)) (l : List Nat) : putD (dkL ls) (kL l) (.bool true) = dkL (addL ls l) := by
  unfold putD addL
  rw [any_L]
  by_cases h : l ∈ ls
  · simp only [h, decide_true, if_true]
    unfold dkL
    rw [List.map_map]
    refine List.map_congr_left fun k _ => ?_
    simp only [Function.comp]
    split <;> rfl
  · simp only [h, decide_false, if_false, Bool.false_eq_true]
    unfold dkL
    rw [List.map_append]; rfl
@[simp ↓] theorem look_L (ls : List (List Nat)) (l : List Nat) : OD.look (.t (dkL ls)) (dL l) = some (if l ∈ ls then some (.bool true) else none) := by
  unfold OD.look
  simp only [keyT_L, Option.map_some, vD_L]
@[simp ↓] theorem put_L (ls : List (List Nat)) (l : List Nat) : OD.put (.t (dkL ls)) (dL l) (.bool true) = if ls.length < 16777216 then some (.t (dkL (addL ls l))) else none := by
  simp only [OD.put, keyT_L, dkL_len, putD_L]
@[simp ↓] theorem keys_L (ls : List (List Nat)) : OD.keys (.t (dkL ls)) = some (ls.map dL) := by
  unfold OD.keys dkL
  simp only [List.map_map]
  congr 1
  exact List.map_congr_left fun l _ => keyP_L l
@[simp ↓] theorem len_L (ls : List (List Nat)) : OD.len (.t (dkL ls)) = some ls.length := by
  show some (dkL ls).length = _; rw [dkL_len]
theorem pairsT_L : ∀ ls : List (List Nat), pairsT (ls.map fun l => .tuple [dL l, .bool true]) = some (dkL ls)
  | [] => rfl
  | l :: ls => by
    rw [List.map_cons]
    unfold pairsT
    rw [keyT_L, pairsT_L ls]
    rfl
theorem mergeD_L : ∀ (ms ls : List (List Nat)), mergeD (dkL ls) (dkL ms) = dkL (ms.foldl addL ls)
  | [], ls => rfl
  | l :: ms, ls => by
    show mergeD (putD (dkL ls) (kL l) (.bool true)) (dkL ms) = _
    rw [putD_L, mergeD_L ms]
    rfl
theorem addL_mem {ls : List (List Nat)} {l k : List Nat} : k ∈ addL ls l ↔ k ∈ ls ∨ k = l := by
  unfold addL
  split
  · rename_i h
    exact ⟨.inl, fun z => z.elim id fun z => by rw [z]; exact h⟩
  · rw [List.mem_append, List.mem_singleton]
theorem addL_nodup {ls : List (List Nat)} {l : List Nat} (h : ls.Nodup) : (addL ls l).Nodup := by
  unfold addL
  split
  · exact h
  · rename_i hn
    rw [List.nodup_append]
    exact ⟨h, by simp, fun a ha b hb e => hn (by rw [List.mem_singleton] at hb; rw [← hb, ← e]; exact ha)⟩
theorem addL_len {ls : List (List Nat)} {l : List Nat} : (addL ls l).length ≤ ls.length + 1 := by
  unfold addL
  split
  · omega
  · simp
theorem foldl_addL_mem : ∀ (ms ls : List (List Nat)) (k : List Nat), k ∈ ms.foldl addL ls ↔ k ∈ ls ∨ k ∈ ms
  | [], ls, k => by simp
  | l :: ms, ls, k => by
    rw [List.foldl_cons, foldl_addL_mem ms, addL_mem, List.mem_cons, or_assoc]
theorem foldl_addL_nodup : ∀ (ms ls : List (List Nat)), ls.Nodup → (ms.foldl addL ls).Nodup
  | [], ls, h => h
  | l :: ms, ls, h => by
    rw [List.foldl_cons]
    exact foldl_addL_nodup ms _ (addL_nodup h)
end Md
end
section
set_option Elab.async false
set_option linter.all false
set_option maxRecDepth 100000
set_option maxHeartbeats 2000000
namespace Md
open PySem PySem.Spec PyProof.Rows L2 Pd

/-! ### readings of objects handed back, of enumerate, of range downwards -/
section
variable {α : Ab} {i : Nat} {t t1 t2 t3 : M PyData}
@[simp ↓] theorem wp_mCallO {F : FO} {ts : M (List Sl)} {Q} : wp (mCallO F ts) α Q ↔ wp ts α fun as α1 => hasDk as = false ∧ ws (F as) fun o => Q o α1 := by
  unfold wp mCallO ws
  constructor
  · rintro ⟨x, α', e, q⟩
    split at e
    · cases e
    rename_i as α1 h1
    split at e
    · cases e
    rename_i h2
    split at e
    case h_2 => cases e
    rename_i r h3
    cases e
    exact ⟨as, _, h1, by simpa using h2, _, h3, q⟩
  · rintro ⟨as, α1, h1, h2, r, h3, q⟩
    exact ⟨r, α1, by rw [h1]; simp only [h2, Bool.false_eq_true, if_false, h3], q⟩
@[simp ↓] theorem wp_oSeq {u : MS} {v : M OD} {Q : OD → Ab → Prop} : wp (τ := OD) (oSeq u v) α Q ↔ wp u α fun o α1 => o = .nx ∧ wp v α1 Q := by
  unfold wp oSeq
  constructor
  · rintro ⟨x, α', e, q⟩
    split at e
    · rename_i α1 h1
      exact ⟨_, _, h1, rfl, _, _, e, q⟩
    · cases e
  · rintro ⟨o, α1, h1, rfl, x, α', h2, q⟩
    exact ⟨x, α', by rw [h1]; exact h2, q⟩
@[simp ↓] theorem wp_oRet {Q : OD → Ab → Prop} : wp (τ := OD) (oRet i) α Q ↔ ws (objOf i α) fun o => Q o α := by
  unfold wp oRet ws
  constructor
  · rintro ⟨x, α', e, q⟩
    split at e
    · rename_i o h1
      cases e
      exact ⟨_, h1, q⟩
    · cases e
  · rintro ⟨o, h1, q⟩
    exact ⟨o, α, by rw [h1], q⟩
@[simp ↓] theorem wp_mIxO {to : M OD} {Q} : wp (mIxO to t) α Q ↔ wp to α fun o α1 => wp t α1 fun d α2 => ws (o.look d) fun r => ∃ z, r = some z ∧ Q z α2 := by
  unfold wp mIxO ws
  constructor
  · rintro ⟨x, α', e, q⟩
    split at e
    · cases e
    rename_i o α1 h1
    split at e
    · cases e
    rename_i d α2 h2
    split at e
    case h_2 => cases e
    rename_i z h3
    cases e
    exact ⟨o, α1, h1, d, _, h2, _, h3, _, rfl, q⟩
  · rintro ⟨o, α1, h1, d, α2, h2, r, h3, z, rfl, q⟩
    exact ⟨z, α2, by rw [h1]; simp only [h2, h3], q⟩
@[simp ↓] theorem wp_mR3 {Q} : wp (mR3 t1 t2 t3) α Q ↔ wp t1 α fun d1 α1 => wp t2 α1 fun d2 α2 => wp t3 α2 fun d3 α3 => ws (dR3 d1 d2 d3) fun ds => Q ds α3 := by
  unfold mR3; rw [wp_mb]; refine wp_iff fun _ _ => ?_; rw [wp_mb]; refine wp_iff fun _ _ => ?_; rw [wp_mb]; refine wp_iff fun _ _ => ?_; rw [wp_mo]
@[simp ↓] theorem wp_mEnumA {Q} : wp (mEnumA t) α Q ↔ wp t α fun d α1 => ws (dEnm d) fun ds => Q ds α1 := by unfold mEnumA; rw [wp_mb]; refine wp_iff fun _ _ => ?_; rw [wp_mo]
@[simp ↓] theorem dEnm_l {ds} : dEnm (.list ds) = some (enD ds) := rfl
@[simp ↓] theorem dEnm_t {ds} : dEnm (.tuple ds) = some (enD ds) := rfl
end
theorem fo_of {n m : Nat} {body : M OD} {as : List Sl} (hl : as.length = n) {o : OD} (h : wp body ⟨as ++ List.replicate (m - as.length) .un, none⟩ fun o' α => o' = o ∧ α.δ = none) : fArO n (fObj m body) as = some o := by
  unfold fArO
  rw [if_pos hl]
  obtain ⟨x, ⟨ρ, δ⟩, e, rfl, h2⟩ := h
  have h2 : δ = none := h2
  subst h2
  unfold fObj
  rw [show body ⟨as ++ List.replicate (m - as.length) .un, none⟩ = _ from e]
/-- the items with their places -/
theorem enD_map {A : Type} (f : A → PyData) (l : List A) : enD (l.map f) = l.zipIdx.map fun p => .tuple [.int (p.2 : Nat), f p.1] := by
  unfold enD
  rw [List.zipIdx_map, List.map_map]
  rfl
theorem enD_rg {n : Nat} (f : Nat → PyData) : enD ((List.range n).map f) = (List.range n).map fun a => .tuple [.int (a : Nat), f a] := by
  unfold enD
  refine List.ext_getElem (by simp) fun i h1 h2 => ?_
  simp
/-! ### words -/
theorem dEq_str {x y : Str} (hx : okS x) (hy : okS y) : dEq (.str x) (.str y) = some (decide (x = y)) := by
  unfold dEq
  rw [if_pos ⟨shp_s hx, shp_s hy⟩, eqv_str]
/-! ### deeds: a pour is true -/
abbrev Deed := Bool × Nat
def wd (b : Bool) : Str := if b then "pour" else "open"
def eD (d : Deed) : PyData := .tuple [.str (wd d.1), .int d.2]
def dS (S : List Deed) : PyData := .tuple (S.map eD)
theorem okS_wd (b : Bool) : okS (wd b) := by cases b <;> exact okS_of _
theorem wd_pour (b : Bool) : dEq (.str (wd b)) (.str "pour") = some b := by
  rw [dEq_str (okS_wd b) (okS_of _)]
  cases b
  · exact congrArg some (decide_eq_false (by decide +kernel))
  · exact congrArg some (decide_eq_true rfl)
theorem wd_open (b : Bool) : dEq (.str (wd b)) (.str "open") = some (!b) := by
  rw [dEq_str (okS_wd b) (okS_of _)]
  cases b
  · exact congrArg some (decide_eq_true rfl)
  · exact congrArg some (decide_eq_false (by decide +kernel))
theorem wd_in (b : Bool) : dIn (.str (wd b)) (.tuple [.str "pour", .str "open"]) = some true := by
  have hs : SeqAt.shaped (.list [.str "pour", .str "open"]) = true := by decide +kernel
  show (if SeqAt.shaped _ = true ∧ SeqAt.shaped _ = true then some _ else none) = _
  rw [if_pos ⟨shp_s (okS_wd b), hs⟩]
  simp only [List.any_cons, List.any_nil, eqv_str]
  cases b <;> decide +kernel
/-- all deeds are at places of the hill -/
def Dds (n : Nat) (S : List Deed) : Prop := ∀ d ∈ S, d.2 < n
theorem Dds.app {n : Nat} {S T : List Deed} (h : Dds n S) (k : Dds n T) : Dds n (S ++ T) := fun d hd => (List.mem_append.mp hd).elim (h d) (k d)
theorem Dds.one {n : Nat} {d : Deed} (h : d.2 < n) : Dds n [d] := fun e he => by rw [List.mem_singleton.mp he]; exact h
/-- what a deed reaches -/
def rch (ps : List (Nat × Nat)) (d : Deed) : Nat → Bool := if d.1 then dn ps d.2 else up ps d.2
/-- what the last deed that reaches a place was, if there is one -/
def cp (ps : List (Nat × Nat)) (S : List Deed) (i : Nat) : Option Bool := S.foldl (fun o d => if rch ps d i then some d.1 else o) none
def ap (c : Nat → Option Bool) (w : Nat → Bool) (i : Nat) : Bool := (c i).getD (w i)
def thn (c e : Nat → Option Bool) (i : Nat) : Option Bool := (e i).or (c i)
theorem cp_nil (ps : List (Nat × Nat)) (i : Nat) : cp ps [] i = none := rfl
theorem cp_snoc (ps : List (Nat × Nat)) (S : List Deed) (d : Deed) (i : Nat) : cp ps (S ++ [d]) i = if rch ps d i then some d.1 else cp ps S i := by
  unfold cp; rw [List.foldl_append]; rfl
theorem foldl_or (ps : List (Nat × Nat)) (i : Nat) : ∀ (T : List Deed) (o : Option Bool), T.foldl (fun o d => if rch ps d i then some d.1 else o) o = (cp ps T i).or o
  | [], o => by simp [cp]
  | d :: T, o => by
    show T.foldl _ (if rch ps d i then some d.1 else o) = (T.foldl _ (if rch ps d i then some d.1 else none)).or o
    rw [foldl_or ps i T, foldl_or ps i T]
    cases rch ps d i <;> cases cp ps T i <;> simp
theorem cp_app (ps : List (Nat × Nat)) (S T : List Deed) (i : Nat) : cp ps (S ++ T) i = thn (cp ps S) (cp ps T) i := by
  unfold thn
  show List.foldl _ none (S ++ T) = _
  rw [List.foldl_append, foldl_or]
  rfl
/-- the wet and the dry places of a couple -/
def wetF (c : Nat → Option Bool) (i : Nat) : Bool := c i == some true
def dryF (c : Nat → Option Bool) (i : Nat) : Bool := c i == some false
def dC (c : Nat → Option Bool) : PyData := .tuple [dL (lot (wetF c)), dL (lot (dryF c))]
theorem lot_congr {f g : Nat → Bool} (h : ∀ i < 10, f i = g i) : lot f = lot g := by
  unfold lot
  exact List.filter_congr fun i hi => h i (List.mem_range.mp hi)
theorem dC_congr {c e : Nat → Option Bool} (h : ∀ i < 10, c i = e i) : dC c = dC e := by
  unfold dC
  rw [lot_congr (f := wetF c) (g := wetF e) fun i hi => by unfold wetF; rw [h i hi], lot_congr (f := dryF c) (g := dryF e) fun i hi => by unfold dryF; rw [h i hi]]
end Md
end
section
set_option Elab.async false
set_option linter.all false
set_option maxRecDepth 100000
set_option maxHeartbeats 2000000
namespace Md
open PySem PySem.Spec PyProof.Rows L2 Pd
/-! ### lower sets, upper sets, couples -/
structure LowF (n : Nat) (ps : List (Nat × Nat)) (f : Nat → Bool) : Prop where
  lt : ∀ i, f i = true → i < n
  dn : ∀ i j, f i = true → (j, i) ∈ ps → f j = true
structure UpF (n : Nat) (ps : List (Nat × Nat)) (f : Nat → Bool) : Prop where
  lt : ∀ i, f i = true → i < n
  up : ∀ i j, f i = true → (i, j) ∈ ps → f j = true
structure Cpl (n : Nat) (ps : List (Nat × Nat)) (c : Nat → Option Bool) : Prop where
  lt : ∀ i, c i ≠ none → i < n
  wet : ∀ i j, c i = some true → (j, i) ∈ ps → c j = some true
  dry : ∀ i j, c i = some false → (i, j) ∈ ps → c j = some false
theorem Cpl.low {n : Nat} {ps : List (Nat × Nat)} {c : Nat → Option Bool} (h : Cpl n ps c) : LowF n ps (wetF c) := by
  refine ⟨fun i hi => ?_, fun i j hi hp => ?_⟩
  · have : c i = some true := by simpa [wetF] using hi
    exact h.lt i (by rw [this]; simp)
  · have : c i = some true := by simpa [wetF] using hi
    simp [wetF, h.wet i j this hp]
theorem Cpl.upp {n : Nat} {ps : List (Nat × Nat)} {c : Nat → Option Bool} (h : Cpl n ps c) : UpF n ps (dryF c) := by
  refine ⟨fun i hi => ?_, fun i j hi hp => ?_⟩
  · have : c i = some false := by simpa [dryF] using hi
    exact h.lt i (by rw [this]; simp)
  · have : c i = some false := by simpa [dryF] using hi
    simp [dryF, h.dry i j this hp]
theorem cpl_nil {n : Nat} {ps : List (Nat × Nat)} : Cpl n ps (fun _ => none) := ⟨fun i h => absurd rfl h, fun i j h => (nomatch h), fun i j h => (nomatch h)⟩
theorem dn_iff {ps : List (Nat × Nat)} {x i : Nat} : dn ps x i = true ↔ i = x ∨ (i, x) ∈ ps := by simp [dn]
theorem up_iff {ps : List (Nat × Nat)} {x i : Nat} : up ps x i = true ↔ i = x ∨ (x, i) ∈ ps := by simp [up]
theorem rch_t {ps : List (Nat × Nat)} {x i : Nat} : rch ps (true, x) i = dn ps x i := rfl
theorem rch_f {ps : List (Nat × Nat)} {x i : Nat} : rch ps (false, x) i = up ps x i := rfl
/-- transitive pairs of n -/
structure Trn (n : Nat) (ps : List (Nat × Nat)) : Prop where
  lt : ∀ p ∈ ps, p.1 < n ∧ p.2 < n
  tr : ∀ a b c, (a, b) ∈ ps → (b, c) ∈ ps → a ≠ c → (a, c) ∈ ps
section
variable {n : Nat} {ps : List (Nat × Nat)}
theorem Trn.le {a b c : Nat} (h : Trn n ps) (h1 : (a, b) ∈ ps) (h2 : b = c ∨ (b, c) ∈ ps) : a = c ∨ (a, c) ∈ ps := by
  rcases h2 with rfl | h2
  · exact .inr h1
  · by_cases e : a = c
    · exact .inl e
    · exact .inr (h.tr a b c h1 h2 e)
theorem Trn.ge {a b c : Nat} (h : Trn n ps) (h1 : a = b ∨ (a, b) ∈ ps) (h2 : (b, c) ∈ ps) : a = c ∨ (a, c) ∈ ps := by
  rcases h1 with rfl | h1
  · exact .inr h2
  · by_cases e : a = c
    · exact .inl e
    · exact .inr (h.tr a b c h1 h2 e)
theorem rchd_lt (h : Trn n ps) {d : Deed} (hd : d.2 < n) {i : Nat} (hi : rch ps d i = true) : i < n := by
  obtain ⟨b, x⟩ := d
  cases b with
  | true =>
    rw [rch_t, dn_iff] at hi
    rcases hi with rfl | hi
    · exact hd
    · exact (h.lt _ hi).1
  | false =>
    rw [rch_f, up_iff] at hi
    rcases hi with rfl | hi
    · exact hd
    · exact (h.lt _ hi).2
theorem step_cpl (h : Trn n ps) {d : Deed} (hd : d.2 < n) {c : Nat → Option Bool} (hc : Cpl n ps c) : Cpl n ps (fun i => if rch ps d i then some d.1 else c i) := by
  refine ⟨fun i hi => ?_, fun i j hi hp => ?_, fun i j hi hp => ?_⟩
  · by_cases e : rch ps d i = true
    · exact rchd_lt h hd e
    · exact hc.lt i (by simpa [e] using hi)
  · obtain ⟨b, x⟩ := d
    simp only at hi ⊢
    by_cases ei : rch ps (b, x) i = true
    · rw [if_pos ei] at hi
      have hb : b = true := Option.some.inj hi
      subst hb
      rw [rch_t, dn_iff] at ei
      have ej : rch ps (true, x) j = true := by
        rw [rch_t, dn_iff]
        exact h.le hp ei
      rw [if_pos ej]
    · rw [if_neg ei] at hi
      have hj := hc.wet i j hi hp
      by_cases ej : rch ps (b, x) j = true
      · rw [if_pos ej]
        cases b with
        | true => rfl
        | false =>
          exfalso
          rw [rch_f, up_iff] at ej
          refine ei ?_
          rw [rch_f, up_iff]
          rcases h.ge (ej.imp Eq.symm id) hp with e | e
          · exact .inl e.symm
          · exact .inr e
      · rw [if_neg ej]; exact hj
  · obtain ⟨b, x⟩ := d
    simp only at hi ⊢
    by_cases ei : rch ps (b, x) i = true
    · rw [if_pos ei] at hi
      have hb : b = false := Option.some.inj hi
      subst hb
      rw [rch_f, up_iff] at ei
      have ej : rch ps (false, x) j = true := by
        rw [rch_f, up_iff]
        rcases h.ge (ei.imp Eq.symm id) hp with e | e
        · exact .inl e.symm
        · exact .inr e
      rw [if_pos ej]
    · rw [if_neg ei] at hi
      have hj := hc.dry i j hi hp
      by_cases ej : rch ps (b, x) j = true
      · rw [if_pos ej]
        cases b with
        | false => rfl
        | true =>
          exfalso
          rw [rch_t, dn_iff] at ej
          refine ei ?_
          rw [rch_t, dn_iff]
          exact h.le hp ej
      · rw [if_neg ej]; exact hj
theorem foldl_cpl (h : Trn n ps) : ∀ (S : List Deed) (c : Nat → Option Bool), Dds n S → Cpl n ps c → Cpl n ps (fun i => S.foldl (fun o d => if rch ps d i then some d.1 else o) (c i))
  | [], c, _, hc => hc
  | d :: S, c, hS, hc => foldl_cpl h S (fun i => if rch ps d i then some d.1 else c i) (fun e he => hS e (List.mem_cons_of_mem _ he)) (step_cpl h (hS d List.mem_cons_self) hc)
theorem cp_cpl (h : Trn n ps) {S : List Deed} (hS : Dds n S) : Cpl n ps (cp ps S) := foldl_cpl h S (fun _ => none) hS cpl_nil
theorem thn_cpl {c e : Nat → Option Bool} (hc : Cpl n ps c) (he : Cpl n ps e) : Cpl n ps (thn c e) := by
  refine ⟨fun i hi => ?_, fun i j hi hp => ?_, fun i j hi hp => ?_⟩
  · unfold thn at hi
    by_cases h : e i = none
    · exact hc.lt i fun z => hi (by rw [h, z]; rfl)
    · exact he.lt i h
  · unfold thn at hi ⊢
    cases h : e i with
    | some b =>
      rw [h] at hi
      have hb : b = true := by simpa using hi
      subst hb
      rw [he.wet i j h hp]; rfl
    | none =>
      rw [h] at hi
      have hi : c i = some true := by simpa using hi
      have hj := hc.wet i j hi hp
      cases h2 : e j with
      | none => simp [hj]
      | some b =>
        cases b with
        | true => rfl
        | false => rw [he.dry j i h2 hp] at h; cases h
  · unfold thn at hi ⊢
    cases h : e i with
    | some b =>
      rw [h] at hi
      have hb : b = false := by simpa using hi
      subst hb
      rw [he.dry i j h hp]; rfl
    | none =>
      rw [h] at hi
      have hi : c i = some false := by simpa using hi
      have hj := hc.dry i j hi hp
      cases h2 : e j with
      | none => simp [hj]
      | some b =>
        cases b with
        | false => rfl
        | true => rw [he.wet j i h2 hp] at h; cases h
theorem ap_low {c : Nat → Option Bool} {w : Nat → Bool} (hc : Cpl n ps c) (hw : LowF n ps w) : LowF n ps (ap c w) := by
  refine ⟨fun i hi => ?_, fun i j hi hp => ?_⟩
  · unfold ap at hi
    cases h : c i with
    | some b => exact hc.lt i (by rw [h]; simp)
    | none => rw [h] at hi; exact hw.lt i hi
  · unfold ap at hi ⊢
    cases h : c i with
    | some b =>
      rw [h] at hi
      have hb : b = true := hi
      subst hb
      rw [hc.wet i j h hp]; rfl
    | none =>
      rw [h] at hi
      have hj := hw.dn i j hi hp
      cases h2 : c j with
      | none => exact hj
      | some b =>
        cases b with
        | true => rfl
        | false => rw [hc.dry j i h2 hp] at h; cases h
theorem LowF.none : LowF n ps (fun _ => false) := ⟨fun i h => (nomatch h), fun i j h => (nomatch h)⟩
theorem LowF.all (h : Trn n ps) : LowF n ps (fun i => decide (i < n)) := ⟨fun i hi => of_decide_eq_true hi, fun i j _ hp => decide_eq_true (h.lt _ hp).1⟩
theorem UpF.rest (h : Trn n ps) {f : Nat → Bool} (hf : LowF n ps f) : UpF n ps (fun i => decide (i < n) && !f i) := by
  refine ⟨fun i hi => ?_, fun i j hi hp => ?_⟩
  · simp at hi; exact hi.1
  · simp at hi ⊢
    refine ⟨(h.lt _ hp).2, ?_⟩
    cases e : f j with
    | false => rfl
    | true => rw [hf.dn j i e hp] at hi; exact absurd hi.2 (by simp)
theorem LowF.rest (h : Trn n ps) {f : Nat → Bool} (hf : UpF n ps f) : LowF n ps (fun i => decide (i < n) && !f i) := by
  refine ⟨fun i hi => ?_, fun i j hi hp => ?_⟩
  · simp at hi; exact hi.1
  · simp at hi ⊢
    refine ⟨(h.lt _ hp).1, ?_⟩
    cases e : f j with
    | false => rfl
    | true => rw [hf.up j i e hp] at hi; exact absurd hi.2 (by simp)
end
/-! then, thrice; couples done -/
theorem thn_assoc (a b c : Nat → Option Bool) (i : Nat) : thn (thn a b) c i = thn a (thn b c) i := by
  unfold thn; cases c i <;> cases b i <;> rfl
theorem thn_self (a : Nat → Option Bool) (i : Nat) : thn a a i = a i := by unfold thn; cases a i <;> rfl
theorem thn_nil (a : Nat → Option Bool) (i : Nat) : thn a (fun _ => none) i = a i := by unfold thn; cases a i <;> rfl
theorem nil_thn (a : Nat → Option Bool) (i : Nat) : thn (fun _ => none) a i = a i := by unfold thn; cases a i <;> rfl
theorem ap_thn (a b : Nat → Option Bool) (w : Nat → Bool) (i : Nat) : ap (thn a b) w i = ap b (ap a w) i := by
  unfold ap thn; cases b i <;> cases a i <;> rfl
theorem wet_thn (a b : Nat → Option Bool) (i : Nat) : wetF (thn a b) i = (wetF a i && !dryF b i || wetF b i) := by
  unfold wetF dryF thn
  rcases a i with _ | _ | _ <;> rcases b i with _ | _ | _ <;> rfl
theorem dry_thn (a b : Nat → Option Bool) (i : Nat) : dryF (thn a b) i = (dryF a i && !wetF b i || dryF b i) := by
  unfold wetF dryF thn
  rcases a i with _ | _ | _ <;> rcases b i with _ | _ | _ <;> rfl
theorem ap_wd (c : Nat → Option Bool) (w : Nat → Bool) (i : Nat) : ap c w i = (wetF c i || w i && !dryF c i) := by
  unfold wetF dryF ap
  rcases c i with _ | _ | _ <;> cases w i <;> rfl
/-! lots of functions -/
theorem fL_lot (f : Nat → Bool) (i : Nat) : decide (i ∈ lot f) = (decide (i < 10) && f i) := by
  have e : (i ∈ lot f) ↔ (i < 10 ∧ f i = true) := by unfold lot; rw [List.mem_filter, List.mem_range]
  by_cases h : i < 10 <;> cases hf : f i <;> simp [h, hf, e]
theorem eM_lot (f : Nat → Bool) : (eM fun i => decide (i ∈ lot f)) = eM f := by
  have h : mk (fun i => decide (i ∈ lot f)) = mk f := mk_eq.mpr fun i hi => by rw [fL_lot]; simp [hi]
  show PyData.int ((mk _ : Nat) : Int) = .int ((mk _ : Nat) : Int)
  rw [h]
end Md
end
section
set_option Elab.async false
set_option linter.all false
set_option maxRecDepth 100000
set_option maxHeartbeats 2000000
namespace Md
open PySem PySem.Spec PyProof.Rows L2 Pd
/-! ### dicts from places to bools -/
def dkB (es : List (Nat × Bool)) : List (Key × PyData) := es.map fun p => (.inl (p.1 : Int), .bool p.2)
def getN (es : List (Nat × Bool)) (x : Nat) : Option Bool := (es.find? fun p => decide (p.1 = x)).map (·.2)
def putN (es : List (Nat × Bool)) (x : Nat) (b : Bool) : List (Nat × Bool) := if (es.any fun p => decide (p.1 = x)) = true then es.map (fun p => if p.1 = x then (p.1, b) else p) else es ++ [(x, b)]
theorem kI_eq {a x : Nat} : ((Sum.inl (a : Int) : Key) = Sum.inl (x : Int)) ↔ a = x := ⟨fun h => by have := Sum.inl.inj h; omega, fun h => by rw [h]⟩
theorem any_B (es : List (Nat × Bool)) (x : Nat) : ((dkB es).any fun p => decide (p.1 = (Sum.inl (x : Int) : Key))) = es.any fun p => decide (p.1 = x) := by
  unfold dkB
  rw [List.any_map]
  congr 1
  funext p
  simp only [Function.comp, kI_eq]
theorem putD_B (es : List (Nat × Bool)) (x : Nat) (b : Bool) : putD (dkB es) (.inl (x : Int)) (.bool b) = dkB (putN es x b) := by
  unfold putD putN
  rw [any_B]
  split
  · unfold dkB
    rw [List.map_map, List.map_map]
    refine List.map_congr_left fun p _ => ?_
    simp only [Function.comp, kI_eq]
    split <;> rfl
  · unfold dkB; rw [List.map_append]; rfl
theorem vD_B : ∀ (es : List (Nat × Bool)) (x : Nat), vD (dkB es) (.inl (x : Int)) = (getN es x).map .bool
  | [], x => rfl
  | p :: es, x => by
    have ih := vD_B es x
    unfold vD getN dkB at *
    rw [List.map_cons, List.find?_cons, List.find?_cons]
    by_cases e : p.1 = x
    · simp [e]
    · simp only [decide_eq_false e, show decide ((Sum.inl (p.1 : Int) : Key) = Sum.inl (x : Int)) = false from decide_eq_false fun z => e (kI_eq.mp z)]
      exact ih
theorem getN_cons (p : Nat × Bool) (es : List (Nat × Bool)) (x : Nat) : getN (p :: es) x = if p.1 = x then some p.2 else getN es x := by
  unfold getN
  rw [List.find?_cons]
  by_cases e : p.1 = x <;> simp [e]
theorem getN_app : ∀ (es fs : List (Nat × Bool)) (x : Nat), getN (es ++ fs) x = (getN es x).or (getN fs x)
  | [], fs, x => rfl
  | p :: es, fs, x => by
    rw [List.cons_append, getN_cons, getN_cons, getN_app es fs x]
    split <;> simp
theorem getN_set : ∀ (es : List (Nat × Bool)) (x y : Nat) (b : Bool), getN (es.map fun p => if p.1 = x then (p.1, b) else p) y = if y = x then (getN es x).map (fun _ => b) else getN es y
  | [], x, y, b => by simp [getN]
  | p :: es, x, y, b => by
    have ih := getN_set es x y b
    rw [List.map_cons, getN_cons, getN_cons, getN_cons, ih]
    by_cases hpx : p.1 = x
    · subst hpx
      by_cases hy : y = p.1
      · subst hy; simp
      · simp [hy, show ¬ p.1 = y from fun z => hy z.symm]
    · by_cases hy : y = x
      · subst hy; simp [hpx]
      · simp [hpx, hy]
theorem getN_none {es : List (Nat × Bool)} {x : Nat} : getN es x = none ↔ (es.any fun p => decide (p.1 = x)) = false := by
  unfold getN
  rw [Option.map_eq_none_iff, List.find?_eq_none, List.any_eq_false]
theorem getN_put (es : List (Nat × Bool)) (x : Nat) (b : Bool) (y : Nat) : getN (putN es x b) y = if y = x then some b else getN es y := by
  unfold putN
  cases h : es.any fun p => decide (p.1 = x) with
  | true =>
    rw [if_pos rfl, getN_set]
    split
    · have : getN es x ≠ none := fun z => by rw [getN_none.mp z] at h; cases h
      obtain ⟨v, e⟩ := Option.ne_none_iff_exists'.mp this
      rw [e]; rfl
    · rfl
  | false =>
    rw [if_neg (by simp), getN_app]
    by_cases hy : y = x
    · subst hy; rw [if_pos rfl, getN_none.mpr h]; simp [getN]
    · rw [if_neg hy]
      have : getN [(x, b)] y = none := by rw [getN_cons]; simp [show ¬ x = y from fun z => hy z.symm, getN]
      rw [this]; simp
theorem putN_len (es : List (Nat × Bool)) (x : Nat) (b : Bool) : (putN es x b).length ≤ es.length + 1 := by
  unfold putN; split <;> simp
theorem putN_keys (es : List (Nat × Bool)) (x : Nat) (b : Bool) : (putN es x b).map (·.1) = if (es.any fun p => decide (p.1 = x)) = true then es.map (·.1) else es.map (·.1) ++ [x] := by
  unfold putN
  split
  · rw [List.map_map]
    refine List.map_congr_left fun p _ => ?_
    simp only [Function.comp]
    split <;> rfl
  · rw [List.map_append]; rfl
theorem key_iff {es : List (Nat × Bool)} {x : Nat} : x ∈ es.map (·.1) ↔ getN es x ≠ none := by
  rw [Ne, getN_none, Bool.not_eq_false, List.any_eq_true, List.mem_map]
  constructor
  · rintro ⟨p, h, e⟩; exact ⟨p, h, decide_eq_true e⟩
  · rintro ⟨p, h, e⟩; exact ⟨p, h, of_decide_eq_true e⟩
theorem putN_nodup {es : List (Nat × Bool)} {x : Nat} {b : Bool} (h : (es.map (·.1)).Nodup) : ((putN es x b).map (·.1)).Nodup := by
  rw [putN_keys]
  split
  · exact h
  · rename_i hn
    rw [List.nodup_append]
    refine ⟨h, by simp, fun a ha c hc e => hn ?_⟩
    rw [List.mem_singleton] at hc
    subst e hc
    rw [List.any_eq_true]
    obtain ⟨p, h1, h2⟩ := List.mem_map.mp ha
    exact ⟨p, h1, decide_eq_true h2⟩
@[simp ↓] theorem look_B (es : List (Nat × Bool)) (x : Nat) : OD.look (.k (dkB es)) (eN x) = some ((getN es x).map .bool) := by
  show some (vD (dkB es) (.inl (x : Int))) = _
  rw [vD_B]
@[simp ↓] theorem look_Bi (es : List (Nat × Bool)) (x : Nat) : OD.look (.k (dkB es)) (.int (x : Int)) = some ((getN es x).map .bool) := look_B es x
@[simp ↓] theorem put_B (es : List (Nat × Bool)) (x : Nat) (b : Bool) : OD.put (.k (dkB es)) (eN x) (.bool b) = if es.length < 16777216 then some (.k (dkB (putN es x b))) else none := by
  have e : keyD (eN x) = some (.inl (x : Int)) := rfl
  simp only [OD.put, e, putD_B]
  rw [show (dkB es).length = es.length from List.length_map _]
@[simp ↓] theorem keys_B (es : List (Nat × Bool)) : OD.keys (.k (dkB es)) = some (es.map fun p => eN p.1) := by
  show some ((dkB es).map fun p => keyP p.1) = _
  unfold dkB
  rw [List.map_map]
  rfl
@[simp ↓] theorem len_B (es : List (Nat × Bool)) : OD.len (.k (dkB es)) = some es.length := by
  show some (dkB es).length = _
  rw [show (dkB es).length = es.length from List.length_map _]
theorem nil_B : ([] : List (Key × PyData)) = dkB [] := rfl
theorem pairs_B : ∀ l : List Nat, pairsK (l.map fun x => .tuple [eN x, .bool true]) = some (dkB (l.map fun x => (x, true)))
  | [] => rfl
  | x :: l => by
    rw [List.map_cons]
    unfold pairsK
    rw [show keyD (eN x) = some (.inl (x : Int)) from rfl, pairs_B l]
    rfl
theorem merge_B : ∀ (l : List Nat) (es : List (Nat × Bool)), ∃ fs, mergeD (dkB es) (dkB (l.map fun x => (x, true))) = dkB fs ∧ fs.length ≤ es.length + l.length ∧ ∀ y, getN fs y = if y ∈ l then some true else getN es y
  | [], es => ⟨es, rfl, by simp, fun y => by simp⟩
  | x :: l, es => by
    obtain ⟨fs, h1, h2, h3⟩ := merge_B l (putN es x true)
    refine ⟨fs, ?_, ?_, fun y => ?_⟩
    · rw [← h1, ← putD_B]; rfl
    · have := putN_len es x true
      simp; omega
    · rw [h3, getN_put]
      by_cases e1 : y ∈ l <;> by_cases e2 : y = x <;> simp [e1, e2]
theorem F2.map {A B : Type} {P : B → Prop} {e : B → PyData} {Y : A → PyData → Prop} (hY : ∀ a y, Y a y → ∃ b, P b ∧ y = e b) {l : List A} {ys : List PyData} (h : F2 Y l ys) : ∃ bs : List B, ys = bs.map e ∧ ∀ b ∈ bs, P b := by
  induction h with
  | nil => exact ⟨[], rfl, fun b hb => by cases hb⟩
  | cons r _ ih =>
    obtain ⟨b, hb, rfl⟩ := hY _ _ r
    obtain ⟨bs, rfl, hbs⟩ := ih
    exact ⟨b :: bs, rfl, fun c hc => by rcases List.mem_cons.mp hc with e | hc; (· rw [e]; exact hb); exact hbs c hc⟩
end Md
end
section
set_option Elab.async false
set_option linter.all false
set_option maxRecDepth 100000
set_option maxHeartbeats 2000000
namespace Md
open PySem PySem.Spec PyProof.Rows L2 Pd P14
theorem lot_of_eq (f : Nat → Bool) : F_lot_of [.val (.int (mk f))] none = some (dL (lot f), none) := by
  obtain ⟨e1, e2⟩ := lot_bits (mk f) (mk_lt f)
  refine f_of rfl ?_
  simp [m_lot_of]
  refine ws_of (dR1_n (by omega)) ⟨by simp; omega, ?_⟩
  refine wp_lcMap (fun i => (mk f).testBit i) eN (fun i hi => ?_) ?_
  · simp [shr1, eN]
    cases (mk f).testBit i <;> rfl
  · rw [e1, lot_mk]; exact ⟨.inl rfl, rfl⟩
theorem eM_congr {f g : Nat → Bool} (h : ∀ b, f b = g b) : eM f = eM g := by rw [funext h]
theorem up_nil (a : Nat) : up [] a = fun b => decide (b = a) := by funext b; simp [up]
theorem dn_nil (a : Nat) : dn [] a = fun b => decide (b = a) := by funext b; simp [dn]
theorem shl1 {a : Nat} (h : a < 10) : dShl (.int 1) (.int a) = some (eM fun i => decide (i = a)) := by
  have e : Builtin.Int.intBits 1 = 1 := by decide +kernel
  rw [dShl_i ⟨by omega, by rw [e]; omega⟩]
  show _ = some (PyData.int ((mk _ : Nat) : Int))
  rw [← pow_mk h]
  simp
theorem set_up {n : Nat} {pre : List (Nat × Nat)} {p : Nat × Nat} (h : p.1 < n) :
    ((List.range n).map fun a => eM (up pre a)).set p.1 (eM fun i => up pre p.1 i || decide (i = p.2)) = (List.range n).map fun a => eM (up (pre ++ [p]) a) := by
  refine List.ext_getElem (by simp) fun i h1 h2 => ?_
  simp at h1 h2
  rw [List.getElem_set]
  simp only [List.getElem_map, List.getElem_range]
  obtain ⟨x, y⟩ := p
  by_cases e : x = i
  · subst e
    simp only [if_pos]
    refine eM_congr fun b => ?_
    simp [up, Bool.or_assoc]
  · simp only [if_neg e]
    refine eM_congr fun b => ?_
    simp [up, show ¬ i = x from fun z => e z.symm]
theorem set_dn {n : Nat} {pre : List (Nat × Nat)} {p : Nat × Nat} (h : p.2 < n) :
    ((List.range n).map fun a => eM (dn pre a)).set p.2 (eM fun i => dn pre p.2 i || decide (i = p.1)) = (List.range n).map fun a => eM (dn (pre ++ [p]) a) := by
  refine List.ext_getElem (by simp) fun i h1 h2 => ?_
  simp at h1 h2
  rw [List.getElem_set]
  simp only [List.getElem_map, List.getElem_range]
  obtain ⟨x, y⟩ := p
  by_cases e : y = i
  · subst e
    simp only [if_pos]
    refine eM_congr fun b => ?_
    simp [dn, Bool.or_assoc]
  · simp only [if_neg e]
    refine eM_congr fun b => ?_
    simp [dn, show ¬ i = y from fun z => e z.symm]
theorem above_eq {n : Nat} {ps : List (Nat × Nat)} (h : Wf n ps) : F_above_masks [.val (dH n ps)] none = some (.list ((List.range n).map fun a => eM (up ps a)), none) := by
  obtain ⟨h1, h2, h3⟩ := h
  refine f_of rfl ?_
  simp [m_above_masks, dH, dPs]
  refine ws_of (dR1_n (by omega)) ⟨by simp; omega, ?_⟩
  refine wp_lcAll (fun a => eM (up [] a)) (fun a ha => ?_) ?_
  · have ha : a < n := List.mem_range.mp ha
    simp [eN, shl1 (show a < 10 by omega), up_nil]
  · simp
    refine wp_forM (fun pre β => ∃ s5 s6, β = ⟨[.val (.tuple [.int n, .tuple (ps.map eP)]), .val (.int n), .val (.tuple (ps.map eP)), .own ((List.range n).map fun a => eM (up pre a)), .un, s5, s6], none⟩) ps ⟨.un, .un, rfl⟩ ?_ ?_
    · rintro pre ⟨x, y⟩ post β e ⟨s5, s6, rfl⟩
      have hp := h3 (x, y) (by rw [e]; simp)
      simp only at hp
      simp [eP]
      refine wp_augIx (by simp) ?_
      simp
      refine ⟨x, rfl, by omega, _, ⟨x, by simp [hp.1], rfl⟩, ?_⟩
      simp [shl1 (show y < 10 by omega), hp.1]
      rw [bOrM]
      exact set_up (p := (x, y)) hp.1
    · rintro β ⟨s5, s6, rfl⟩
      simp
theorem below_eq {n : Nat} {ps : List (Nat × Nat)} (h : Wf n ps) : F_below_masks [.val (dH n ps)] none = some (.list ((List.range n).map fun a => eM (dn ps a)), none) := by
  obtain ⟨h1, h2, h3⟩ := h
  refine f_of rfl ?_
  simp [m_below_masks, dH, dPs]
  refine ws_of (dR1_n (by omega)) ⟨by simp; omega, ?_⟩
  refine wp_lcAll (fun a => eM (dn [] a)) (fun a ha => ?_) ?_
  · have ha : a < n := List.mem_range.mp ha
    simp [eN, shl1 (show a < 10 by omega), dn_nil]
  · simp
    refine wp_forM (fun pre β => ∃ s5 s6, β = ⟨[.val (.tuple [.int n, .tuple (ps.map eP)]), .val (.int n), .val (.tuple (ps.map eP)), .own ((List.range n).map fun a => eM (dn pre a)), .un, s5, s6], none⟩) ps ⟨.un, .un, rfl⟩ ?_ ?_
    · rintro pre ⟨x, y⟩ post β e ⟨s5, s6, rfl⟩
      have hp := h3 (x, y) (by rw [e]; simp)
      simp only at hp
      simp [eP]
      refine wp_augIx (by simp) ?_
      simp
      refine ⟨y, rfl, by omega, _, ⟨y, by simp [hp.2.1], rfl⟩, ?_⟩
      simp [shl1 (show x < 10 by omega), hp.2.1]
      rw [bOrM]
      exact set_dn (p := (x, y)) hp.2.1
    · rintro β ⟨s5, s6, rfl⟩
      simp

theorem zip_map {A : Type} (l : List A) (f g : A → PyData) : zipD (l.map f) (l.map g) = l.map fun a => .tuple [f a, g a] := by
  unfold zipD
  rw [List.zip_map', List.map_map]
  rfl
/-- the union of the masks at the places of a mask -/
def un (F : Nat → Nat → Bool) (f : Nat → Bool) (b : Nat) : Bool := (lot f).any fun a => F a b
theorem union_eq {n : Nat} {F : Nat → Nat → Bool} {f : Nat → Bool} (hf : ∀ i, i < 10 → f i = true → i < n) : F_union_of [.val (.list ((List.range n).map fun a => eM (F a))), .val (eM f)] none = some (eM (un F f), none) := by
  refine f_of rfl ?_
  simp [m_union_of, lot_of_eq, dL]
  refine wp_forM (enc := eN) (fun pre β => ∃ s3, β = ⟨[.val (.list ((List.range n).map fun a => eM (F a))), .val (eM f), .val (eM fun b => pre.any fun a => F a b), s3], none⟩) (lot f) ⟨.un, ?_⟩ ?_ ?_
  · simp [← zero_mk]
  · rintro pre a post β e ⟨s3, rfl⟩
    have ha : a < n := by
      have hm : a ∈ lot f := by rw [e]; simp
      have := List.mem_filter.mp hm
      exact hf a (List.mem_range.mp this.1) this.2
    simp [eN]
    refine wp_aug rfl ?_
    simp
    refine ⟨_, atI_map (by simpa using ha), _, rfl, ?_⟩
    simp [bOrM]
  · rintro β ⟨s3, rfl⟩
    simp
    rfl
theorem int_eq (i : Int) : F_is_integer [.val (.int i)] none = some (.bool true, none) := by
  refine f_of rfl ?_
  simp [m_is_integer]
theorem within_eq (i a b : Int) : F_is_within [.val (.int i), .val (.int a), .val (.int b)] none = some (.bool (decide (a ≤ i) && decide (i ≤ b)), none) := by
  refine f_of rfl ?_
  simp [m_is_within, int_eq]
  by_cases h1 : a ≤ i <;> by_cases h2 : i ≤ b <;> simp [h1, h2] <;> omega
theorem items_eq (ds : List PyData) (k : Int) : F_has_items [.val (.tuple ds), .val (.int k)] none = some (.bool (decide ((ds.length : Int) = k)), none) := by
  refine f_of rfl ?_
  simp [m_has_items]
theorem pair_eq {n : Nat} {p : Nat × Nat} (h : p.1 < n ∧ p.2 < n ∧ p.1 ≠ p.2) : F_is_pair_of [.val (.int n), .val (eP p)] none = some (.bool true, none) := by
  refine f_of rfl ?_
  obtain ⟨x, y⟩ := p
  simp at h
  have w1 : F_is_within [.val (.int (x : Int)), .val (.int 0), .val (.int ((n : Int) - 1))] none = some (.bool true, none) := by rw [within_eq]; simp; omega
  have w2 : F_is_within [.val (.int (y : Int)), .val (.int 0), .val (.int ((n : Int) - 1))] none = some (.bool true, none) := by rw [within_eq]; simp; omega
  simp [m_is_pair_of, eP, items_eq, w1, w2]
  omega
/-- strictly ascending pairs -/
def ltP (p q : Nat × Nat) : Prop := p.1 < q.1 ∨ (p.1 = q.1 ∧ p.2 < q.2)
instance : DecidableRel ltP := fun p q => by unfold ltP; exact inferInstance
def Srt (ps : List (Nat × Nat)) : Prop := ps.Pairwise ltP
theorem lt_eP (p q : Nat × Nat) : dLt (eP p) (eP q) = some (decide (ltP p q)) := by
  obtain ⟨a, b⟩ := p
  obtain ⟨c, d⟩ := q
  show some (HT.lexLt [(a : Int), b] [(c : Int), d]) = _
  rw [HT.lexLt_cons, HT.lexLt_cons]
  unfold ltP
  simp
  by_cases e : a = c
  · subst e
    by_cases e2 : b = d
    · subst e2; simp [HT.lexLt]
    · have : ¬ (b : Int) = d := by omega
      simp [this]
  · have : ¬ (a : Int) = c := by omega
    simp [e, this]
theorem dR1_sub {n : Nat} (h : n < 1000000) : dR1 (.int ((n : Int) - 1)) = some ((List.range (n - 1)).map eN) := by
  cases n with
  | zero => rfl
  | succ n => rw [show (((n + 1 : Nat) : Int) - 1) = ((n : Nat) : Int) by omega]; exact dR1_n (by omega)
theorem asc_eq {ps : List (Nat × Nat)} (h : Srt ps) (hl : ps.length < 1000) : F_is_ascending [.val (dPs ps)] none = some (.bool true, none) := by
  refine f_of rfl ?_
  simp [m_is_ascending, dPs]
  refine ⟨_, dR1_sub (by omega), by simp; omega, ?_⟩
  refine wp_alMap (fun _ => true) (fun i hi => ?_) ?_
  · have hi : i < ps.length - 1 := List.mem_range.mp hi
    simp [eN]
    refine ws_of (atI_nat (i := i) (List.getElem?_eq_getElem (by simp; omega))) ?_
    simp
    refine ws_of (atI_nat (i := i + 1) (List.getElem?_eq_getElem (by simp; omega))) ?_
    simp [lt_eP]
    exact List.pairwise_iff_getElem.mp h i (i + 1) (by omega) (by omega) (by omega)
  · simp
end Md
end
section
set_option Elab.async false
set_option linter.all false
set_option maxRecDepth 100000
set_option maxHeartbeats 2000000
namespace Md
open PySem PySem.Spec PyProof.Rows L2 Pd P14
def Tr (ps : List (Nat × Nat)) : Prop := ∀ a b c, (a, b) ∈ ps → (b, c) ∈ ps → a ≠ c → (a, c) ∈ ps
structure Hl (n : Nat) (ps : List (Nat × Nat)) : Prop where
  wf : Wf n ps
  st : Srt ps
  tr : Tr ps
theorem asc_len : ∀ {l : List Nat} {lo hi : Nat}, l.Pairwise (· < ·) → (∀ x ∈ l, lo ≤ x ∧ x < hi) → l.length ≤ hi - lo
  | [], _, _, _, _ => by simp
  | x :: l, lo, hi, h, k => by
    rw [List.pairwise_cons] at h
    have := asc_len (lo := x + 1) (hi := hi) h.2 fun y hy => ⟨h.1 y hy, (k y (List.mem_cons_of_mem _ hy)).2⟩
    have := k x List.mem_cons_self
    simp
    omega
theorem srt_len {n : Nat} {ps : List (Nat × Nat)} (w : Wf n ps) (h : Srt ps) : ps.length ≤ 100 := by
  have := asc_len (l := ps.map fun p => 10 * p.1 + p.2) (lo := 0) (hi := 100) (by
    rw [List.pairwise_map]
    refine List.Pairwise.imp_of_mem (fun {p q} hp hq hl => ?_) h
    have h1 := w.2.2 p hp
    have h2 := w.2.2 q hq
    have h3 := w.2.1
    unfold ltP at hl
    omega) (fun x hx => by
    obtain ⟨p, hp, rfl⟩ := List.mem_map.mp hx
    have h1 := w.2.2 p hp
    have h3 := w.2.1
    omega)
  simpa using this
theorem pairs_eq {n : Nat} {ps : List (Nat × Nat)} (w : Wf n ps) (h : Srt ps) : F_are_pairs_of [.val (.int n), .val (dPs ps)] none = some (.bool true, none) := by
  have hl := srt_len w h
  refine f_of rfl ?_
  have e := asc_eq h (by omega)
  unfold dPs at e ⊢
  simp [m_are_pairs_of]
  refine ⟨by omega, ?_⟩
  refine wp_alMap (fun _ => true) (fun p hp => ?_) ?_
  · simp [pair_eq (w.2.2 p hp)]
  · simp [e]
theorem book_eq {n : Nat} {ps : List (Nat × Nat)} (w : Wf n ps) (h : Srt ps) : F_is_book [.val (dH n ps)] none = some (.bool true, none) := by
  refine f_of rfl ?_
  have e1 : F_is_within [.val (.int (n : Int)), .val (.int 1), .val (.int 10)] none = some (.bool true, none) := by rw [within_eq]; have := w.1; have := w.2.1; simp; omega
  have e2 := items_eq [.int n, dPs ps] 2
  simp at e2
  simp [m_is_book, dH, e2, e1, pairs_eq w h]
theorem closed_eq {n : Nat} {ps : List (Nat × Nat)} (h : Hl n ps) : F__is_closed [.val (dH n ps)] none = some (.bool true, none) := by
  have hl := srt_len h.wf h.st
  refine f_of rfl ?_
  have e := above_eq h.wf
  unfold dH dPs at e ⊢
  simp [m__is_closed, e]
  refine ⟨by omega, ?_⟩
  refine wp_alMap (fun _ => true) (fun p hp => ?_) ?_
  · obtain ⟨a, b⟩ := p
    have hb := h.wf.2.2 _ hp
    simp at hb
    simp [eP, ws_atR hb.1, ws_atR hb.2.1, bOrM]
    refine congrArg (fun m : Nat => (m : Int)) (mk_eq.mpr fun c hc => ?_)
    simp [up]
    rintro (rfl | hm)
    · exact .inr hp
    · by_cases e : c = a
      · exact .inl e
      · exact .inr (h.tr a b c hp hm fun z => e z.symm)
  · simp
theorem hill_eq {n : Nat} {ps : List (Nat × Nat)} (h : Hl n ps) : F_is_hill [.val (dH n ps)] none = some (.bool true, none) := by
  refine f_of rfl ?_
  simp [m_is_hill, book_eq h.wf h.st, closed_eq h]
theorem need_eq {n : Nat} {ps : List (Nat × Nat)} (h : Hl n ps) : F_need_hill [.val (dH n ps)] none = some (.none, none) := by
  refine f_of rfl ?_
  simp [m_need_hill, hill_eq h]
def jst (ps : List (Nat × Nat)) (t : Nat) : Nat → Bool := fun b => (up ps t b && !dn ps t b) && !un (fun a b => up ps a b && !dn ps a b) (fun b => up ps t b && !dn ps t b) b
def treeB (n : Nat) (ps : List (Nat × Nat)) : Bool := (List.range n).all fun t => decide ((mk fun b => up ps t b && dn ps t b) = mk fun b => decide (b = t)) && decide ((lot (jst ps t)).length ≤ 1)
/-! sorts -/
def rowP (p : Nat × Nat) : List Int := [p.1, p.2]
theorem rowD_P (p : Nat × Nat) : rowD (rowP p) = eP p := rfl
theorem lex_P (p q : Nat × Nat) : HT.lexLt (rowP p) (rowP q) = decide (ltP p q) := by
  have := lt_eP p q
  exact Option.some.inj this
def leP (p q : Nat × Nat) : Bool := !decide (ltP q p)
def srtP (qs : List (Nat × Nat)) : List (Nat × Nat) := qs.mergeSort leP
theorem srtP_perm (qs : List (Nat × Nat)) : (srtP qs).Perm qs := List.mergeSort_perm _ _
theorem srtP_pw (qs : List (Nat × Nat)) : (srtP qs).Pairwise fun a b => ¬ ltP b a := by
  refine (List.pairwise_mergeSort (le := leP) (fun a b c h1 h2 => ?_) (fun a b => ?_) qs).imp fun h => by simpa [leP] using h
  · simp only [leP, Bool.not_eq_true', decide_eq_false_iff_not] at h1 h2 ⊢
    unfold ltP at *
    omega
  · simp only [leP, Bool.or_eq_true, Bool.not_eq_true', decide_eq_false_iff_not]
    unfold ltP
    omega
theorem srtP_srt {qs : List (Nat × Nat)} (h : qs.Nodup) : Srt (srtP qs) := by
  have h1 : (srtP qs).Nodup := (srtP_perm qs).nodup_iff.mpr h
  refine (List.Pairwise.and (srtP_pw qs) h1).imp fun {a b} q => ?_
  obtain ⟨q1, q2⟩ := q
  unfold ltP at *
  rcases Nat.lt_trichotomy a.1 b.1 with q | q | q
  · exact .inl q
  · rcases Nat.lt_trichotomy a.2 b.2 with r | r | r
    · exact .inr ⟨q, r⟩
    · exact absurd (Prod.ext q r) q2
    · exact absurd (.inr ⟨q.symm, r⟩) q1
  · exact absurd (.inl q) q1
theorem dSort_P (qs : List (Nat × Nat)) : dSort (qs.map eP) = some ((srtP qs).map eP) := by
  have e1 : qs.map eP = (qs.map rowP).map rowD := by rw [List.map_map]; rfl
  have e2 : (srtP qs).map eP = ((srtP qs).map rowP).map rowD := by rw [List.map_map]; rfl
  have e3 : (srtP qs).map rowP = sortL (qs.map rowP) := by
    refine sortL_uniq ((srtP_perm qs).map _) ?_
    rw [List.pairwise_map]
    refine (srtP_pw qs).imp fun h => ?_
    rw [lex_P]
    exact decide_eq_false h
  rw [e1, e2, e3]
  cases qs with
  | nil => simp [dSort, toInts, sortI, sortL]
  | cons p qs =>
    unfold dSort
    rw [List.map_cons, toInts_rows, toRows_map]
    simp only
    rw [if_pos]
    rw [List.all_eq_true]
    intro x hx
    have : x ∈ (p :: qs).map rowP := by simpa using hx
    obtain ⟨q, _, rfl⟩ := List.mem_map.mp this
    rfl
theorem dSortS_len (rows : List (List Nat)) (h : ∀ r ∈ rows, r ≠ []) : ∃ ds, dSortS (rows.map dL) = some ds ∧ ds.length = (dd (rows.map fun r => r.map fun n : Nat => (n : Int))).length := by
  have e1 : rows.map dL = (rows.map fun r => r.map fun n : Nat => (n : Int)).map rowD := by
    rw [List.map_map]
    refine List.map_congr_left fun r _ => ?_
    show PyData.tuple _ = PyData.tuple _
    rw [List.map_map]
    rfl
  rw [e1]
  unfold dSortS
  rw [toRows_map]
  simp only
  rw [if_pos]
  · refine ⟨_, rfl, ?_⟩
    rw [List.length_map]
    unfold sortL
    rw [List.length_mergeSort]
  · rw [List.all_eq_true]
    intro x hx
    obtain ⟨r, hr, rfl⟩ := List.mem_map.mp hx
    have := h r hr
    cases r with
    | nil => exact absurd rfl this
    | cons _ _ => rfl
theorem dd_len_le : ∀ ls : List (List Int), (dd ls).length ≤ ls.length
  | [] => Nat.le_refl _
  | l :: ls => by
    unfold dd
    have := dd_len_le ls
    split <;> simp <;> omega
theorem dd_len : ∀ ls : List (List Int), (dd ls).length = ls.length ↔ ls.Nodup
  | [] => by simp [dd]
  | l :: ls => by
    unfold dd
    have h1 := dd_len_le ls
    have h2 := dd_len ls
    split
    · rename_i h
      rw [dd_mem] at h
      simp [h]
      omega
    · rename_i h
      rw [dd_mem] at h
      simp [h, h2]
def pnd (ps : List (Nat × Nat)) (a : Nat) : List Nat := lot fun b => up ps a b && dn ps a b
theorem nodup_int (rows : List (List Nat)) : (rows.map fun r => r.map fun n : Nat => (n : Int)).Nodup ↔ rows.Nodup := by
  unfold List.Nodup
  rw [List.pairwise_map]
  constructor
  · exact fun h => h.imp fun h e => h (by rw [e])
  · refine fun h => h.imp fun {a b} h e => h ?_
    exact (List.map_inj_right (f := fun n : Nat => (n : Int)) (fun x y z => by have z : (x : Int) = y := z; omega)).mp e
/-! equality of data -/
theorem depthAll_le {c : Nat} : ∀ {ds : List PyData}, (∀ d ∈ ds, d.depth ≤ c) → PyData.depthAll ds ≤ c
  | [], _ => Nat.zero_le _
  | d :: ds, h => by
    unfold PyData.depthAll
    exact Nat.max_le.mpr ⟨h d List.mem_cons_self, depthAll_le fun x hx => h x (List.mem_cons_of_mem _ hx)⟩
theorem canAll : ∀ {ds : List PyData}, (∀ d ∈ ds, d.canLay0 = true) → PyData.canLayAll0 ds = true
  | [], _ => rfl
  | d :: ds, h => by
    unfold PyData.canLayAll0
    rw [h d List.mem_cons_self, canAll fun x hx => h x (List.mem_cons_of_mem _ hx)]
    rfl
/-- flat: no deeper than c -/
def flat (c : Nat) (d : PyData) : Prop := d.canLay0 = true ∧ d.depth ≤ c
theorem flat_int {c : Nat} (i : Int) : flat c (.int i) := ⟨rfl, by show 0 ≤ c; omega⟩
theorem flat_bool {c : Nat} (b : Bool) : flat c (.bool b) := ⟨rfl, by show 0 ≤ c; omega⟩
theorem flat_tup {c : Nat} {ds : List PyData} (h : ∀ d ∈ ds, flat c d) : flat (c + 1) (.tuple ds) := by
  refine ⟨canAll fun d hd => (h d hd).1, ?_⟩
  have := depthAll_le fun d hd => (h d hd).2
  show PyData.depthAll ds + 1 ≤ c + 1
  omega
theorem flat_lst {c : Nat} {ds : List PyData} (h : ∀ d ∈ ds, flat c d) : flat (c + 1) (.list ds) := by
  refine ⟨canAll fun d hd => (h d hd).1, ?_⟩
  have := depthAll_le fun d hd => (h d hd).2
  show PyData.depthAll ds + 1 ≤ c + 1
  omega
theorem flat.shp {c : Nat} {d : PyData} (h : flat c d) (hc : c ≤ 64 := by decide) : SeqAt.shaped d = true := by
  unfold SeqAt.shaped
  rw [h.1, decide_eq_true (Nat.le_trans h.2 hc)]
  rfl
theorem flat_eN {c : Nat} {l : List Nat} : ∀ d ∈ l.map eN, flat c d := fun d hd => by
  obtain ⟨n, _, rfl⟩ := List.mem_map.mp hd
  exact flat_int _
theorem flat_eP {c : Nat} (p : Nat × Nat) : flat (c + 1) (eP p) := flat_tup fun d hd => by
  simp at hd
  rcases hd with rfl | rfl <;> exact flat_int _
theorem flat_Ps {c : Nat} (ps : List (Nat × Nat)) : flat (c + 2) (dPs ps) := flat_tup fun d hd => by
  obtain ⟨p, _, rfl⟩ := List.mem_map.mp hd
  exact flat_eP _
theorem eqvAll_map {A : Type} [DecidableEq A] {e : A → PyData} (h : ∀ a b, PyData.eqv (e a) (e b) = decide (a = b)) : ∀ (l k : List A), PyData.eqvAll (l.map e) (k.map e) = decide (l = k)
  | [], [] => by simp [PyData.eqvAll]
  | [], _ :: _ => by simp [PyData.eqvAll]
  | _ :: _, [] => by simp [PyData.eqvAll]
  | a :: l, b :: k => by
    rw [List.map_cons, List.map_cons, PyData.eqvAll, h, eqvAll_map h l k]
    by_cases e1 : a = b <;> by_cases e2 : l = k <;> simp [e1, e2]
theorem eqv_eN (a b : Nat) : PyData.eqv (eN a) (eN b) = decide (a = b) := by
  show ((a : Int) == b) = _
  by_cases e : a = b
  · simp [e]
  · have : ¬ (a : Int) = b := by omega
    simp [e, this]
theorem eqv_eP (p q : Nat × Nat) : PyData.eqv (eP p) (eP q) = decide (p = q) := by
  obtain ⟨a, b⟩ := p
  obtain ⟨c, d⟩ := q
  show PyData.eqvAll ([a, b].map eN) ([c, d].map eN) = _
  rw [eqvAll_map eqv_eN]
  simp
theorem dEq_L (l k : List Nat) : dEq (.list (l.map eN)) (.list (k.map eN)) = some (decide (l = k)) := by
  unfold dEq
  rw [if_pos ⟨(flat_lst (c := 1) flat_eN).shp, (flat_lst (c := 1) flat_eN).shp⟩]
  show some (PyData.eqvAll _ _) = _
  rw [eqvAll_map eqv_eN]
theorem dNe_L (l k : List Nat) : dNe (.list (l.map eN)) (.list (k.map eN)) = some (!decide (l = k)) := by
  unfold dNe
  rw [if_pos ⟨(flat_lst (c := 1) flat_eN).shp, (flat_lst (c := 1) flat_eN).shp⟩]
  show some (!PyData.eqvAll _ _) = _
  rw [eqvAll_map eqv_eN]
theorem dNe_P (p q : Nat × Nat) : dNe (eP p) (eP q) = some (!decide (p = q)) := by
  unfold dNe
  rw [if_pos ⟨(flat_eP (c := 1) _).shp, (flat_eP (c := 1) _).shp⟩, eqv_eP]
theorem dEq_P (p q : Nat × Nat) : dEq (eP p) (eP q) = some (decide (p = q)) := by
  unfold dEq
  rw [if_pos ⟨(flat_eP (c := 1) _).shp, (flat_eP (c := 1) _).shp⟩, eqv_eP]
theorem dIn_P (p : Nat × Nat) (ps : List (Nat × Nat)) : dIn (eP p) (dPs ps) = some (decide (p ∈ ps)) := by
  show (if SeqAt.shaped (eP p) = true ∧ SeqAt.shaped (.list (ps.map eP)) = true then some _ else none) = _
  rw [if_pos ⟨(flat_eP (c := 1) _).shp, (flat_lst (c := 2) fun d hd => by
    obtain ⟨q, _, rfl⟩ := List.mem_map.mp hd
    exact flat_eP _).shp⟩, List.any_map]
  congr 1
  induction ps with
  | nil => rfl
  | cons q ps ih =>
    rw [List.any_cons, ih]
    show (PyData.eqv (eP q) (eP p) || _) = _
    rw [eqv_eP]
    by_cases e : q = p
    · simp [e]
    · simp [e, show ¬ p = q from fun z => e z.symm]
/-! renamings -/
def Pm (n : Nat) (o : List Nat) : Prop := o.Perm (List.range n)
theorem Pm.len {n : Nat} {o : List Nat} (h : Pm n o) : o.length = n := by have := h.length_eq; simpa using this
theorem dSort_N {n : Nat} {o : List Nat} (h : Pm n o) : dSort (o.map eN) = some ((List.range n).map eN) := by
  have e1 : o.map eN = (o.map fun n : Nat => (n : Int)).map PyData.int := by rw [List.map_map]; rfl
  unfold dSort
  rw [e1, toInts_map]
  simp only
  rw [← sortI_uniq (ms := (List.range n).map fun n : Nat => (n : Int)) (h.symm.map _) ?_, List.map_map]
  · rfl
  · rw [List.pairwise_map]
    exact List.pairwise_lt_range.imp fun h => by omega
theorem ren_eq {n : Nat} {o : List Nat} (hn : n ≤ 10) (h : Pm n o) : F__is_renaming [.val (.int n), .val (dL o)] none = some (.bool true, none) := by
  refine f_of rfl ?_
  have e1 := items_eq (o.map eN) n
  rw [decide_eq_true (by simp [h.len])] at e1
  simp [m__is_renaming, dL, e1]
  refine ⟨by have := h.len; omega, ?_⟩
  refine wp_alMap (fun _ => true) (fun i hi => ?_) ?_
  · simp [eN, int_eq]
  · simp
    refine ws_of (dSort_N h) ?_
    simp
    have e2 : dG1 (.int (n : Int)) = some ((List.range n).map eN) := by rw [dG1_int]; unfold dRg; rw [if_pos (by simp; omega), rg0]
    simp [e2, dEq_L]
def nth (o : List Nat) (i : Nat) : Nat := o.getD i 0
/-- the hill led by a renaming -/
def led (o : List Nat) (ps : List (Nat × Nat)) : List (Nat × Nat) := srtP (ps.map fun p => (nth o p.1, nth o p.2))
theorem at_o {n : Nat} {o : List Nat} (h : Pm n o) {i : Nat} (hi : i < n) : atI (o.map eN) (i : Int) = some (eN (nth o i)) := by
  have := h.len
  rw [atI_map (by omega)]
  unfold nth
  rw [List.getD_eq_getElem?_getD, List.getElem?_eq_getElem (by omega)]
  rfl
theorem led_eq {n : Nat} {ps : List (Nat × Nat)} (h : Hl n ps) {o : List Nat} (ho : Pm n o) : F_led_hill [.val (dH n ps), .val (dL o)] none = some (dH n (led o ps), none) := by
  have hl := srt_len h.wf h.st
  have e1 := need_eq h
  have e2 := ren_eq h.wf.2.1 ho
  refine f_of rfl ?_
  unfold dH dPs at e1 ⊢
  simp [m_led_hill, e1, e2]
  refine ⟨by omega, ?_⟩
  refine wp_lcAll (fun p => eP (nth o p.1, nth o p.2)) (fun p hp => ?_) ?_
  · have hp := h.wf.2.2 p hp
    simp [eP, dL]
    refine ws_of (at_o ho hp.1) ?_
    simp
    refine ws_of (at_o ho hp.2.1) ?_
    simp [eN]
  · have e3 : ps.map (fun p => eP (nth o p.1, nth o p.2)) = (ps.map fun p => (nth o p.1, nth o p.2)).map eP := by rw [List.map_map]; rfl
    rw [e3, dSort_P]
    simp
    rfl
def bes (n : Nat) (ps qs : List (Nat × Nat)) : List (Nat × Nat) := ps ++ qs.map fun p => (n + p.1, n + p.2)
def slf (n : Nat) : List (Nat × Nat) := (List.range n).map fun i => (i, i)
def inr (m : Nat) (a : Nat × Nat) (bs : List (Nat × Nat)) : List (Nat × Nat) := (bs.filter fun b => decide ¬ ((a.1, b.1) = (a.2, b.2))).map fun b => (a.1 * m + b.1, a.2 * m + b.2)
def prd (m : Nat) (as bs : List (Nat × Nat)) : List (Nat × Nat) := as.flatMap fun a => inr m a bs
theorem inr_len (m : Nat) (a : Nat × Nat) (bs : List (Nat × Nat)) : (inr m a bs).length ≤ bs.length := by
  unfold inr
  rw [List.length_map]
  exact List.length_filter_le _ _
theorem prd_len (m : Nat) (bs : List (Nat × Nat)) : ∀ as : List (Nat × Nat), (prd m as bs).length ≤ as.length * bs.length
  | [] => by simp [prd]
  | a :: as => by
    have h1 := prd_len m bs as
    have h2 := inr_len m a bs
    unfold prd at h1 ⊢
    rw [List.flatMap_cons, List.length_append, List.length_cons, Nat.succ_mul]
    omega
theorem log_nat {a : Nat} (h : a < 2 ^ 100) : a.log2 ≤ 100 := by
  by_cases hz : a = 0
  · rw [hz]; decide
  · have := (Nat.log2_lt hz).mpr h
    omega
theorem log_small {a : Nat} (h : a < 2 ^ 100) : (a : Int).natAbs.log2 ≤ 100 := by
  rw [Int.natAbs_natCast]
  by_cases hz : a = 0
  · rw [hz]; decide
  · have := (Nat.log2_lt hz).mpr h
    omega
theorem ws_mulN {a b : Nat} (ha : a < 2 ^ 100) (hb : b < 2 ^ 100) {k} : ws (dMul (.int a) (.int b)) k ↔ k (.int ((a * b : Nat) : Int)) := by
  have h1 := log_small ha
  have h2 := log_small hb
  rw [ws_mul]
  constructor
  · rintro ⟨_, q⟩; simpa using q
  · intro q; exact ⟨by omega, by simpa using q⟩
theorem slf_mem {n : Nat} {p : Nat × Nat} : p ∈ slf n ↔ p.1 = p.2 ∧ p.1 < n := by
  unfold slf
  rw [List.mem_map]
  constructor
  · rintro ⟨i, hi, rfl⟩; exact ⟨rfl, List.mem_range.mp hi⟩
  · rintro ⟨h1, h2⟩; exact ⟨p.1, List.mem_range.mpr h2, Prod.ext rfl h1⟩
end Md
end
section
set_option Elab.async false
set_option linter.all false
set_option maxRecDepth 100000
set_option maxHeartbeats 2000000
namespace Md
open PySem PySem.Spec PyProof.Rows L2 Pd P14

theorem mk_bits {m : Nat} (h : m < 1024) : mk m.testBit = m := by
  refine Nat.eq_of_testBit_eq fun i => ?_
  rw [tb_mk]
  by_cases hi : i < 10
  · simp [hi]
  · have : m.testBit i = false := Nat.testBit_lt_two_pow (Nat.lt_of_lt_of_le h (by
      have : (2:Nat) ^ 10 ≤ 2 ^ i := Nat.pow_le_pow_right (by omega) (by omega)
      exact this))
    simp [hi, this]
theorem mask_eq {l : List Nat} (h : ∀ x ∈ l, x < 10) : F_mask_of [.val (dL l)] none = some (eM (fun i => decide (i ∈ l)), none) := by
  refine f_of rfl ?_
  simp [m_mask_of, dL]
  refine wp_forM (enc := eN) (fun pre β => ∃ s3, β = ⟨[.val (.tuple (l.map eN)), .val (eM fun i => decide (i ∈ pre)), s3], none⟩) l ⟨.un, ?_⟩ ?_ ?_
  · simp [← zero_mk]
  · rintro pre a post β e ⟨s3, rfl⟩
    have ha : a < 10 := h a (by rw [e]; simp)
    simp [eN]
    refine wp_aug rfl ?_
    simp [shl1 ha]
    rw [bOrM]
  · rintro β ⟨s3, rfl⟩
    simp
theorem shut_eq {n : Nat} {F : Nat → Nat → Bool} {f : Nat → Bool} (hf : ∀ i, i < 10 → f i = true → i < n) : F_is_shut [.val (.list ((List.range n).map fun a => eM (F a))), .val (eM f)] none = some (.bool (decide (mk (un F f) = mk f)), none) := by
  refine f_of rfl ?_
  simp [m_is_shut, union_eq hf]
  exact Int.ofNat_inj
def shB (ps : List (Nat × Nat)) (m : Nat) : Bool := decide (mk (un (dn ps) m.testBit) = m)
def lowM (n : Nat) (ps : List (Nat × Nat)) : List Nat := (List.range (2 ^ n)).filter (shB ps)
theorem bit_lt {n m i : Nat} (h : m < 2 ^ n) (hb : m.testBit i = true) : i < n := by
  rcases Nat.lt_or_ge i n with c | c
  · exact c
  · have : m.testBit i = false := Nat.testBit_lt_two_pow (Nat.lt_of_lt_of_le h (Nat.pow_le_pow_right (by omega) c))
    rw [this] at hb; cases hb
/-- the waters of a hill, as lots, ascending -/
def wat (n : Nat) (ps : List (Nat × Nat)) : List (List Nat) := srtL ((lowM n ps).map fun m => lot m.testBit)
theorem low_lt {n : Nat} {ps : List (Nat × Nat)} {m : Nat} (h : m ∈ lowM n ps) : m < 2 ^ n := List.mem_range.mp (List.mem_filter.mp h).1
/-- l is a lot of the hill -/
def Lot (n : Nat) (l : List Nat) : Prop := l.Pairwise (· < ·) ∧ ∀ x ∈ l, x < n
theorem Lot.lt {n : Nat} {l : List Nat} (h : Lot n l) (hn : n ≤ 10) : ∀ x ∈ l, x < 10 := fun x hx => by have := h.2 x hx; omega
theorem Lot.lot {n : Nat} {l : List Nat} (h : Lot n l) (hn : n ≤ 10) : lot (fun i => decide (i ∈ l)) = l := by
  unfold Md.lot
  refine List.Perm.eq_of_pairwise (le := fun a b : Nat => a < b) (fun a b _ _ h1 h2 => by omega) ((List.pairwise_lt_range (n := 10)).filter _) h.1 ?_
  refine (List.perm_ext_iff_of_nodup ((List.nodup_range (n := 10)).filter _) (h.1.imp fun h => Nat.ne_of_lt h)).mpr fun x => ?_
  rw [List.mem_filter, List.mem_range, decide_eq_true_eq]
  exact ⟨fun q => q.2, fun q => ⟨h.lt hn x q, q⟩⟩
theorem lot_asc (f : Nat → Bool) : (lot f).Pairwise (· < ·) := (List.pairwise_lt_range (n := 10)).filter _
theorem lot_mem {f : Nat → Bool} {x : Nat} : x ∈ lot f ↔ x < 10 ∧ f x = true := by unfold lot; rw [List.mem_filter, List.mem_range]
theorem terrof_eq {n t : Nat} (h : t < n) : F_is_terrace_of [.val (.int n), .val (.int t)] none = some (.bool true, none) := by
  refine f_of rfl ?_
  have e1 : F_is_within [.val (.int (t : Int)), .val (.int 0), .val (.int ((n : Int) - 1))] none = some (.bool true, none) := by rw [within_eq]; simp; omega
  simp [m_is_terrace_of, e1]
theorem Lot.len {n : Nat} {l : List Nat} (h : Lot n l) : l.length ≤ n := by
  have := asc_len (lo := 0) (hi := n) h.1 fun x hx => ⟨Nat.zero_le _, h.2 x hx⟩
  omega
theorem ascL_eq {n : Nat} (hn : n ≤ 10) {l : List Nat} (h : Lot n l) : F_is_ascending [.val (dL l)] none = some (.bool true, none) := by
  have hl := h.len
  refine f_of rfl ?_
  simp [m_is_ascending, dL]
  refine ⟨_, dR1_sub (by omega), by simp; omega, ?_⟩
  refine wp_alMap (fun _ => true) (fun i hi => ?_) ?_
  · have hi : i < l.length - 1 := List.mem_range.mp hi
    simp [eN]
    refine ws_of (atI_nat (i := i) (List.getElem?_eq_getElem (by simp; omega))) ?_
    simp
    refine ws_of (atI_nat (i := i + 1) (List.getElem?_eq_getElem (by simp; omega))) ?_
    simp [eN]
    exact List.pairwise_iff_getElem.mp h.1 i (i + 1) (by omega) (by omega) (by omega)
  · simp
theorem islot_eq {n : Nat} (hn : n ≤ 10) {l : List Nat} (h : Lot n l) : F_is_lot_of [.val (.int n), .val (dL l)] none = some (.bool true, none) := by
  have hl := h.len
  have ha := ascL_eq hn h
  refine f_of rfl ?_
  simp [m_is_lot_of, dL] at ha ⊢
  refine ⟨by omega, ?_⟩
  refine wp_alMap (fun _ => true) (fun i hi => ?_) ?_
  · simp [eN, terrof_eq (h.2 i hi)]
  · simp [ha]
/-- the lot as a set -/
abbrev fL (l : List Nat) : Nat → Bool := fun i => decide (i ∈ l)
/-- all at or below one of l -/
def dwn (ps : List (Nat × Nat)) (l : List Nat) : List Nat := lot (un (dn ps) (fL l))
theorem islower_eq {n : Nat} {ps : List (Nat × Nat)} (h : Hl n ps) {l : List Nat} (hl : Lot n l) : F_is_lower_of [.val (dH n ps), .val (dL l)] none = some (.bool (decide (mk (un (dn ps) (fL l)) = mk (fL l))), none) := by
  refine f_of rfl ?_
  have h1 := islot_eq h.wf.2.1 hl
  have h2 := mask_eq (hl.lt h.wf.2.1)
  have h3 := below_eq h.wf
  have h4 := shut_eq (n := n) (F := dn ps) (f := fL l) fun i _ hb => hl.2 i (of_decide_eq_true hb)
  simp [m_is_lower_of]
  simp [dH] at h1 h3 ⊢
  simp [h1, h2, h3, h4]
end Md
end
section
set_option Elab.async false
set_option linter.all false
set_option maxRecDepth 100000
set_option maxHeartbeats 2000000
namespace Md
open PySem PySem.Spec PyProof.Rows L2 Pd P14
section
variable {α : Ab} {i : Nat} {t : M PyData}
@[simp ↓] theorem wp_kMixed {Q} : wp (kMixed i) α Q ↔ ws (isDk i α) fun δ => Q (.int δ.mixed) α := by
  unfold wp kMixed ws
  cases isDk i α with
  | none => simp
  | some δ => exact (wp_of (t := fun α => some (_, α)) rfl).trans ⟨fun q => ⟨δ, rfl, q⟩, fun ⟨_, e, q⟩ => by cases e; exact q⟩
@[simp ↓] theorem wp_kDraws {Q} : wp (kDraws i) α Q ↔ ws (isDk i α) fun δ => Q (.int δ.draws) α := by
  unfold wp kDraws ws
  cases isDk i α with
  | none => simp
  | some δ => exact (wp_of (t := fun α => some (_, α)) rfl).trans ⟨fun q => ⟨δ, rfl, q⟩, fun ⟨_, e, q⟩ => by cases e; exact q⟩
@[simp ↓] theorem wp_kAny {Q} : wp (kAny i) α Q ↔ ws (isDk i α) fun δ => Q (!δ.cells.isEmpty) α := by
  unfold wp kAny ws
  cases isDk i α with
  | none => simp
  | some δ => exact (wp_of (t := fun α => some (_, α)) rfl).trans ⟨fun q => ⟨δ, rfl, q⟩, fun ⟨_, e, q⟩ => by cases e; exact q⟩
@[simp ↓] theorem wp_kPop {Q} : wp (kPop i) α Q ↔ ws (isDk i α) fun δ => ws (δ.cells[δ.cells.length - 1]?) fun n => Q (.int n) ⟨α.ρ, some { δ with cells := δ.cells.dropLast }⟩ := by
  unfold wp kPop ws
  constructor
  · rintro ⟨x, α', e, q⟩
    split at e
    · cases e
    · rename_i δ h0
      split at e
      · cases e
      · rename_i n h1; cases e; exact ⟨δ, h0, n, h1, q⟩
  · rintro ⟨δ, h0, n, h1, q⟩
    exact ⟨_, _, by simp only [h0, h1], q⟩
def inOf : PyData → Option Int
  | .int n => some n
  | _ => none
@[simp ↓] theorem inOf_i {n} : inOf (.int n) = some n := rfl
@[simp ↓] theorem inOf_e {n} : inOf (eN n) = some (n : Int) := rfl
theorem inOf_some {d n} (h : inOf d = some n) : d = .int n := by cases d <;> simp_all [inOf]
@[simp ↓] theorem wp_kApp {Q} : wp (kApp i t) α Q ↔ ws (isDk i α) fun _ => wp t α fun d α1 => ws (inOf d) fun n => ws (isDk i α1) fun δ => δ.cells.length < 16777216 ∧ Q .none ⟨α1.ρ, some { δ with cells := δ.cells ++ [n] }⟩ := by
  unfold wp kApp ws
  constructor
  · rintro ⟨x, α', e, q⟩
    split at e
    · cases e
    · rename_i δ0 h0
      split at e
      · rename_i n α1 h1
        split at e
        · cases e
        · rename_i δ h2
          split at e
          · rename_i h3; cases e; exact ⟨_, h0, _, _, h1, _, rfl, _, h2, h3, q⟩
          · cases e
      · cases e
  · rintro ⟨δ0, h0, d, α1, h1, n, hd, δ, h2, h3, q⟩
    have hd := inOf_some hd
    subst hd
    exact ⟨_, _, by rw [h0, h1]; simp only [h2, if_pos h3], q⟩
@[simp ↓] theorem wp_kSet {Q} : wp (kSet i t) α Q ↔ wp t α fun d α1 => ws (inOf d) fun n => ws (isDk i α1) fun δ => Q .nx ⟨α1.ρ, some { δ with draws := n }⟩ := by
  unfold wp kSet ws
  constructor
  · rintro ⟨x, α', e, q⟩
    split at e
    · rename_i n α1 h1
      split at e
      · cases e
      · rename_i δ h2; cases e; exact ⟨_, _, h1, _, rfl, _, h2, q⟩
    · cases e
  · rintro ⟨d, α1, h1, n, hd, δ, h2, q⟩
    have hd := inOf_some hd
    subst hd
    exact ⟨_, _, by rw [h1]; simp only [h2], q⟩
end
section
variable {α : Ab} {i : Nat} {tv ti : M PyData}
@[simp ↓] theorem wp_pop {Q} : wp (mPop i) α Q ↔ ws (Pd.ownOf i α) fun ds => ws (ds[ds.length - 1]?) fun d => Q d (α.set i (.own ds.dropLast)) := by
  unfold wp mPop ws
  constructor
  · rintro ⟨x, α', e, q⟩
    split at e
    · cases e
    · rename_i ds h0
      split at e
      · cases e
      · rename_i n h1; cases e; exact ⟨_, h0, _, h1, q⟩
  · rintro ⟨ds, h0, n, h1, q⟩
    exact ⟨_, _, by simp only [h0, h1], q⟩
@[simp ↓] theorem wp_popAt {Q} : wp (mPopAt i ti) α Q ↔ ws (Pd.ownOf i α) fun _ => wp ti α fun d α1 => ws (inOf d) fun j => ws (Pd.ownOf i α1) fun ds => (0 ≤ j ∧ j < ds.length ∧ j < 2 ^ 63) ∧ ws (ds[j.toNat]?) fun d => Q d (α1.set i (.own (ds.eraseIdx j.toNat))) := by
  unfold wp mPopAt ws
  constructor
  · rintro ⟨x, α', e, q⟩
    split at e
    · cases e
    · rename_i ds0 h0
      split at e
      · rename_i j α1 h1
        split at e
        · cases e
        · rename_i ds h2
          split at e
          · rename_i h3
            split at e
            · rename_i d h4; cases e; exact ⟨_, h0, _, _, h1, _, rfl, _, h2, h3, _, h4, q⟩
            · cases e
          · cases e
      · cases e
  · rintro ⟨ds0, h0, d, α1, h1, j, hd, ds, h2, h3, x, h4, q⟩
    have hd := inOf_some hd
    subst hd
    exact ⟨_, _, by simp only [h0, h1, h2, if_pos h3, h4], q⟩
@[simp ↓] theorem wp_put {Q} : wp (sPut i tv ti) α Q ↔ wp tv α fun d α1 => ws (Pd.ownOf i α1) fun _ => wp ti α1 fun k α2 => ws (inOf k) fun k => ws (Pd.ownOf i α2) fun ds => ws (ixN ds.length k) fun j => Q .nx (α2.set i (.own (ds.set j d))) := by
  unfold wp sPut ws
  constructor
  · rintro ⟨x, α', e, q⟩
    split at e
    · cases e
    · rename_i d α1 h1
      split at e
      · cases e
      · rename_i ds0 h0
        split at e
        · rename_i k α2 h2
          split at e
          · cases e
          · rename_i ds h3
            split at e
            · rename_i j h4; cases e; exact ⟨_, _, h1, _, h0, _, _, h2, _, rfl, _, h3, _, h4, q⟩
            · cases e
        · cases e
  · rintro ⟨d, α1, h1, ds0, h0, k, α2, h2, kk, hd, ds, h3, j, h4, q⟩
    have hd := inOf_some hd
    subst hd
    exact ⟨_, _, by simp only [h0, h1, h2, h3, h4], q⟩
end
theorem ixN_n {n i : Nat} (h : i < n) : ixN n (i : Int) = some i := by unfold ixN; rw [if_pos (by omega), if_pos (by omega)]; rfl
theorem dEq_nil (l : List Nat) : dEq (.list (l.map eN)) (.list []) = some (decide (l = [])) := dEq_L l []
@[simp] theorem isDk_e {i : Nat} {α : Ab} : isDk i α = (match α.ρ[i]? with | some .dck => α.δ | _ => none) := rfl
/-- a deck behind at most N draws -/
structure Ok (N : Nat) (δ : Dk) : Prop where
  m0 : 0 ≤ δ.mixed
  m1 : δ.mixed < 2 ^ 40
  d0 : 0 ≤ δ.draws
  d1 : δ.draws ≤ N
  c : δ.cells.length ≤ 63
theorem Ok.mono {N M : Nat} {δ : Dk} (h : Ok N δ) (k : N ≤ M) : Ok M δ := ⟨h.m0, h.m1, h.d0, by have := h.d1; omega, h.c⟩
theorem logI {i : Int} (h0 : -(2 ^ 100) < i) (h1 : i < 2 ^ 100) : i.natAbs.log2 ≤ 100 := log_nat (by omega)
def drawT : MS := (sSeq (sAsg (m2 dMod (mCall dInt (mCons (m2 dAdd (m2 dMul (mVar 2) (mr (PyData.int 45991))) (mr (PyData.int 81))) mNil)) (mr (PyData.int 2147483629))) (gSet 2)) (sSeq (sAsg (m2 dMod (mCall dInt (mCons (m2 dAdd (m2 dAdd (m2 dMul (mVar 2) (mVar 2)) (m2 dMul (mr (PyData.int 52361)) (kDraws 0))) (mr (PyData.int 125))) mNil)) (mr (PyData.int 2147483587))) (gSet 2)) (sSeq (sAsg (m2 dMod (mCall dInt (mCons (m2 dMul (mVar 2) (mr (PyData.int 40692))) mNil)) (mr (PyData.int 2147483399))) (gSet 2)) (sSeq (sRet (m2 dMod (mCall dInt (mCons (m2 dDiv (mVar 2) (mr (PyData.int 64))) mNil)) (mVar 1))) sNx))))
theorem draw_split : m__law_draw = (sSeq (kSet 0 (m2 dAdd (kDraws 0) (mr (PyData.int 1)))) (sSeq (sAsg (m2 dAdd (kMixed 0) (m2 dMul (mr (PyData.int 61027)) (kDraws 0))) (gSet 2)) (sSeq (sIf (kAny 0) (sSeq (sAsg (kPop 0) (gSet 3)) (sSeq (sIf (m2bP dGe 3 (m2 dPow (mr (PyData.int 10)) (mr (PyData.int 18)))) (sSeq (sDrop (kApp 0 (m2 dDiv (mVar 3) (mCall dMaxX (mCons (mr (PyData.int 2)) (mCons (mVar 1) mNil)))))) (sSeq (sRet (m2 dMod (mCall dInt (mCons (mVar 3) mNil)) (mVar 1))) sNx)) sNx) (sSeq (sAsg (m2 dAdd (mVar 2) (m2 dMod (mCall dInt (mCons (mVar 3) mNil)) (mr (PyData.int 2147483549)))) (gSet 2)) sNx))) sNx) drawT))) := rfl
theorem mul_ok {x y : Int} (hx : -(2 ^ 100) < x ∧ x < 2 ^ 100) (hy : -(2 ^ 100) < y ∧ y < 2 ^ 100) : x.natAbs.log2 + y.natAbs.log2 < 1000000 := by
  have := logI hx.1 hx.2
  have := logI hy.1 hy.2
  omega
theorem ws_mulI {x y : Int} (hx : -(2 ^ 100) < x ∧ x < 2 ^ 100) (hy : -(2 ^ 100) < y ∧ y < 2 ^ 100) {k} : ws (dMul (.int x) (.int y)) k ↔ k (.int (x * y)) := by
  rw [ws_mul]
  exact ⟨fun q => q.2, fun q => ⟨mul_ok hx hy, q⟩⟩
theorem emod_bd {a : Int} {c : Int} (h : 0 < c) : 0 ≤ a % c ∧ a % c < c := ⟨Int.emod_nonneg _ (by omega), Int.emod_lt_of_pos _ h⟩
theorem drawT_ok {N : Nat} {δ : Dk} (h : Ok N δ) (hN : N < 2 ^ 61) {k : Nat} (hk : 0 < k) {num : Int} (hn : -(2 ^ 90) < num ∧ num < 2 ^ 90) {s3 : Sl} : wp drawT ⟨[.dck, .val (.int k), .val (.int num), s3], some δ⟩ fun o α => ∃ v : Nat, o = .rt (.int v) ∧ α.δ = some δ ∧ v < k := by
  obtain ⟨cells, mixed, draws⟩ := δ
  obtain ⟨h1, h2, h3, h4, h5⟩ := h
  simp only at h1 h2 h3 h4 h5
  simp [drawT, -ws_mul, ws_mulI (x := num) (y := 45991) (by omega) (by decide)]
  have b1 := emod_bd (a := num * 45991 + 81) (c := 2147483629) (by decide)
  generalize (num * 45991 + 81) % 2147483629 = z1 at *
  simp [-ws_mul, ws_mulI (x := z1) (y := z1) (by omega) (by omega), ws_mulI (x := 52361) (y := draws) (by decide) (by omega)]
  generalize hq : z1 * z1 + 52361 * draws + 125 = q
  have b2 := emod_bd (a := q) (c := 2147483587) (by decide)
  generalize q % 2147483587 = z2 at *
  simp [-ws_mul, ws_mulI (x := z2) (y := 40692) (by omega) (by decide)]
  refine ⟨by decide +kernel, hk, ?_⟩
  have b3 := emod_bd (a := z2 * 40692 % 2147483399 / 64) (c := (k : Int)) (by omega)
  exact ⟨(z2 * 40692 % 2147483399 / 64 % (k : Int)).toNat, by omega, by omega⟩
theorem pow18 {k} : ws (dPow (.int 10) (.int 18)) k ↔ k (.int (10 ^ 18)) := by
  rw [show dPow (.int 10) (.int 18) = some (.int (10 ^ 18)) from rfl, ws_some]
theorem dMax2 (a b : Int) : dMaxX [.int a, .int b] = some (.int (if b > a then b else a)) := rfl
theorem draw_ok {N : Nat} {δ : Dk} (h : Ok N δ) (hN : N < 2 ^ 60) {k : Nat} (hk : 0 < k) (hk2 : k < 2 ^ 60) : ∃ (v : Nat) (δ' : Dk), F__law_draw [.dck, .val (.int k)] (some δ) = some (.int v, some δ') ∧ Ok (N + 1) δ' ∧ v < k := by
  obtain ⟨cells, mixed, draws⟩ := δ
  obtain ⟨h1, h2, h3, h4, h5⟩ := h
  simp only at h1 h2 h3 h4 h5
  obtain ⟨r, δ', e, v, hr, δ2, e2, hv, ho⟩ := f_rel (n := 2) (m := 4) (body := m__law_draw) (as := [.dck, .val (.int k)]) (δ := some ⟨cells, mixed, draws⟩) rfl (P := fun r d => ∃ v : Nat, r = .int v ∧ ∃ δ' : Dk, d = some δ' ∧ v < k ∧ Ok (N + 1) δ') (by
    rw [draw_split]
    simp [-ws_mul, ws_mulI (x := 61027) (y := draws + 1) (by decide) (by omega)]
    have fin : ∀ (num : Int) (s3 : Sl) (cs : List Int), -(2 ^ 90) < num ∧ num < 2 ^ 90 → cs.length ≤ 63 → wp drawT ⟨[.dck, .val (.int k), .val (.int num), s3], some ⟨cs, mixed, draws + 1⟩⟩ fun o α => ∃ r, (o = Out.rt r ∨ o = Out.nx ∧ r = PyData.none) ∧ ∃ v : Nat, r = PyData.int v ∧ ∃ δ', α.δ = some δ' ∧ v < k ∧ Ok (N + 1) δ' := fun num s3 cs hb hc => by
      have ok1 : Ok (N + 1) ⟨cs, mixed, draws + 1⟩ := ⟨h1, h2, by show 0 ≤ draws + 1; omega, by show draws + 1 ≤ ((N + 1 : Nat) : Int); omega, hc⟩
      refine wp_mono (drawT_ok ok1 (by omega) hk hb) fun o α ⟨v, e1, e2, e3⟩ => ⟨.int v, .inl e1, v, rfl, _, e2, e3, ok1⟩
    refine ⟨fun hc => ?_, fun _ => fin _ _ _ (by omega) h5⟩
    have hl : cells.length - 1 < cells.length := by have := List.length_pos_iff.mpr hc; omega
    refine ws_of (List.getElem?_eq_getElem hl) ?_
    generalize cells[cells.length - 1] = n
    simp [pow18]
    refine ⟨fun hn => ?_, fun hn => ?_⟩
    · simp [dMax2]
      have lg := logI (i := if 2 < (k : Int) then (k : Int) else 2) (by split <;> omega) (by split <;> omega)
      have b := emod_bd (a := n) (c := (k : Int)) (by omega)
      refine ⟨⟨by split <;> omega, by omega⟩, by omega, hk, (n % (k : Int)).toNat, by omega, by omega, ?_⟩
      refine ⟨h1, h2, by show 0 ≤ draws + 1; omega, by show draws + 1 ≤ ((N + 1 : Nat) : Int); omega, ?_⟩
      simp
      omega
    · have b := emod_bd (a := n) (c := 2147483549) (by decide)
      exact fin _ _ _ (by omega) (by simp; omega))
  subst hr; subst e2
  exact ⟨v, δ2, e, ho, hv⟩
/-! what is reached -/
abbrev eB (b : Bool) : PyData := .bool b
def stp (ps : List (Nat × Nat)) (a : Nat) : List Nat := (ps.filter fun p => decide (p.1 = a)).map (·.2)
def eNs (l : List Nat) : PyData := .list (l.map eN)
/-- pairs of places -/
def InN (n : Nat) (ps : List (Nat × Nat)) : Prop := ∀ p ∈ ps, p.1 < n ∧ p.2 < n
inductive Rch (ps : List (Nat × Nat)) : Nat → Nat → Prop
  | one {a b : Nat} : (a, b) ∈ ps → Rch ps a b
  | more {a b c : Nat} : Rch ps a b → (b, c) ∈ ps → Rch ps a c
theorem Rch.trans {ps : List (Nat × Nat)} {a b c : Nat} (h : Rch ps a b) (k : Rch ps b c) : Rch ps a c := by
  induction k with
  | one k => exact .more h k
  | more _ k ih => exact .more ih k
theorem stp_mem {ps : List (Nat × Nat)} {a b : Nat} : b ∈ stp ps a ↔ (a, b) ∈ ps := by
  unfold stp
  rw [List.mem_map]
  constructor
  · rintro ⟨⟨x, y⟩, h1, rfl⟩
    rw [List.mem_filter] at h1
    have := h1.2
    simp at this
    subst this
    exact h1.1
  · intro h
    exact ⟨(a, b), List.mem_filter.mpr ⟨h, by simp⟩, rfl⟩
def mt (met : List Bool) (v : Nat) : Bool := met.getD v false
theorem mt_set {met : List Bool} {v u : Nat} (hv : v < met.length) : mt (met.set v true) u = (mt met u || decide (u = v)) := by
  unfold mt
  rw [List.getD_eq_getElem?_getD, List.getD_eq_getElem?_getD]
  by_cases e : u = v
  · subst e; simp [hv]
  · rw [List.getElem?_set_ne (fun z => e z.symm)]; simp [e]
/-- the pairs from places that are not met -/
def left (ps : List (Nat × Nat)) (met : List Bool) : Nat := (ps.filter fun p => !mt met p.1).length
theorem left_set {ps : List (Nat × Nat)} {met : List Bool} {v : Nat} (hv : v < met.length) (h : mt met v = false) : left ps (met.set v true) + (stp ps v).length = left ps met := by
  unfold left stp
  rw [List.length_map]
  induction ps with
  | nil => rfl
  | cons p ps ih =>
    obtain ⟨x, y⟩ := p
    simp only [List.filter_cons]
    rw [mt_set hv]
    by_cases e : x = v
    · subst e
      simp [h]
      omega
    · simp only [decide_eq_false e, Bool.or_false]
      cases mt met x <;> simp <;> omega
/-- under way from a: what is met and what is still to look at -/
structure Way (n : Nat) (ps : List (Nat × Nat)) (a : Nat) (met : List Bool) (todo : List Nat) : Prop where
  len : met.length = n
  rch : ∀ v, mt met v = true → Rch ps a v
  tr : ∀ v ∈ todo, Rch ps a v
  st : ∀ v, (a, v) ∈ ps → mt met v = true ∨ v ∈ todo
  cl : ∀ u v, mt met u = true → (u, v) ∈ ps → mt met v = true ∨ v ∈ todo
theorem Way.done {n : Nat} {ps : List (Nat × Nat)} {a : Nat} {met : List Bool} (w : Way n ps a met []) (v : Nat) : mt met v = true ↔ Rch ps a v := by
  refine ⟨w.rch v, fun h => ?_⟩
  induction h with
  | one h => simpa using w.st _ h
  | more _ h ih => simpa using w.cl _ _ ih h
theorem Way.skip {n : Nat} {ps : List (Nat × Nat)} {a : Nat} {met : List Bool} {todo : List Nat} {v : Nat} (w : Way n ps a met (todo ++ [v])) (h : mt met v = true) : Way n ps a met todo := by
  refine ⟨w.len, w.rch, fun u hu => w.tr u (by simp [hu]), fun u hu => ?_, fun u x h1 h2 => ?_⟩
  · rcases w.st u hu with q | q
    · exact .inl q
    · rcases List.mem_append.mp q with q | q
      · exact .inr q
      · simp at q; subst q; exact .inl h
  · rcases w.cl u x h1 h2 with q | q
    · exact .inl q
    · rcases List.mem_append.mp q with q | q
      · exact .inr q
      · simp at q; subst q; exact .inl h
theorem Way.take {n : Nat} {ps : List (Nat × Nat)} (hp : InN n ps) {a : Nat} {met : List Bool} {todo : List Nat} {v : Nat} (hv : v < n) (w : Way n ps a met (todo ++ [v])) : Way n ps a (met.set v true) (todo ++ stp ps v) := by
  have hl : v < met.length := by rw [w.len]; exact hv
  have rv := w.tr v (by simp)
  refine ⟨by rw [List.length_set]; exact w.len, fun u hu => ?_, fun u hu => ?_, fun u hu => ?_, fun u x h1 h2 => ?_⟩
  · rw [mt_set hl] at hu
    by_cases e : u = v
    · subst e; exact rv
    · simp [e] at hu; exact w.rch u hu
  · rcases List.mem_append.mp hu with q | q
    · exact w.tr u (by simp [q])
    · exact .more rv (stp_mem.mp q)
  · rw [mt_set hl]
    rcases w.st u hu with q | q
    · exact .inl (by simp [q])
    · rcases List.mem_append.mp q with q | q
      · exact .inr (by simp [q])
      · simp at q; exact .inl (by simp [q])
  · rw [mt_set hl] at h1 ⊢
    by_cases e : u = v
    · subst e
      exact .inr (by simp [stp_mem.mpr h2])
    · simp [e] at h1
      rcases w.cl u x h1 h2 with q | q
      · exact .inl (by simp [q])
      · rcases List.mem_append.mp q with q | q
        · exact .inr (by simp [q])
        · simp at q; exact .inl (by simp [q])
noncomputable def rc (ps : List (Nat × Nat)) (a b : Nat) : Bool := @decide (Rch ps a b) (Classical.propDecidable _)
theorem rc_iff {ps : List (Nat × Nat)} {a b : Nat} : rc ps a b = true ↔ Rch ps a b := by unfold rc; rw [@decide_eq_true_iff]
theorem eq_rc {n : Nat} {ps : List (Nat × Nat)} {a : Nat} {met : List Bool} (w : Way n ps a met []) : met = (List.range n).map (rc ps a) := by
  refine List.ext_getElem (by simp [w.len]) fun i h1 h2 => ?_
  have h := w.done i
  rw [← rc_iff] at h
  have e : mt met i = rc ps a i := Bool.eq_iff_iff.mpr h
  unfold mt at e
  rw [List.getD_eq_getElem?_getD, List.getElem?_eq_getElem h1] at e
  simpa using e
theorem rep_false {n : Nat} (h : n ≤ 10) : dRep [.bool false] (.int n) = some ((List.replicate n false).map eB) := by
  match n, h with
  | 0, _ => rfl
  | 1, _ => rfl
  | 2, _ => rfl
  | 3, _ => rfl
  | 4, _ => rfl
  | 5, _ => rfl
  | 6, _ => rfl
  | 7, _ => rfl
  | 8, _ => rfl
  | 9, _ => rfl
  | 10, _ => rfl
  | n + 11, h => omega
theorem ix_met {met : List Bool} {v : Nat} (h : v < met.length) : dIx (.list (met.map eB)) (eN v) = some (eB (mt met v)) := by
  have e : mt met v = met[v] := by
    unfold mt
    rw [List.getD_eq_getElem?_getD, List.getElem?_eq_getElem h]
    rfl
  rw [e]
  exact atI_nat (by simp [h])
theorem ix_R {f : Nat → PyData} {n v : Nat} (h : v < n) : dIx (.list ((List.range n).map f)) (eN v) = some (f v) := atI_rg h
theorem set_met {met : List Bool} {v : Nat} : (met.map eB).set v (.bool true) = (met.set v true).map eB := by
  rw [List.map_set]
theorem dEq_nn : dEq (.list []) (.list []) = some true := dEq_nil []
theorem dEq_cn {td : List Nat} {v : Nat} : dEq (.list (td.map eN ++ [eN v])) (.list []) = some false := by
  have := dEq_nil (td ++ [v])
  simpa using this
@[simp ↓] theorem dListOf_e {l} : dListOf [eNs l] = some (l.map eN) := rfl
@[simp ↓] theorem lsOf_e {l} : lsOf (eNs l) = some (l.map eN) := rfl
theorem last_c {A : Type} {l : List A} {x : A} : (l ++ [x])[l.length]? = some x := by simp
theorem last_c' {A B : Type} {f : A → B} {l : List A} {x : A} : ((l ++ [x]).map f)[l.length]? = some (f x) := by simp
theorem mt_rep {n v : Nat} : mt (List.replicate n false) v = false := by
  unfold mt
  rw [List.getD_eq_getElem?_getD, List.getElem?_replicate]
  split <;> rfl
theorem rch_lt {n : Nat} {ps : List (Nat × Nat)} (hp : InN n ps) {a b : Nat} (h : Rch ps a b) : b < n := by
  cases h with
  | one h => exact (hp _ h).2
  | more _ h => exact (hp _ h).2
theorem reached_eq {n : Nat} {ps : List (Nat × Nat)} (hn : n ≤ 10) (hp : InN n ps) (hb : ∀ a, (stp ps a).length + ps.length ≤ 120) {d : PyData} (hd : d = .list (ps.map eP) ∨ d = .tuple (ps.map eP)) :
    F__law_reached [.val (.int n), .val d] none = some (.list ((List.range n).map fun a => .list ((List.range n).map fun b => eB (rc ps a b))), none) := by
  have hit : dIt d = some (ps.map eP) := by rcases hd with rfl | rfl <;> rfl
  have hps : ps.length ≤ 120 := by have := hb 0; omega
  refine f_of rfl ?_
  simp [m__law_reached]
  refine ws_of (dR1_n (by omega)) ⟨by simp; omega, ?_⟩
  refine wp_lcAll (fun a => eNs (stp ps a)) (fun a ha => ?_) ?_
  · simp [hit]
    refine ⟨by omega, ?_⟩
    refine wp_lcMap (fun p => decide (p.1 = a)) (fun p => eN p.2) (fun p hpp => ?_) ?_
    · simp [eP, eN]
      by_cases e : p.1 = a
      · simp [e]
      · have : ¬ (p.1 : Int) = a := by omega
        simp [e, this]
    · simp [eNs, stp, Function.comp_def]
  · simp
    refine ws_of (dR1_n (by omega)) ?_
    refine wp_forM (enc := eN) (fun pre β => ∃ s5 s7 s8 s9 s10, β = ⟨[.val (.int n), .val d, .own ((List.range n).map fun a => eNs (stp ps a)), .un, .un, s5, .own (pre.map fun a => .list ((List.range n).map fun b => eB (rc ps a b))), s7, s8, s9, s10], none⟩) (List.range n) ⟨.un, .un, .un, .un, .un, rfl⟩ ?_ ?_
    · rintro pre a post β e ⟨s5, s7, s8, s9, s10, rfl⟩
      have ha : a < n := List.mem_range.mp (by rw [e]; simp)
      simp [eN]
      refine ws_of (rep_false hn) ?_
      simp [ws_atR ha]
      refine ws_of (x := (List.range 120).map eN) (dR1_n (n := 120) (by decide)) ?_
      refine wp_mono (Q := fun o β => o = .nx ∧ ∃ met s9 s10, Way n ps a met [] ∧ β = ⟨[.val (.int n), .val d, .own ((List.range n).map fun a => eNs (stp ps a)), .un, .un, .val (.int a), .own (pre.map fun a => .list ((List.range n).map fun b => eB (rc ps a b))), .own (met.map eB), .own [], s9, s10], none⟩) ?_ ?_
      · refine wp_forM (enc := eN) (fun pr β => ∃ met todo s9 s10, Way n ps a met todo ∧ todo.length + left ps met + pr.length ≤ 120 ∧ β = ⟨[.val (.int n), .val d, .own ((List.range n).map fun a => eNs (stp ps a)), .un, .un, .val (.int a), .own (pre.map fun a => .list ((List.range n).map fun b => eB (rc ps a b))), .own (met.map eB), .own (todo.map eN), s9, s10], none⟩) (List.range 120) ⟨_, _, s9, s10, ?_, ?_, rfl⟩ ?_ ?_
        · refine ⟨by simp, fun v hv => ?_, fun v hv => .one (stp_mem.mp hv), fun v hv => .inr (stp_mem.mpr hv), fun u v hu => ?_⟩
          · rw [mt_rep] at hv; cases hv
          · rw [mt_rep] at hu; cases hu
        · have := hb a
          have : left ps (List.replicate n false) ≤ ps.length := List.length_filter_le _ _
          simp
          omega
        · rintro pr t po β e' ⟨met, todo, s9, s10, w, hm, rfl⟩
          rcases List.eq_nil_or_concat todo with rfl | ⟨td, v, rfl⟩
          · simp [dEq_nn]
            exact ⟨met, w, rfl⟩
          · have rv := w.tr v (by simp)
            have hv : v < n := rch_lt hp rv
            have lm := w.len
            rw [List.concat_eq_append] at *
            simp [dEq_cn, ix_met (met := met) (v := v) (by omega)]
            cases hv2 : mt met v with
            | true =>
              simp
              exact ⟨met, td, w.skip hv2, by simp at hm; omega, rfl, by simp⟩
            | false =>
              have l2 := left_set (ps := ps) (by omega) hv2
              have l3 := hb v
              simp [ixN_n (show v < met.length by omega), ix_R hv]
              simp at hm
              refine ⟨by omega, met.set v true, td ++ stp ps v, w.take hp hv, by simp; omega, by rw [set_met], by simp⟩
        · rintro β ⟨met, todo, s9, s10, w, hm, rfl⟩
          simp at hm
          obtain ⟨h1, h2⟩ := hm
          subst h1
          exact ⟨rfl, met, s9, s10, w, rfl⟩
      · rintro o β ⟨rfl, met, s9, s10, w, rfl⟩
        have hl : pre.length ≤ n := by have := congrArg List.length e; simp at this; omega
        simp
        refine ⟨by omega, ?_⟩
        rw [eq_rc w, List.map_map]
        rfl
    · rintro β ⟨s5, s7, s8, s9, s10, rfl⟩
      simp
end Md
end
section
set_option Elab.async false
set_option linter.all false
set_option maxRecDepth 100000
set_option maxHeartbeats 2000000
namespace Md
open PySem PySem.Spec PyProof.Rows L2 Pd P14
noncomputable def cloA (n : Nat) (ps : List (Nat × Nat)) (a : Nat) : List (Nat × Nat) := ((List.range n).filter fun b => decide ¬ (b = a) && rc ps a b).map fun b => (a, b)
noncomputable def clo (n : Nat) (ps : List (Nat × Nat)) : List (Nat × Nat) := (List.range n).flatMap (cloA n ps)
theorem cloA_len (n : Nat) (ps : List (Nat × Nat)) (a : Nat) : (cloA n ps a).length ≤ n := by
  unfold cloA
  rw [List.length_map]
  have := List.length_filter_le (fun b => decide ¬ (b = a) && rc ps a b) (List.range n)
  simpa using this
theorem flat_len {n : Nat} {f : Nat → List (Nat × Nat)} (h : ∀ a, (f a).length ≤ n) : ∀ l : List Nat, (l.flatMap f).length ≤ l.length * n
  | [] => by simp
  | a :: l => by
    have h1 := flat_len h l
    have h2 := h a
    rw [List.flatMap_cons, List.length_append, List.length_cons, Nat.succ_mul]
    omega
theorem clo_mem {n : Nat} {ps : List (Nat × Nat)} {a b : Nat} : (a, b) ∈ clo n ps ↔ a < n ∧ b < n ∧ a ≠ b ∧ Rch ps a b := by
  unfold clo cloA
  rw [List.mem_flatMap]
  constructor
  · rintro ⟨x, hx, h⟩
    obtain ⟨y, hy, e⟩ := List.mem_map.mp h
    cases e
    rw [List.mem_filter] at hy
    have := hy.2
    simp at this
    exact ⟨List.mem_range.mp hx, List.mem_range.mp hy.1, fun z => this.1 z.symm, rc_iff.mp this.2⟩
  · rintro ⟨h1, h2, h3, h4⟩
    exact ⟨a, List.mem_range.mpr h1, List.mem_map.mpr ⟨b, List.mem_filter.mpr ⟨List.mem_range.mpr h2, by simp [rc_iff.mpr h4]; exact fun z => h3 z.symm⟩, rfl⟩⟩
theorem clo_srt (n : Nat) (ps : List (Nat × Nat)) : Srt (clo n ps) := by
  unfold clo Srt
  rw [List.pairwise_flatMap]
  constructor
  · intro a ha
    unfold cloA
    rw [List.pairwise_map]
    refine (List.Pairwise.filter _ List.pairwise_lt_range).imp fun h => ?_
    exact .inr ⟨rfl, h⟩
  · refine List.pairwise_lt_range.imp fun {a b} h x hx y hy => ?_
    unfold cloA at hx hy
    obtain ⟨_, _, rfl⟩ := List.mem_map.mp hx
    obtain ⟨_, _, rfl⟩ := List.mem_map.mp hy
    exact .inl h
theorem clo_hl {n : Nat} (h1 : 1 ≤ n) (hn : n ≤ 10) (ps : List (Nat × Nat)) : Hl n (clo n ps) := by
  refine ⟨⟨h1, hn, fun p hp => ?_⟩, clo_srt n ps, fun a b c h k e => ?_⟩
  · obtain ⟨a, b⟩ := p
    have := clo_mem.mp hp
    exact ⟨this.1, this.2.1, this.2.2.1⟩
  · have h := clo_mem.mp h
    have k := clo_mem.mp k
    exact clo_mem.mpr ⟨h.1, k.2.1, e, h.2.2.2.trans k.2.2.2⟩
theorem clos_eq {n : Nat} {ps : List (Nat × Nat)} (hn : n ≤ 10) (hp : InN n ps) (hb : ∀ a, (stp ps a).length + ps.length ≤ 120) : F__law_closed [.val (.int n), .val (.list (ps.map eP))] none = some (dH n (clo n ps), none) := by
  have er := reached_eq hn hp hb (.inl rfl)
  refine f_of rfl ?_
  simp [m__law_closed, er]
  refine ws_of (dR1_n (by omega)) ?_
  refine wp_forM (enc := eN) (fun pre β => ∃ s4, β = ⟨[.val (.int n), .val (.list (ps.map eP)), .val (.list ((List.range n).map fun a => .list ((List.range n).map fun b => eB (rc ps a b)))), .own ((pre.flatMap (cloA n ps)).map eP), s4, .un], none⟩) (List.range n) ⟨.un, rfl⟩ ?_ ?_
  · rintro pre a post β e ⟨s4, rfl⟩
    have ha : a < n := List.mem_range.mp (by rw [e]; simp)
    have hl : pre.length ≤ 10 := by have := congrArg List.length e; simp at this; omega
    have b1 := flat_len (cloA_len n ps) pre
    have b2 : pre.length * n ≤ 10 * 10 := Nat.mul_le_mul hl hn
    have b3 := cloA_len n ps a
    simp [eN]
    refine ws_of (dR1_n (by omega)) ⟨by simp; omega, ?_⟩
    refine wp_lcMap (fun b => decide ¬ (b = a) && rc ps a b) (fun b => eP (a, b)) (fun b hb => ?_) ?_
    · have hb : b < n := List.mem_range.mp hb
      simp [eN]
      refine ⟨fun hne => ?_, fun he => ?_⟩
      · have hne : ¬ b = a := fun z => hne (by rw [z])
        simp [ws_atR ha, ws_atR hb, hne, eP]
      · have he : b = a := by omega
        simp [he]
    · rw [List.length_flatMap] at b1
      have b4 := List.length_filter_le (fun b => !decide (b = a) && rc ps a b) (List.range n)
      rw [List.length_range] at b4
      simp
      refine ⟨by omega, ?_⟩
      simp [cloA, Function.comp_def]
  · rintro β ⟨s4, rfl⟩
    simp
    rfl
/-! a drawn order -/
theorem map_erase {l : List Nat} {v : Nat} : (l.map eN).eraseIdx v = (l.eraseIdx v).map eN := by
  rw [List.eraseIdx_eq_take_drop_succ, List.eraseIdx_eq_take_drop_succ]
  simp
theorem erase_perm : ∀ {l : List Nat} {v : Nat} (h : v < l.length), ([l[v]] ++ l.eraseIdx v).Perm l
  | a :: l, 0, h => by simp
  | a :: l, v + 1, h => by
    have h' : v < l.length := by simpa using h
    have := erase_perm (l := l) (v := v) h'
    simp at this ⊢
    exact (List.Perm.swap a l[v] (l.eraseIdx v)).trans (this.cons a)
theorem order_ok {N : Nat} {δ : Dk} (h : Ok N δ) (hN : N + 100 < 2 ^ 60) {n : Nat} (hn : n ≤ 10) : ∃ (o : List Nat) (δ' : Dk), F__law_order [.dck, .val (.int n)] (some δ) = some (dL o, some δ') ∧ Ok (N + n) δ' ∧ Pm n o := by
  obtain ⟨r, d', e, o, rfl, δ', rfl, ho, hp⟩ := f_rel (n := 2) (m := 5) (body := m__law_order) (as := [.dck, .val (.int n)]) (δ := some δ) rfl (P := fun r d => ∃ o : List Nat, r = dL o ∧ ∃ δ' : Dk, d = some δ' ∧ Ok (N + n) δ' ∧ Pm n o) (by
    have e2 : dG1 (.int n) = some ((List.range n).map eN) := by rw [dG1_int]; unfold dRg; rw [if_pos (by simp; omega), rg0]
    simp [m__law_order]
    refine ws_of e2 ?_
    simp
    refine ws_of (dR1_n (by omega)) ?_
    refine wp_forM (enc := eN) (fun pre β => ∃ lf fd s4 δ', β = ⟨[.dck, .val (.int n), .own (lf.map eN), .own (fd.map eN), s4], some δ'⟩ ∧ (fd ++ lf).Perm (List.range n) ∧ fd.length = pre.length ∧ Ok (N + pre.length) δ') (List.range n) ⟨List.range n, [], .un, δ, rfl, by simp, rfl, h⟩ ?_ ?_
    · rintro pre a post β e ⟨lf, fd, s4, δ1, rfl, hp, hl, ok⟩
      have e1 := congrArg List.length e
      have e3 := hp.length_eq
      simp at e1 e3
      obtain ⟨v, δ2, ed, ok2, hv⟩ := draw_ok ok (by omega) (k := lf.length) (by omega) (by omega)
      simp [eN, ed]
      refine ⟨by omega, ws_of (x := eN lf[v]) (by rw [List.getElem?_eq_getElem hv]; rfl) ?_⟩
      simp
      refine ⟨by omega, lf.eraseIdx v, fd ++ [lf[v]], .val (.int a), δ2, by simp [map_erase], ?_, by simp [hl], by rw [← Nat.add_assoc]; exact ok2⟩
      refine List.Perm.trans ?_ hp
      rw [List.append_assoc]
      exact List.Perm.append_left fd (erase_perm hv)
    · rintro β ⟨lf, fd, s4, δ1, rfl, hp, hl, ok⟩
      simp
      simp at hl ok
      have e3 := hp.length_eq
      simp at e3
      have : lf = [] := List.eq_nil_of_length_eq_zero (by omega)
      subst this
      rw [List.append_nil] at hp
      exact ⟨fd, rfl, ok, hp⟩)
  exact ⟨o, δ', e, ho, hp⟩
theorem lawled_eq {n : Nat} {ps : List (Nat × Nat)} (h : Hl n ps) {o : List Nat} (ho : Pm n o) : F__law_led [.val (dH n ps), .val (dL o)] none = some (dH n (led o ps), none) := by
  have hl := srt_len h.wf h.st
  refine f_of rfl ?_
  unfold dH dPs
  simp [m__law_led]
  refine ⟨by omega, ?_⟩
  refine wp_lcAll (fun p => eP (nth o p.1, nth o p.2)) (fun p hp => ?_) ?_
  · have hp := h.wf.2.2 p hp
    simp [eP, dL]
    refine ws_of (at_o ho hp.1) ?_
    simp
    refine ws_of (at_o ho hp.2.1) ?_
    simp [eN]
  · have e3 : ps.map (fun p => eP (nth o p.1, nth o p.2)) = (ps.map fun p => (nth o p.1, nth o p.2)).map eP := by rw [List.map_map]; rfl
    simp
    rw [e3]
    refine ws_of (dSort_P _) ?_
    simp
    rfl
def hillB : MS := (sIf (m2bP dLt 2 (mr (PyData.int 2))) (sSeq (sOwn 3 (mLc [4] (mR1 (mCallFn F__law_draw (cK 0 (cD (m2 dMul (mr (PyData.int 2)) (mVar 1)) cNil)))) (gSet 4) (mr true) (mTup (mCons (mCallFn F__law_draw (cK 0 (cD (mVar 1) cNil))) (mCons (mCallFn F__law_draw (cK 0 (cD (mVar 1) cNil))) mNil))))) (sSeq (sIf (m2bP dEq 2 (mr (PyData.int 1))) (sSeq (sOwn 3 (mLc [5] (mItems (mVar 3)) (gSet 5) (mr true) (mTup (mCons (mCall dMinX (mCons (mVar 5) mNil)) (mCons (mCall dMaxX (mCons (mVar 5) mNil)) mNil))))) sNx) sNx) sNx)) (sSeq (sIf (m2bP dEq 2 (mr (PyData.int 2))) (sSeq (sOwn 3 (mLc [6] (mR1 (m2 dSub (mVar 1) (mr (PyData.int 1)))) (gSet 6) (mr true) (mTup (mCons (mVar 6) (mCons (m2 dAdd (mVar 6) (mr (PyData.int 1))) mNil))))) sNx) (sSeq (sIf (m2bP dEq 2 (mr (PyData.int 3))) (sSeq (sOwn 3 (mLc [6] (mR1 (m2 dSub (mVar 1) (mr (PyData.int 1)))) (gSet 6) (m2b dGt (mCallFn F__law_draw (cK 0 (cD (mr (PyData.int 4)) cNil))) (mr (PyData.int 0))) (mTup (mCons (mVar 6) (mCons (m2 dAdd (m2 dAdd (mVar 6) (mr (PyData.int 1))) (mCallFn F__law_draw (cK 0 (cD (m2 dSub (m2 dSub (mVar 1) (mVar 6)) (mr (PyData.int 1))) cNil)))) mNil))))) sNx) (sSeq (sIf (m2bP dEq 2 (mr (PyData.int 4))) (sSeq (sAsg (m2 dAdd (mr (PyData.int 1)) (mCallFn F__law_draw (cK 0 (cD (mVar 1) cNil)))) (gSet 7)) (sSeq (sFor (mR1 (mVar 7)) (gSet 8) (sSeq (sDrop (mExt 3 (mL (mLc [9] (mR2 (mVar 7) (mVar 1)) (gSet 9) (m2b dGt (mCallFn F__law_draw (cK 0 (cD (mr (PyData.int 3)) cNil))) (mr (PyData.int 0))) (mTup (mCons (mVar 8) (mCons (mVar 9) mNil))))))) sNx)) sNx)) (sSeq (sIf (m2bP dEq 2 (mr (PyData.int 5))) (sSeq (sAsg (m2 dAdd (mr (PyData.int 1)) (mCallFn F__law_draw (cK 0 (cD (mr (PyData.int 3)) cNil)))) (gSet 10)) (sSeq (sOwn 3 (mLc [6] (mR2 (mr (PyData.int 1)) (mVar 1)) (gSet 6) (m2b dGt (m2 dMod (mCall dInt (mCons (mVar 6) mNil)) (m2 dAdd (mVar 10) (mr (PyData.int 1)))) (mr (PyData.int 0))) (mTup (mCons (mVar 6) (mCons (m2 dSub (mVar 6) (mr (PyData.int 1))) mNil))))) (sSeq (sDrop (mExt 3 (mL (mLc [6] (mR2 (mr (PyData.int 1)) (mVar 1)) (gSet 6) (m2b dGt (mCallFn F__law_draw (cK 0 (cD (mr (PyData.int 3)) cNil))) (mr (PyData.int 0))) (mTup (mCons (m2 dSub (mVar 6) (mr (PyData.int 1))) (mCons (mVar 6) mNil))))))) sNx))) (sSeq (sIf (m2bP dEq 2 (mr (PyData.int 6))) (sSeq (sAsg (m2 dAdd (mr (PyData.int 2)) (mCallFn F__law_draw (cK 0 (cD (mr (PyData.int 2)) cNil)))) (gSet 11)) (sSeq (sOwn 3 (mCat (mLc [6] (mR1 (m2 dSub (mVar 1) (mr (PyData.int 1)))) (gSet 6) (m2b dGt (m2 dMod (mCall dInt (mCons (m2 dAdd (mVar 6) (mr (PyData.int 1))) mNil)) (mVar 11)) (mr (PyData.int 0))) (mTup (mCons (mVar 6) (mCons (m2 dAdd (mVar 6) (mr (PyData.int 1))) mNil)))) (mLc [6] (mR1 (m2 dSub (mVar 1) (mVar 11))) (gSet 6) (mr true) (mTup (mCons (mVar 6) (mCons (m2 dAdd (mVar 6) (mVar 11)) mNil)))))) sNx)) (sSeq (sIf (m2bP dEq 2 (mr (PyData.int 7))) (sSeq (sAsg (mCallFn F__law_draw (cK 0 (cD (m2 dAdd (mVar 1) (mr (PyData.int 1))) cNil))) (gSet 12)) (sSeq (sOwn 3 (mLc [6] (mR1 (m2 dSub (mVar 1) (mr (PyData.int 1)))) (gSet 6) (m2b dNe (m2 dAdd (mVar 6) (mr (PyData.int 1))) (mVar 12)) (mTup (mCons (mVar 6) (mCons (m2 dAdd (mVar 6) (mr (PyData.int 1))) mNil))))) sNx)) sNx) sNx)) sNx)) sNx)) sNx)) sNx)) sNx))
def hillC : MS := (sSeq (sAsg (mCallFn F__law_closed (cD (mVar 1) (cD (mL (mLc [5] (mItems (mVar 3)) (gSet 5) (m2b dNe (mIxP 5 (mr (PyData.int 0))) (mIxP 5 (mr (PyData.int 1)))) (mVar 5))) cNil))) (gSet 13)) (sSeq (sRet (mIf (m2b dEq (mCallFn F__law_draw (cK 0 (cD (mr (PyData.int 3)) cNil))) (mr (PyData.int 0))) (mVar 13) (mCallFn F__law_led (cD (mVar 13) (cD (mCallFn F__law_order (cK 0 (cD (mVar 1) cNil))) cNil))))) sNx))
theorem hill_split : m__law_hill = sSeq (sPair 2 3 (mD (mCallFn F__law_draw (cK 0 (cD (mr (PyData.int 9)) cNil)))) (mF (mLst mNil))) (sSeq hillB hillC) := rfl
/-- a comprehension of pairs, with draws -/
theorem wp_lcD {A : Type} {enc : A → PyData} {vs : List Nat} {gt : G1} {tt : M Bool} {te : M PyData} {ρ : List Sl} {c : Nat} {Y : A → Nat × Nat → Prop} : ∀ (l : List A) (N : Nat) (δ : Dk), Ok N δ → N + c * l.length < 2 ^ 60 →
    (∀ a ∈ l, ∀ M δ, Ok M δ → M + c < 2 ^ 60 → ws (gt (enc a) ⟨ρ, some δ⟩) fun α1 => wp tt α1 fun b α2 => (b = false → ∃ δ', α2.wipe vs = ⟨ρ, some δ'⟩ ∧ Ok (M + c) δ') ∧ (b = true → wp te α2 fun y α3 => ∃ p δ', y = eP p ∧ Y a p ∧ α3.wipe vs = ⟨ρ, some δ'⟩ ∧ Ok (M + c) δ')) →
    wp (lcGo vs gt tt te (l.map enc)) ⟨ρ, some δ⟩ fun ys α2 => ∃ ps δ' l', ys = ps.map eP ∧ α2 = ⟨ρ, some δ'⟩ ∧ Ok (N + c * l.length) δ' ∧ l'.Sublist l ∧ F2 Y l' ps
  | [], N, δ, h, _, _ => ⟨[], _, rfl, [], δ, [], rfl, rfl, h, .slnil, .nil⟩
  | a :: l, N, δ, h, hb, hs => by
    rw [List.length_cons, Nat.mul_add] at hb
    obtain ⟨α1, e1, b, α2, e2, q1, q2⟩ := hs a List.mem_cons_self N δ h (by omega)
    have fin : ∀ δ', Ok (N + c) δ' → wp (lcGo vs gt tt te (l.map enc)) ⟨ρ, some δ'⟩ fun ys α2 => ∃ ps δ' l', ys = ps.map eP ∧ α2 = ⟨ρ, some δ'⟩ ∧ Ok (N + c * (l.length + 1)) δ' ∧ l'.Sublist l ∧ F2 Y l' ps := fun δ' ok => by
      have := wp_lcD l (N + c) δ' ok (by omega) fun x hx => hs x (List.mem_cons_of_mem _ hx)
      refine wp_mono this fun ys α ⟨ps, δ2, l', r1, r2, r3, r4, r5⟩ => ⟨ps, δ2, l', r1, r2, ?_, r4, r5⟩
      rw [Nat.mul_add, Nat.mul_one, Nat.add_comm (c * l.length), ← Nat.add_assoc]
      exact r3
    rw [List.map_cons]
    cases b with
    | false =>
      obtain ⟨δ', e3, ok⟩ := q1 rfl
      obtain ⟨ys, β, e4, ps, δ2, l', r1, r2, r3, r4, r5⟩ := fin δ' ok
      refine ⟨ys, β, ?_, ps, δ2, l', r1, r2, r3, r4.cons _, r5⟩
      unfold lcGo
      simp only [e1, e2]
      have e3 : α2.wipe vs = ⟨ρ, some δ'⟩ := e3
      rw [e3]
      exact e4
    | true =>
      obtain ⟨y, α3, e5, p, δ', rfl, hY, e3, ok⟩ := q2 rfl
      obtain ⟨ys, β, e4, ps, δ2, l', r1, r2, r3, r4, r5⟩ := fin δ' ok
      refine ⟨eP p :: ys, β, ?_, p :: ps, δ2, a :: l', by rw [r1]; rfl, r2, r3, r4.cons₂ _, .cons hY r5⟩
      unfold lcGo
      simp only [e1, e2, e5]
      have e3 : α3.wipe vs = ⟨ρ, some δ'⟩ := e3
      rw [e3]
      simp only [e4]
theorem F2.len {A B : Type} {Y : A → B → Prop} {l : List A} {k : List B} (h : F2 Y l k) : k.length = l.length := by
  induction h with
  | nil => rfl
  | cons _ _ ih => simp [ih]
theorem F2.mem {A B : Type} {Y : A → B → Prop} {l : List A} {k : List B} (h : F2 Y l k) : ∀ b ∈ k, ∃ a ∈ l, Y a b := by
  induction h with
  | nil => intro b hb; cases hb
  | cons h _ ih =>
    intro b hb
    rcases List.mem_cons.mp hb with rfl | hb
    · exact ⟨_, List.mem_cons_self, h⟩
    · obtain ⟨a, ha, q⟩ := ih b hb; exact ⟨a, List.mem_cons_of_mem _ ha, q⟩
theorem dR1_z {z : Int} (h : -1000000 < z ∧ z < 1000000) : dR1 (.int z) = some ((List.range z.toNat).map eN) := by
  rw [dR1_int, if_pos (by unfold i62; simp; omega)]
  unfold rgD
  simp [eN]
theorem dR2_1 {n : Nat} (h : n < 1000000) : dR2 (.int 1) (.int n) = some ((List.range (n - 1)).map fun i => .int (1 + (i : Nat))) := by
  rw [dR2_int, if_pos (by unfold i62; simp; omega)]
  unfold rgD
  have : ((n : Int) - 1).toNat = n - 1 := by omega
  rw [this]
theorem dR2_n {a n : Nat} (h : n < 1000000) (ha : a < 1000000) : dR2 (.int a) (.int n) = some ((List.range (n - a)).map fun i => .int ((a : Int) + (i : Nat))) := by
  rw [dR2_int, if_pos (by unfold i62; simp; omega)]
  unfold rgD
  have : ((n : Int) - a).toNat = n - a := by omega
  rw [this]
/-- what the ways leave -/
def Got (n N : Nat) (w : PyData) (o : Out) (α : Ab) : Prop := o = .nx ∧ ∃ (qs : List (Nat × Nat)) (s7 s8 s10 s11 s12 : Sl) (δ' : Dk), α = ⟨[.dck, .val (.int n), .val w, .own (qs.map eP), .un, .un, .un, s7, s8, .un, s10, s11, s12, .un], some δ'⟩ ∧ InN n qs ∧ qs.length ≤ 60 ∧ Ok (N + 200) δ'
section
variable {N : Nat} {δ : Dk} {n : Nat}
theorem way8 (h : Ok N δ) : wp hillB ⟨[.dck, .val (.int n), .val (.int 8), .own [], .un, .un, .un, .un, .un, .un, .un, .un, .un, .un], some δ⟩ (Got n N (.int 8)) := by
  simp [hillB, Got]
  exact ⟨[], _, _, _, _, _, δ, ⟨⟨rfl, rfl, rfl, rfl, rfl, rfl⟩, rfl⟩, fun p hp => (List.not_mem_nil hp).elim, by simp, h.mono (by omega)⟩
theorem way2 (h : Ok N δ) (h1 : 1 ≤ n) (hn : n ≤ 10) : wp hillB ⟨[.dck, .val (.int n), .val (.int 2), .own [], .un, .un, .un, .un, .un, .un, .un, .un, .un, .un], some δ⟩ (Got n N (.int 2)) := by
  simp [hillB]
  refine ws_of (dR1_sub (by omega)) ⟨by simp; omega, ?_⟩
  refine wp_lcAll (fun i => eP (i, i + 1)) (fun i hi => ?_) ?_
  · simp [eP, eN]
  · simp [Got]
    refine ⟨(List.range (n - 1)).map fun i => (i, i + 1), _, _, _, _, _, δ, ⟨⟨by simp [Function.comp_def], rfl, rfl, rfl, rfl, rfl⟩, rfl⟩, fun p hp => ?_, by simp; omega, h.mono (by omega)⟩
    obtain ⟨i, hi, rfl⟩ := List.mem_map.mp hp
    have := List.mem_range.mp hi
    simp
    omega
theorem way7 (h : Ok N δ) (hN : N + 1000 < 2 ^ 60) (h1 : 1 ≤ n) (hn : n ≤ 10) : wp hillB ⟨[.dck, .val (.int n), .val (.int 7), .own [], .un, .un, .un, .un, .un, .un, .un, .un, .un, .un], some δ⟩ (Got n N (.int 7)) := by
  obtain ⟨v, δ1, e1, ok1, hv⟩ := draw_ok h (by omega) (k := n + 1) (by omega) (by omega)
  rw [show (((n + 1 : Nat) : Int)) = (n : Int) + 1 by omega] at e1
  simp [hillB, e1]
  refine ws_of (dR1_sub (by omega)) ⟨by simp; omega, ?_⟩
  refine wp_lcMap (fun i : Nat => decide ¬ ((i : Int) + 1 = v)) (fun i => eP (i, i + 1)) (fun i hi => ?_) ?_
  · simp [eP, eN]
  · simp [Got]
    refine ⟨((List.range (n - 1)).filter fun i : Nat => decide ¬ ((i : Int) + 1 = v)).map fun i => (i, i + 1), _, _, _, _, _, _, ⟨⟨by simp [Function.comp_def], rfl, rfl, rfl, rfl, rfl⟩, rfl⟩, fun p hp => ?_, ?_, ok1.mono (by omega)⟩
    · obtain ⟨i, hi, rfl⟩ := List.mem_map.mp hp
      have := List.mem_range.mp (List.mem_filter.mp hi).1
      simp
      omega
    · rw [List.length_map]
      have := List.length_filter_le (fun i : Nat => decide ¬ ((i : Int) + 1 = v)) (List.range (n - 1))
      simp at this ⊢
      omega
theorem way3 (h : Ok N δ) (hN : N + 1000 < 2 ^ 60) (h1 : 1 ≤ n) (hn : n ≤ 10) : wp hillB ⟨[.dck, .val (.int n), .val (.int 3), .own [], .un, .un, .un, .un, .un, .un, .un, .un, .un, .un], some δ⟩ (Got n N (.int 3)) := by
  simp [hillB]
  refine ws_of (dR1_sub (by omega)) ⟨by simp; omega, ?_⟩
  refine wp_mono (wp_lcD (c := 2) (enc := eN) (Y := fun i p => p.1 = i ∧ p.2 < n) (List.range (n - 1)) N δ h (by simp; omega) fun i hi M δ1 ok hM => ?_) ?_
  · have hi := List.mem_range.mp hi
    obtain ⟨v, δ2, e2, ok2, hv⟩ := draw_ok ok (by omega) (k := 4) (by omega) (by omega)
    obtain ⟨u, δ3, e3, ok3, hu⟩ := draw_ok ok2 (by omega) (k := n - i - 1) (by omega) (by omega)
    rw [show (((n - i - 1 : Nat) : Int)) = (n : Int) - i - 1 by omega] at e3
    simp [eN]
    have e2 : F__law_draw [.dck, .val (.int 4)] (some δ1) = some (.int v, some δ2) := e2
    simp [e2, e3]
    refine ⟨fun _ => ok2.mono (by omega), fun _ => ?_⟩
    exact ⟨i, i + 1 + u, by simp [eP], ⟨rfl, by omega⟩, ok3⟩
  · rintro ys α2 ⟨ps, δ', l', rfl, rfl, ok, hs, hf⟩
    simp [Got]
    refine ⟨ps, _, _, _, _, _, _, ⟨⟨rfl, rfl, rfl, rfl, rfl, rfl⟩, rfl⟩, fun p hp => ?_, ?_, ok.mono (by simp; omega)⟩
    · obtain ⟨i, hi, q1, q2⟩ := hf.mem p hp
      have := List.mem_range.mp (hs.subset hi)
      omega
    · have := hs.length_le
      rw [hf.len]
      simp at this
      omega
theorem way01 (h : Ok N δ) (hN : N + 1000 < 2 ^ 60) (h1 : 1 ≤ n) (hn : n ≤ 10) {v : Nat} (hv : v < 2) : wp hillB ⟨[.dck, .val (.int n), .val (.int v), .own [], .un, .un, .un, .un, .un, .un, .un, .un, .un, .un], some δ⟩ (Got n N (.int v)) := by
  obtain ⟨r, δ1, e1, ok1, hr⟩ := draw_ok h (by omega) (k := 2 * n) (by omega) (by omega)
  rw [show (((2 * n : Nat) : Int)) = 2 * (n : Int) by omega] at e1
  have hv' : (v : Int) < 2 := by omega
  have hlog : Nat.log2 2 + n.log2 < 1000000 := by
    have := log_nat (show n < 2 ^ 100 by omega)
    have := log_nat (show 2 < 2 ^ 100 by decide)
    omega
  simp [hillB, e1, hv', hlog]
  refine ws_of (dR1_n (by omega)) ⟨by simp; omega, ?_⟩
  refine wp_mono (wp_lcD (c := 2) (enc := eN) (Y := fun i p => p.1 < n ∧ p.2 < n) (List.range r) (N + 1) δ1 ok1 (by simp; omega) fun i hi M δ1 ok hM => ?_) ?_
  · obtain ⟨a, δ2, e2, ok2, ha⟩ := draw_ok ok (by omega) (k := n) (by omega) (by omega)
    obtain ⟨b, δ3, e3, ok3, hb⟩ := draw_ok ok2 (by omega) (k := n) (by omega) (by omega)
    simp [eN, e2, e3]
    exact ⟨a, b, by simp [eP], ⟨ha, hb⟩, ok3⟩
  · rintro ys α2 ⟨ps, δ', l', rfl, rfl, ok, hs, hf⟩
    have hl : ps.length ≤ 20 := by
      have := hs.length_le
      rw [hf.len]
      simp at this
      omega
    have hm : ∀ p ∈ ps, p.1 < n ∧ p.2 < n := fun p hp => by
      obtain ⟨i, hi, q⟩ := hf.mem p hp
      exact q
    simp
    refine ⟨fun hv1 => ?_, fun hv1 => ?_⟩
    · refine ⟨by omega, ?_⟩
      refine wp_lcAll (fun p => eP (if p.2 < p.1 then p.2 else p.1, if p.2 > p.1 then p.2 else p.1)) (fun p hp => ?_) ?_
      · simp [eP, dMinX, dMaxX]
        constructor <;> (split <;> rfl)
      · simp [Got]
        refine ⟨ps.map fun p => (if p.2 < p.1 then p.2 else p.1, if p.2 > p.1 then p.2 else p.1), _, _, _, _, _, _, ⟨⟨by simp [Function.comp_def], rfl, rfl, rfl, rfl, rfl⟩, rfl⟩, fun p hp => ?_, by simp; omega, ok.mono (by simp; omega)⟩
        obtain ⟨q, hq, rfl⟩ := List.mem_map.mp hp
        have := hm q hq
        refine ⟨?_, ?_⟩ <;> (simp only; split <;> omega)
    · simp [Got]
      exact ⟨ps, _, _, _, _, _, _, ⟨⟨rfl, rfl, rfl, rfl, rfl, rfl⟩, rfl⟩, hm, by omega, ok.mono (by simp; omega)⟩
theorem way5 (h : Ok N δ) (hN : N + 1000 < 2 ^ 60) (h1 : 1 ≤ n) (hn : n ≤ 10) : wp hillB ⟨[.dck, .val (.int n), .val (.int 5), .own [], .un, .un, .un, .un, .un, .un, .un, .un, .un, .un], some δ⟩ (Got n N (.int 5)) := by
  obtain ⟨r, δ1, e1, ok1, hr⟩ := draw_ok h (by omega) (k := 3) (by omega) (by omega)
  have e1 : F__law_draw [.dck, .val (.int 3)] (some δ) = some (.int r, some δ1) := e1
  simp [hillB, e1]
  refine ws_of (dR2_1 (by omega)) ⟨by simp; omega, ?_⟩
  refine wp_lcMap (fun i : Nat => decide (0 < (1 + (i : Int)) % (1 + (r : Int) + 1))) (fun i => eP (1 + i, i)) (fun i hi => ?_) ?_
  · simp
    refine ⟨by omega, fun _ => ?_⟩
    simp [eP]
    omega
  · simp
    generalize hq : (List.range (n - 1)).filter (fun i : Nat => decide (0 < (1 + (i : Int)) % (1 + (r : Int) + 1))) = l1
    have hl1 : l1.length ≤ 9 := by
      have := List.length_filter_le (fun i : Nat => decide (0 < (1 + (i : Int)) % (1 + (r : Int) + 1))) (List.range (n - 1))
      rw [hq] at this
      simp at this
      omega
    have hm1 : ∀ i ∈ l1, i < n - 1 := fun i hi => by
      rw [← hq] at hi
      exact List.mem_range.mp (List.mem_filter.mp hi).1

    refine ws_of (dR2_1 (by omega)) ⟨by simp; omega, ?_⟩
    refine wp_mono (wp_lcD (c := 1) (enc := fun i => .int (1 + (i : Nat))) (Y := fun i p => p.1 = i ∧ p.2 = i + 1) (List.range (n - 1)) (N + 1) δ1 ok1 (by simp; omega) fun i hi M δ1 ok hM => ?_) ?_
    · obtain ⟨a, δ2, e2, ok2, ha⟩ := draw_ok ok (by omega) (k := 3) (by omega) (by omega)
      have e2 : F__law_draw [.dck, .val (.int 3)] (some δ1) = some (.int a, some δ2) := e2
      simp [e2]
      refine ⟨fun _ => ok2, fun _ => ⟨i, i + 1, ?_, ⟨rfl, rfl⟩, ok2⟩⟩
      simp [eP]
      omega
    · rintro ys α2 ⟨ps, δ', l', rfl, rfl, ok, hs, hf⟩
      have hl : ps.length ≤ 20 := by
        have := hs.length_le
        rw [hf.len]
        simp at this
        omega
      simp
      refine ⟨by omega, ?_⟩
      simp [Got]
      refine ⟨(l1.map fun i => (1 + i, i)) ++ ps, _, _, _, _, _, _, ⟨⟨by simp [Function.comp_def], rfl, rfl, rfl, rfl, rfl⟩, rfl⟩, fun p hp => ?_, by simp; omega, ok.mono (by simp; omega)⟩
      rcases List.mem_append.mp hp with hp | hp
      · obtain ⟨i, hi, rfl⟩ := List.mem_map.mp hp
        have := hm1 i hi
        simp
        omega
      · obtain ⟨i, hi, q1, q2⟩ := hf.mem p hp
        have := List.mem_range.mp (hs.subset hi)
        omega
theorem way6 (h : Ok N δ) (hN : N + 1000 < 2 ^ 60) (h1 : 1 ≤ n) (hn : n ≤ 10) : wp hillB ⟨[.dck, .val (.int n), .val (.int 6), .own [], .un, .un, .un, .un, .un, .un, .un, .un, .un, .un], some δ⟩ (Got n N (.int 6)) := by
  obtain ⟨r, δ1, e1, ok1, hr⟩ := draw_ok h (by omega) (k := 2) (by omega) (by omega)
  have e1 : F__law_draw [.dck, .val (.int 2)] (some δ) = some (.int r, some δ1) := e1
  simp [hillB, e1]
  refine ws_of (dR1_sub (by omega)) ⟨by simp; omega, ?_⟩
  refine wp_lcMap (fun i : Nat => decide (0 < ((i : Int) + 1) % (2 + (r : Int)))) (fun i => eP (i, i + 1)) (fun i hi => ?_) ?_
  · simp [eN]
    refine ⟨by omega, fun _ => ?_⟩
    simp [eP]
  · simp
    generalize hq : (List.range (n - 1)).filter (fun i : Nat => decide (0 < ((i : Int) + 1) % (2 + (r : Int)))) = l1
    have hl1 : l1.length ≤ 9 := by
      have := List.length_filter_le (fun i : Nat => decide (0 < ((i : Int) + 1) % (2 + (r : Int)))) (List.range (n - 1))
      rw [hq] at this
      simp at this
      omega
    have hm1 : ∀ i ∈ l1, i < n - 1 := fun i hi => by
      rw [← hq] at hi
      exact List.mem_range.mp (List.mem_filter.mp hi).1
    refine ws_of (dR1_z (by omega)) ⟨by simp; omega, ?_⟩
    refine wp_lcAll (fun i => eP (i, i + (2 + r))) (fun i hi => ?_) ?_
    · simp [eP, eN]
    · simp
      refine ⟨by omega, ?_⟩
      simp [Got]
      refine ⟨(l1.map fun i => (i, i + 1)) ++ (List.range ((n : Int) - (2 + r)).toNat).map fun i => (i, i + (2 + r)), _, _, _, _, _, _, ⟨⟨by simp [Function.comp_def], rfl, rfl, rfl, rfl, rfl⟩, rfl⟩, fun p hp => ?_, by simp; omega, ok1.mono (by omega)⟩
      rcases List.mem_append.mp hp with hp | hp
      · obtain ⟨i, hi, rfl⟩ := List.mem_map.mp hp
        have := hm1 i hi
        simp
        omega
      · obtain ⟨i, hi, rfl⟩ := List.mem_map.mp hp
        have := List.mem_range.mp hi
        simp
        omega
theorem way4 (h : Ok N δ) (hN : N + 1000 < 2 ^ 60) (h1 : 1 ≤ n) (hn : n ≤ 10) : wp hillB ⟨[.dck, .val (.int n), .val (.int 4), .own [], .un, .un, .un, .un, .un, .un, .un, .un, .un, .un], some δ⟩ (Got n N (.int 4)) := by
  obtain ⟨r, δ1, e1, ok1, hr⟩ := draw_ok h (by omega) (k := n) (by omega) (by omega)
  have hd : dR1 (.int (1 + (r : Int))) = some ((List.range (r + 1)).map eN) := by rw [show 1 + (r : Int) = ((r + 1 : Nat) : Int) by omega]; exact dR1_n (by omega)
  simp [hillB, e1]
  refine ws_of hd ?_
  refine wp_forM (enc := eN) (fun pre β => ∃ qs s8 δ', β = ⟨[.dck, .val (.int n), .val (.int 4), .own (qs.map eP), .un, .un, .un, .val (.int (1 + (r : Int))), s8, .un, .un, .un, .un, .un], some δ'⟩ ∧ InN n qs ∧ qs.length ≤ pre.length * (n - (r + 1)) ∧ Ok (N + 1 + pre.length * 10) δ') (List.range (r + 1)) ⟨[], .un, δ1, rfl, fun p hp => (List.not_mem_nil hp).elim, by simp, by simpa using ok1⟩ ?_ ?_
  · rintro pre a post β e ⟨qs, s8, δ2, rfl, hm, hl, ok⟩
    have e2 := congrArg List.length e
    simp at e2
    have ha : a < r + 1 := List.mem_range.mp (by rw [e]; simp)
    have hl2 : pre.length * (n - (r + 1)) ≤ 10 * 10 := Nat.mul_le_mul (by omega) (by omega)
    simp [eN]
    rw [show (1 + (r : Int)) = ((r + 1 : Nat) : Int) by omega]
    refine ws_of (dR2_n (by omega) (by omega)) ⟨by simp; omega, ?_⟩
    refine wp_mono (wp_lcD (c := 1) (enc := fun i => .int (((r + 1 : Nat) : Int) + (i : Nat))) (Y := fun i p => p.1 = a ∧ p.2 = r + 1 + i) (List.range (n - (r + 1))) (N + 1 + pre.length * 10) δ2 ok (by simp; omega) fun i hi M δ1 ok hM => ?_) ?_
    · obtain ⟨v, δ2, e2, ok2, ha⟩ := draw_ok ok (by omega) (k := 3) (by omega) (by omega)
      have e2 : F__law_draw [.dck, .val (.int 3)] (some δ1) = some (.int v, some δ2) := e2
      simp [e2]
      refine ⟨fun _ => ok2, fun _ => ⟨a, r + 1 + i, ?_, ⟨rfl, rfl⟩, ok2⟩⟩
      simp [eP]
    · rintro ys α2 ⟨ps, δ', l', rfl, rfl, ok', hs, hf⟩
      have hl3 : ps.length ≤ n - (r + 1) := by
        have := hs.length_le
        rw [hf.len]
        simpa using this
      simp
      refine ⟨by omega, qs ++ ps, _, _, ⟨⟨by simp, rfl⟩, rfl⟩, fun p hp => ?_, ?_, ok'.mono ?_⟩
      · rcases List.mem_append.mp hp with hp | hp
        · exact hm p hp
        · obtain ⟨i, hi, q1, q2⟩ := hf.mem p hp
          have := List.mem_range.mp (hs.subset hi)
          omega
      · simp [Nat.succ_mul]
        omega
      · simp
        omega
  · rintro β ⟨qs, s8, δ2, rfl, hm, hl, ok⟩
    simp at hl ok
    have hl2 : (r + 1) * (n - (r + 1)) ≤ 25 := by
      have : ∀ n : Nat, n < 11 → ∀ r : Nat, r < 10 → (r + 1) * (n - (r + 1)) ≤ 25 := by decide +kernel
      exact this n (by omega) r (by omega)
    simp [Got]
    exact ⟨qs, _, _, _, _, _, _, ⟨⟨rfl, rfl, rfl, rfl, rfl, rfl⟩, rfl⟩, hm, by omega, ok.mono (by omega)⟩
theorem hillB_ok (h : Ok N δ) (hN : N + 1000 < 2 ^ 60) (h1 : 1 ≤ n) (hn : n ≤ 10) {v : Nat} (hv : v < 9) : wp hillB ⟨[.dck, .val (.int n), .val (.int v), .own [], .un, .un, .un, .un, .un, .un, .un, .un, .un, .un], some δ⟩ (Got n N (.int v)) := by
  have : v < 2 ∨ v = 2 ∨ v = 3 ∨ v = 4 ∨ v = 5 ∨ v = 6 ∨ v = 7 ∨ v = 8 := by omega
  rcases this with q | rfl | rfl | rfl | rfl | rfl | rfl | rfl
  · exact way01 h hN h1 hn q
  · exact way2 h h1 hn
  · exact way3 h hN h1 hn
  · exact way4 h hN h1 hn
  · exact way5 h hN h1 hn
  · exact way6 h hN h1 hn
  · exact way7 h hN h1 hn
  · exact way8 h
end
theorem nth_get {n : Nat} {o : List Nat} (ho : Pm n o) {i : Nat} (hi : i < n) : ∃ h : i < o.length, nth o i = o[i] := by
  have := ho.len
  refine ⟨by omega, ?_⟩
  unfold nth
  rw [List.getD_eq_getElem?_getD, List.getElem?_eq_getElem (by omega)]
  rfl
theorem nth_lt {n : Nat} {o : List Nat} (ho : Pm n o) {i : Nat} (hi : i < n) : nth o i < n := by
  obtain ⟨h, e⟩ := nth_get ho hi
  rw [e]
  exact List.mem_range.mp (ho.subset (List.getElem_mem h))
theorem nth_inj {n : Nat} {o : List Nat} (ho : Pm n o) {i j : Nat} (hi : i < n) (hj : j < n) (e : nth o i = nth o j) : i = j := by
  obtain ⟨h1, e1⟩ := nth_get ho hi
  obtain ⟨h2, e2⟩ := nth_get ho hj
  have nd : o.Nodup := ho.nodup_iff.mpr List.nodup_range
  rw [e1, e2] at e
  rcases Nat.lt_trichotomy i j with q | q | q
  · exact absurd e (List.pairwise_iff_getElem.mp nd i j h1 h2 q)
  · exact q
  · exact absurd e.symm (List.pairwise_iff_getElem.mp nd j i h2 h1 q)
theorem led_mem {o : List Nat} {ps : List (Nat × Nat)} {x y : Nat} : (x, y) ∈ led o ps ↔ ∃ a b, (a, b) ∈ ps ∧ x = nth o a ∧ y = nth o b := by
  unfold led
  rw [(srtP_perm _).mem_iff, List.mem_map]
  constructor
  · rintro ⟨⟨a, b⟩, h, e⟩; cases e; exact ⟨a, b, h, rfl, rfl⟩
  · rintro ⟨a, b, h, rfl, rfl⟩; exact ⟨(a, b), h, rfl⟩
theorem srt_nodup {ps : List (Nat × Nat)} (h : Srt ps) : ps.Nodup := h.imp fun {a b} q e => by
  subst e
  unfold ltP at q
  omega
theorem led_hl {n : Nat} {ps : List (Nat × Nat)} (h : Hl n ps) {o : List Nat} (ho : Pm n o) : Hl n (led o ps) := by
  refine ⟨⟨h.wf.1, h.wf.2.1, fun p hp => ?_⟩, ?_, fun x y z h1 h2 e => ?_⟩
  · obtain ⟨x, y⟩ := p
    obtain ⟨a, b, hm, rfl, rfl⟩ := led_mem.mp hp
    have := h.wf.2.2 _ hm
    simp at this
    exact ⟨nth_lt ho this.1, nth_lt ho this.2.1, fun e => this.2.2 (nth_inj ho this.1 this.2.1 e)⟩
  · refine srtP_srt ?_
    unfold List.Nodup
    rw [List.pairwise_map]
    refine List.Pairwise.imp_of_mem (fun {p q} hp hq hne e => hne ?_) (srt_nodup h.st)
    have h1 := h.wf.2.2 p hp
    have h2 := h.wf.2.2 q hq
    have e1 := congrArg Prod.fst e
    have e2 := congrArg Prod.snd e
    exact Prod.ext (nth_inj ho h1.1 h2.1 e1) (nth_inj ho h1.2.1 h2.2.1 e2)
  · obtain ⟨a, b, m1, rfl, rfl⟩ := led_mem.mp h1
    obtain ⟨b', c, m2, e2, rfl⟩ := led_mem.mp h2
    have w1 := h.wf.2.2 _ m1
    have w2 := h.wf.2.2 _ m2
    simp at w1 w2
    have : b = b' := nth_inj ho w1.2.1 w2.1 e2
    subst this
    exact led_mem.mpr ⟨a, c, h.tr a b c m1 m2 fun z => e (by rw [z]), rfl, rfl⟩
theorem stp_len (ps : List (Nat × Nat)) (a : Nat) : (stp ps a).length ≤ ps.length := by
  unfold stp
  rw [List.length_map]
  exact List.length_filter_le _ _
theorem hill_ok {N : Nat} {δ : Dk} (h : Ok N δ) (hN : N + 2000 < 2 ^ 60) {n : Nat} (h1 : 1 ≤ n) (hn : n ≤ 10) : ∃ (ps : List (Nat × Nat)) (δ' : Dk), F__law_hill [.dck, .val (.int n)] (some δ) = some (dH n ps, some δ') ∧ Hl n ps ∧ Ok (N + 300) δ' := by
  obtain ⟨r, d', e, ps, rfl, δ', rfl, ho, hp⟩ := f_rel (n := 2) (m := 14) (body := m__law_hill) (as := [.dck, .val (.int n)]) (δ := some δ) rfl (P := fun r d => ∃ ps, r = dH n ps ∧ ∃ δ' : Dk, d = some δ' ∧ Ok (N + 300) δ' ∧ Hl n ps) (by
    obtain ⟨v, δ1, e1, ok1, hv⟩ := draw_ok h (by omega) (k := 9) (by omega) (by omega)
    have e1 : F__law_draw [.dck, .val (.int 9)] (some δ) = some (.int v, some δ1) := e1
    rw [hill_split]
    simp [e1]
    refine wp_mono (hillB_ok ok1 (by omega) h1 hn hv) ?_
    rintro o α ⟨rfl, qs, s7, s8, s10, s11, s12, δ2, rfl, hm, hl, ok2⟩
    simp [hillC]
    refine ⟨by omega, ?_⟩
    refine wp_lcMap (fun p => decide ¬ (p.1 = p.2)) eP (fun p hp => ?_) ?_
    · have q := dNe_i (i := p.1) (j := p.2)
      simp [eP]
      omega
    · have hq : InN n (qs.filter fun p => decide ¬ (p.1 = p.2)) := fun p hp => hm p (List.mem_filter.mp hp).1
      have hl2 : (qs.filter fun p => decide ¬ (p.1 = p.2)).length ≤ 60 := Nat.le_trans (List.length_filter_le _ _) hl
      generalize (qs.filter fun p => decide ¬ (p.1 = p.2)) = rs at *
      have ec := clos_eq hn hq (fun a => by have := stp_len rs a; omega)
      obtain ⟨w, δ3, e3, ok3, hw⟩ := draw_ok ok2 (by omega) (k := 3) (by omega) (by omega)
      have e3 : F__law_draw [.dck, .val (.int 3)] (some δ2) = some (.int w, some δ3) := e3
      obtain ⟨od, δ4, e4, ok4, hp⟩ := order_ok ok3 (by omega) hn
      have hh := clo_hl h1 hn rs
      simp [ec, e3, e4, lawled_eq hh hp]
      exact ⟨fun _ => ⟨_, rfl, ok3.mono (by omega), hh⟩, fun _ => ⟨_, rfl, ok4.mono (by omega), led_hl hh hp⟩⟩)
  exact ⟨ps, δ', e, hp, ho⟩
end Md
end
section
set_option Elab.async false
set_option linter.all false
set_option maxRecDepth 100000
set_option maxHeartbeats 2000000
namespace Md
open PySem PySem.Spec PyProof.Rows L2 Pd P14

theorem toInts_N : ∀ l : List Nat, toInts (l.map eN) = some (iL l)
  | [] => rfl
  | n :: l => by
    show (toInts (l.map eN)).map ((n : Int) :: ·) = _
    rw [toInts_N l]; rfl
theorem map_iL (l : List Nat) : (iL l).map PyData.int = l.map eN := by unfold iL; rw [List.map_map]; rfl
theorem iL_lt {l : List Nat} (h : l.Pairwise (· < ·)) : (iL l).Pairwise (· < ·) := by
  unfold iL
  rw [List.pairwise_map]
  exact h.imp fun h => by omega
theorem iL_mem {l : List Nat} {k : Int} : k ∈ iL l ↔ ∃ n ∈ l, k = (n : Int) := by
  unfold iL
  rw [List.mem_map]
  exact ⟨fun ⟨n, h, e⟩ => ⟨n, h, e.symm⟩, fun ⟨n, h, e⟩ => ⟨n, h, e.symm⟩⟩
theorem dSort_lot {l : List Nat} (hn : l.Nodup) (h : ∀ x ∈ l, x < 10) : dSort (l.map eN) = some ((lot (fL l)).map eN) := by
  unfold dSort
  rw [toInts_N]
  simp only
  have e : iL (lot (fL l)) = sortI (iL l) := by
    refine sortI_uniq ?_ ((iL_lt (lot_asc _)).imp fun h => Int.le_of_lt h)
    unfold iL
    refine List.Perm.map _ ?_
    refine (List.perm_ext_iff_of_nodup ((lot_asc _).imp fun h => Nat.ne_of_lt h) hn).mpr fun x => ?_
    rw [lot_mem, decide_eq_true_eq]
    exact ⟨fun q => q.2, fun q => ⟨h x q, q⟩⟩
  rw [← e, map_iL]
theorem dSortSet_lot {l : List Nat} (hl : l.length < 63) (h : ∀ x ∈ l, x < 10) : dSortSet (.tuple (l.map eN)) = some ((lot (fL l)).map eN) := by
  show (match toInts (l.map eN) with | some ns => if ns.length < 63 then some ((sortI (ddI ns)).map PyData.int) else none | none => none) = _
  rw [toInts_N]
  simp only
  have hl' : (iL l).length < 63 := by unfold iL; rw [List.length_map]; exact hl
  rw [if_pos hl']
  have e : iL (lot (fL l)) = sortI (ddI (iL l)) := by
    refine ddI_sort (iL_lt (lot_asc _)) fun k => ?_
    rw [iL_mem, iL_mem]
    constructor
    · rintro ⟨n, q, e⟩
      exact ⟨n, of_decide_eq_true (lot_mem.mp q).2, e⟩
    · rintro ⟨n, q, e⟩
      exact ⟨n, lot_mem.mpr ⟨h n q, decide_eq_true q⟩, e⟩
  rw [← e, map_iL]
theorem dIn_N (x : Nat) (l : List Nat) : dIn (eN x) (dL l) = some (decide (x ∈ l)) := by
  show (if SeqAt.shaped (eN x) = true ∧ SeqAt.shaped (.list (l.map eN)) = true then some _ else none) = _
  rw [if_pos ⟨(flat_int (c := 1) _).shp, (flat_lst (c := 2) (flat_eN)).shp⟩, List.any_map]
  congr 1
  induction l with
  | nil => rfl
  | cons q l ih =>
    rw [List.any_cons, ih]
    show (PyData.eqv (eN q) (eN x) || _) = _
    rw [eqv_eN]
    by_cases e : q = x
    · simp [e]
    · simp [e, show ¬ x = q from fun z => e z.symm]
theorem dNotIn_N (x : Nat) (l : List Nat) : dNotIn (eN x) (dL l) = some (!decide (x ∈ l)) := by
  have := dIn_N x l
  unfold dNotIn
  rw [this]
  rfl
def wth (l k : List Nat) : List Nat := lot (fL (l ++ k))
def lss (l k : List Nat) : List Nat := l.filter fun x => !decide (x ∈ k)
def bth (l k : List Nat) : List Nat := l.filter fun x => decide (x ∈ k)
def und (ps : List (Nat × Nat)) (x : Nat) : List Nat := lot (dn ps x)
theorem under_eq {n : Nat} {ps : List (Nat × Nat)} (h : Hl n ps) {x : Nat} (hx : x < n) : F__law_under [.val (dH n ps), .val (eN x)] none = some (dL (und ps x), none) := by
  refine f_of rfl ?_
  simp [m__law_under, dH, dPs]
  have hl := srt_len h.wf h.st
  refine ⟨by omega, ?_⟩
  refine wp_lcMap (fun p => decide (p.2 = x)) (fun p => eN p.1) (fun p hp => ?_) ?_
  · obtain ⟨a, b⟩ := p
    simp [eP]
    have e : dEq (.int (b : Int)) (eN x) = some (decide (b = x)) := by
      show dEq (.int (b : Int)) (.int (x : Int)) = _
      rw [dEq_i]
      congr 1
      exact decide_eq_decide.mpr Int.ofNat_inj
    simp [e]
    by_cases hb : b = x
    · simp [hb, eN]
    · simp [hb]
  · have hf := List.length_filter_le (fun p : Nat × Nat => decide (p.2 = x)) ps
    simp
    refine ⟨by omega, ?_⟩
    have e : eN x :: (ps.filter fun p => decide (p.2 = x)).map (fun p => eN p.1) = (x :: (ps.filter fun p => decide (p.2 = x)).map (·.1)).map eN := by
      rw [List.map_cons, List.map_map]; rfl
    have hw := h.wf.2.2
    have hn := h.wf.2.1
    have nd : (x :: (ps.filter fun p => decide (p.2 = x)).map (·.1)).Nodup := by
      refine List.nodup_cons.mpr ⟨fun z => ?_, ?_⟩
      · obtain ⟨p, hp, e⟩ := List.mem_map.mp z
        obtain ⟨h1, h2⟩ := List.mem_filter.mp hp
        exact (hw p h1).2.2 (e.trans (of_decide_eq_true h2).symm)
      · refine List.pairwise_map.mpr ?_
        refine List.Pairwise.imp_of_mem (fun {p q} hp hq hlt e => ?_) (List.Pairwise.filter _ (srt_nodup h.st))
        have h1 := of_decide_eq_true (List.mem_filter.mp hp).2
        have h2 := of_decide_eq_true (List.mem_filter.mp hq).2
        exact hlt (Prod.ext e (h1.trans h2.symm))
    have hb : ∀ y ∈ x :: (ps.filter fun p => decide (p.2 = x)).map (·.1), y < 10 := fun y hy => by
      rcases List.mem_cons.mp hy with e | hy
      · omega
      · obtain ⟨p, hp, e⟩ := List.mem_map.mp hy
        have := hw p (List.mem_filter.mp hp).1
        omega
    rw [e, dSort_lot nd hb]
    have el : lot (fL (x :: (ps.filter fun p => decide (p.2 = x)).map (·.1))) = und ps x := by
      unfold und lot
      refine List.filter_congr fun i hi => ?_
      show decide (i ∈ x :: _) = dn ps x i
      unfold dn
      rw [← Bool.decide_or]
      refine decide_eq_decide.mpr ?_
      rw [List.mem_cons, List.mem_map]
      refine or_congr Iff.rfl ⟨?_, fun q => ⟨(i, x), List.mem_filter.mpr ⟨q, decide_eq_true rfl⟩, rfl⟩⟩
      rintro ⟨⟨a, b⟩, hp, rfl⟩
      obtain ⟨h1, h2⟩ := List.mem_filter.mp hp
      have := of_decide_eq_true h2
      simp only at this
      subst this
      exact h1
    rw [el]
    simp [dL]
end Md
end
section
set_option Elab.async false
set_option linter.all false
set_option maxRecDepth 100000
set_option maxHeartbeats 2000000
namespace Md
open PySem PySem.Spec PyProof.Rows L2 Pd P14
/-- one of a list is drawn -/
theorem pick_ok {N : Nat} {δ : Dk} (h : Ok N δ) (hN : N < 2 ^ 60) {ds : List PyData} (h0 : 0 < ds.length) (h1 : ds.length < 1000000) : ∃ (i : Nat) (hi : i < ds.length) (δ' : Dk), F__law_pick [.dck, .val (.list ds)] (some δ) = some (ds[i], some δ') ∧ Ok (N + 1) δ' := by
  obtain ⟨v, δ', e, hv, ok⟩ := draw_ok h hN (k := ds.length) h0 (by omega)
  refine ⟨v, by omega, δ', ?_, by assumption⟩
  refine f_of rfl ?_
  simp [m__law_pick, e]
  exact ws_of (atI_nat (List.getElem?_eq_getElem ok)) ⟨.inl rfl, rfl⟩
end Md
end
section
set_option Elab.async false
set_option linter.all false
set_option maxRecDepth 100000
set_option maxHeartbeats 2000000
namespace Md
open PySem PySem.Spec PyProof.Rows L2 Pd P14
theorem wp_lcE {A : Type} {enc : A → PyData} {vs : List Nat} {gt : G1} {tt : M Bool} {te : M PyData} {ρ : List Sl} {c : Nat} {Y : A → PyData → Prop} : ∀ (l : List A) (N : Nat) (δ : Dk), Ok N δ → N + c * l.length < 2 ^ 60 →
    (∀ a ∈ l, ∀ M δ, Ok M δ → M + c < 2 ^ 60 → ws (gt (enc a) ⟨ρ, some δ⟩) fun α1 => wp tt α1 fun b α2 => (b = false → ∃ δ', α2.wipe vs = ⟨ρ, some δ'⟩ ∧ Ok (M + c) δ') ∧ (b = true → wp te α2 fun y α3 => ∃ δ', Y a y ∧ α3.wipe vs = ⟨ρ, some δ'⟩ ∧ Ok (M + c) δ')) →
    wp (lcGo vs gt tt te (l.map enc)) ⟨ρ, some δ⟩ fun ys α2 => ∃ δ' l', α2 = ⟨ρ, some δ'⟩ ∧ Ok (N + c * l.length) δ' ∧ l'.Sublist l ∧ F2 Y l' ys
  | [], N, δ, h, _, _ => ⟨[], _, rfl, δ, [], rfl, h, .slnil, .nil⟩
  | a :: l, N, δ, h, hb, hs => by
    rw [List.length_cons, Nat.mul_add] at hb
    obtain ⟨α1, e1, b, α2, e2, q1, q2⟩ := hs a List.mem_cons_self N δ h (by omega)
    have fin : ∀ δ', Ok (N + c) δ' → wp (lcGo vs gt tt te (l.map enc)) ⟨ρ, some δ'⟩ fun ys α2 => ∃ δ' l', α2 = ⟨ρ, some δ'⟩ ∧ Ok (N + c * (l.length + 1)) δ' ∧ l'.Sublist l ∧ F2 Y l' ys := fun δ' ok => by
      have := wp_lcE l (N + c) δ' ok (by omega) fun x hx => hs x (List.mem_cons_of_mem _ hx)
      refine wp_mono this fun ys α ⟨δ2, l', r2, r3, r4, r5⟩ => ⟨δ2, l', r2, ?_, r4, r5⟩
      rw [Nat.mul_add, Nat.mul_one, Nat.add_comm (c * l.length), ← Nat.add_assoc]
      exact r3
    rw [List.map_cons]
    cases b with
    | false =>
      obtain ⟨δ', e3, ok⟩ := q1 rfl
      obtain ⟨ys, β, e4, δ2, l', r2, r3, r4, r5⟩ := fin δ' ok
      refine ⟨ys, β, ?_, δ2, l', r2, r3, r4.cons _, r5⟩
      unfold lcGo
      simp only [e1, e2]
      have e3 : α2.wipe vs = ⟨ρ, some δ'⟩ := e3
      rw [e3]
      exact e4
    | true =>
      obtain ⟨y, α3, e5, δ', hY, e3, ok⟩ := q2 rfl
      obtain ⟨ys, β, e4, δ2, l', r2, r3, r4, r5⟩ := fin δ' ok
      refine ⟨y :: ys, β, ?_, δ2, a :: l', r2, r3, r4.cons₂ _, .cons hY r5⟩
      unfold lcGo
      simp only [e1, e2, e5]
      have e3 : α3.wipe vs = ⟨ρ, some δ'⟩ := e3
      rw [e3]
      simp only [e4]
/-! ### a drawn lot, a fitting hill -/
theorem srtL_len (ls : List (List Nat)) : (srtL ls).length = ls.length := (srtL_perm ls).length_eq
def FA : MS := (sAsg (mCallFn F__law_hill (cK 0 (cD (m2 dAdd (mr (PyData.int 1)) (mCallFn F__law_draw (cK 0 (cD (mIf (m2b dEq (mCallFn F__law_draw (cK 0 (cD (mr (PyData.int 16)) cNil))) (mr (PyData.int 0))) (mr (PyData.int 10)) (mr (PyData.int 7))) cNil)))) cNil))) (gSet 1))
theorem FA_ok {N : Nat} {δ : Dk} (h : Ok N δ) (hN : N + 3000 < 2 ^ 60) : wp FA ⟨[.dck, .un, .un, .un], some δ⟩ fun o β => o = .nx ∧ ∃ n ps δ', Hl n ps ∧ Ok (N + 302) δ' ∧ β = ⟨[.dck, .val (dH n ps), .un, .un], some δ'⟩ := by
  obtain ⟨v, δ1, e1, ok1, hv⟩ := draw_ok h (by omega) (k := 16) (by omega) (by omega)
  have e1 : F__law_draw [.dck, .val (.int 16)] (some δ) = some (.int v, some δ1) := e1
  by_cases hv0 : v = 0
  · obtain ⟨u, δ2, e2, ok2, hu⟩ := draw_ok ok1 (by omega) (k := 10) (by omega) (by omega)
    have e2 : F__law_draw [.dck, .val (.int 10)] (some δ1) = some (.int u, some δ2) := e2
    obtain ⟨ps, δ3, e3, hh, ok3⟩ := hill_ok ok2 (by omega) (show 1 ≤ u + 1 by omega) (by omega)
    rw [show (((u + 1 : Nat) : Int)) = 1 + (u : Int) by omega] at e3
    refine wp_mono (Q := fun o β => o = .nx ∧ β = ⟨[.dck, .val (dH (u + 1) ps), .un, .un], some δ3⟩) (by simp [FA, e1, e2, e3, hv0]) fun o β ⟨q1, q2⟩ => ⟨q1, _, ps, δ3, hh, ok3.mono (by omega), q2⟩
  · obtain ⟨u, δ2, e2, ok2, hu⟩ := draw_ok ok1 (by omega) (k := 7) (by omega) (by omega)
    have e2 : F__law_draw [.dck, .val (.int 7)] (some δ1) = some (.int u, some δ2) := e2
    obtain ⟨ps, δ3, e3, hh, ok3⟩ := hill_ok ok2 (by omega) (show 1 ≤ u + 1 by omega) (by omega)
    rw [show (((u + 1 : Nat) : Int)) = 1 + (u : Int) by omega] at e3
    refine wp_mono (Q := fun o β => o = .nx ∧ β = ⟨[.dck, .val (dH (u + 1) ps), .un, .un], some δ3⟩) (by simp [FA, e1, e2, e3, hv0]) fun o β ⟨q1, q2⟩ => ⟨q1, _, ps, δ3, hh, ok3.mono (by omega), q2⟩
theorem dIsNot_l (ds : List PyData) : dIsNot (.list ds) .none = some true := rfl
theorem dIsNot_n : dIsNot .none .none = some false := rfl
end Md
end
section
set_option Elab.async false
set_option linter.all false
set_option maxRecDepth 100000
set_option maxHeartbeats 2000000
namespace Md
open PySem PySem.Spec PyProof.Rows L2 Pd P14

/-! ### the mirrored hill, and the law's lots -/
def mir (ps : List (Nat × Nat)) : List (Nat × Nat) := srtP (ps.map fun p => (p.2, p.1))
theorem mir_mem {ps : List (Nat × Nat)} {x y : Nat} : (x, y) ∈ mir ps ↔ (y, x) ∈ ps := by
  unfold mir
  rw [(srtP_perm _).mem_iff, List.mem_map]
  constructor
  · rintro ⟨⟨a, b⟩, hp, e⟩
    cases e
    exact hp
  · intro hp
    exact ⟨(y, x), hp, rfl⟩
theorem mir_hl {n : Nat} {ps : List (Nat × Nat)} (h : Hl n ps) : Hl n (mir ps) := by
  refine ⟨⟨h.wf.1, h.wf.2.1, fun p hp => ?_⟩, ?_, fun x y z h1 h2 e => ?_⟩
  · obtain ⟨x, y⟩ := p
    have := h.wf.2.2 _ (mir_mem.mp hp)
    simp only at this ⊢
    exact ⟨this.2.1, this.1, fun e => this.2.2 e.symm⟩
  · refine srtP_srt ?_
    unfold List.Nodup
    rw [List.pairwise_map]
    refine (srt_nodup h.st).imp fun {p q} hne e => hne ?_
    exact Prod.ext (congrArg Prod.snd e) (congrArg Prod.fst e)
  · exact mir_mem.mpr (h.tr z y x (mir_mem.mp h2) (mir_mem.mp h1) fun q => e q.symm)
theorem mir_eq {n : Nat} {ps : List (Nat × Nat)} (h : Hl n ps) : F_mirror [.val (dH n ps)] none = some (dH n (mir ps), none) := by
  have hl := srt_len h.wf h.st
  have e1 := need_eq h
  refine f_of rfl ?_
  unfold dH dPs at e1 ⊢
  simp [m_mirror, e1]
  refine ⟨by omega, ?_⟩
  refine wp_lcAll (fun p => eP (p.2, p.1)) (fun p hp => ?_) ?_
  · simp [eP]
  · have e3 : ps.map (fun p => eP (p.2, p.1)) = (ps.map fun p => (p.2, p.1)).map eP := by rw [List.map_map]; rfl
    rw [e3, dSort_P]
    simp
    rfl
theorem dn_mir (ps : List (Nat × Nat)) (a b : Nat) : dn (mir ps) a b = dn ps b a := by
  unfold dn
  rw [← Bool.decide_or, ← Bool.decide_or]
  exact decide_eq_decide.mpr (or_congr eq_comm mir_mem)
end Md
end
section
set_option Elab.async false
set_option linter.all false
set_option maxRecDepth 100000
set_option maxHeartbeats 2000000
namespace Md
open PySem PySem.Spec PyProof.Rows L2 Pd P14

theorem Hl.trn {n : Nat} {ps : List (Nat × Nat)} (h : Hl n ps) : Trn n ps := ⟨fun p hp => ⟨(h.wf.2.2 p hp).1, (h.wf.2.2 p hp).2.1⟩, h.tr⟩
/-! ### masks, lots, waters -/
theorem mlot_eq (f : Nat → Bool) : F_mask_of [.val (dL (lot f))] none = some (eM f, none) := by
  rw [mask_eq fun x hx => (lot_mem.mp hx).1]
  rw [show (eM fun i => decide (i ∈ lot f)) = eM f from eM_lot f]
theorem lotn {n : Nat} {f : Nat → Bool} (h : ∀ i, f i = true → i < n) : Lot n (lot f) := ⟨lot_asc f, fun x hx => h x (lot_mem.mp hx).2⟩
theorem shut_dn {n : Nat} {ps : List (Nat × Nat)} {f : Nat → Bool} (hf : LowF n ps f) : mk (un (dn ps) f) = mk f := by
  refine mk_eq.mpr fun b hb => ?_
  unfold un
  rw [Bool.eq_iff_iff, List.any_eq_true]
  constructor
  · rintro ⟨a, ha, h⟩
    rw [dn_iff] at h
    have ha := (lot_mem.mp ha).2
    rcases h with rfl | h
    · exact ha
    · exact hf.dn a b ha h
  · exact fun h => ⟨b, lot_mem.mpr ⟨hb, h⟩, dn_iff.mpr (.inl rfl)⟩
theorem shut_up {n : Nat} {ps : List (Nat × Nat)} {f : Nat → Bool} (hf : UpF n ps f) : mk (un (up ps) f) = mk f := by
  refine mk_eq.mpr fun b hb => ?_
  unfold un
  rw [Bool.eq_iff_iff, List.any_eq_true]
  constructor
  · rintro ⟨a, ha, h⟩
    rw [up_iff] at h
    have ha := (lot_mem.mp ha).2
    rcases h with rfl | h
    · exact ha
    · exact hf.up a b ha h
  · exact fun h => ⟨b, lot_mem.mpr ⟨hb, h⟩, up_iff.mpr (.inl rfl)⟩
section
variable {n : Nat} {ps : List (Nat × Nat)} {f w : Nat → Bool} {c e : Nat → Option Bool} {S T : List Deed} {d : Deed}
theorem isloF (h : Hl n ps) (hf : LowF n ps f) : F_is_lower_of [.val (dH n ps), .val (dL (lot f))] none = some (.bool true, none) := by
  have h1 := islot_eq h.wf.2.1 (lotn hf.lt)
  have h4 := shut_eq (n := n) (F := dn ps) (f := f) fun i _ hb => hf.lt i hb
  rw [shut_dn hf] at h4
  refine f_of rfl ?_
  have h3 := below_eq h.wf
  have h2 := mlot_eq f
  simp [m_is_lower_of]
  simp [dH] at h1 h3 ⊢
  simp [h1, h2, h3, h4]
theorem needwat_eq (h : Hl n ps) (hf : LowF n ps f) : F_need_water [.val (dH n ps), .val (dL (lot f))] none = some (.none, none) := by
  refine f_of rfl ?_
  simp [m_need_water, isloF h hf]
theorem deed_eq (hd : d.2 < n) : F_is_deed_of [.val (.int n), .val (eD d)] none = some (.bool true, none) := by
  obtain ⟨b, x⟩ := d
  have h1 := items_eq [.str (wd b), .int x] 2
  have h2 := terrof_eq (n := n) (t := x) hd
  refine f_of rfl ?_
  simp at h1
  simp [m_is_deed_of, eD, h1]
  refine ws_of (wd_in b) ?_
  simp [h2]
theorem scr_eq (hS : Dds n S) (hl : S.length < 1000) : F_is_script_of [.val (.int n), .val (dS S)] none = some (.bool true, none) := by
  refine f_of rfl ?_
  simp [m_is_script_of, dS]
  refine ⟨by omega, ?_⟩
  refine wp_alMap (fun _ => true) (fun d hd => ?_) ?_
  · simp [deed_eq (hS d hd)]
  · simp
theorem needscr_eq (hS : Dds n S) (hl : S.length < 1000) : F_need_script [.val (.int n), .val (dS S)] none = some (.none, none) := by
  refine f_of rfl ?_
  simp [m_need_script, scr_eq hS hl]
end
/-! ### the reaches of all deeds -/
def kD (d : Deed) : List Key := [.inr (wd d.1), .inl (d.2 : Int)]
theorem wd_inj {a b : Bool} (h : wd a = wd b) : a = b := by
  cases a <;> cases b
  · rfl
  · exact absurd h (by decide +kernel)
  · exact absurd h (by decide +kernel)
  · rfl
theorem kD_inj {d e : Deed} (h : kD d = kD e) : d = e := by
  obtain ⟨a, x⟩ := d
  obtain ⟨b, y⟩ := e
  have h1 : [(Sum.inr (wd a) : Key), .inl (x : Int)] = [.inr (wd b), .inl (y : Int)] := h
  rw [List.cons.injEq, List.cons.injEq] at h1
  have e1 := wd_inj (Sum.inr.inj h1.1)
  have e2 := Sum.inl.inj h1.2.1
  rw [e1, show x = y by omega]
theorem keyT_D (d : Deed) : keyT (eD d) = some (kD d) := rfl
def dkD (ps : List (Nat × Nat)) (l : List Deed) : List (List Key × PyData) := l.map fun d => (kD d, eM (rch ps d))
theorem putD_D (ps : List (Nat × Nat)) (l : List Deed) (d : Deed) (h : d ∉ l) : putD (dkD ps l) (kD d) (eM (rch ps d)) = dkD ps (l ++ [d]) := by
  unfold putD
  have : ((dkD ps l).any fun p => decide (p.1 = kD d)) = false := by
    rw [List.any_eq_false]
    intro p hp
    obtain ⟨e, he, rfl⟩ := List.mem_map.mp hp
    simp only [decide_eq_true_eq]
    intro z
    exact h (by rw [← kD_inj z]; exact he)
  rw [this]
  simp [dkD]
theorem vD_D (ps : List (Nat × Nat)) (d : Deed) : ∀ l : List Deed, d ∈ l → vD (dkD ps l) (kD d) = some (eM (rch ps d))
  | [], h => by cases h
  | e :: l, h => by
    unfold vD dkD
    rw [List.map_cons, List.find?_cons]
    by_cases q : kD e = kD d
    · rw [kD_inj q]; simp
    · simp only [decide_eq_false q]
      have hm : d ∈ l := (List.mem_cons.mp h).resolve_left fun z => q (by rw [z])
      exact vD_D ps d l hm
def allD (n : Nat) : List Deed := (List.range n).map (fun a => (true, a)) ++ (List.range n).map (fun a => (false, a))
theorem mem_allD {n : Nat} {d : Deed} : d ∈ allD n ↔ d.2 < n := by
  obtain ⟨b, x⟩ := d
  unfold allD
  rw [List.mem_append, List.mem_map, List.mem_map]
  constructor
  · rintro (⟨a, h, e⟩ | ⟨a, h, e⟩) <;> cases e <;> exact List.mem_range.mp h
  · intro h
    cases b with
    | true => exact .inl ⟨x, List.mem_range.mpr h, rfl⟩
    | false => exact .inr ⟨x, List.mem_range.mpr h, rfl⟩
theorem look_D {n : Nat} {ps : List (Nat × Nat)} {d : Deed} (h : d.2 < n) : OD.look (.t (dkD ps (allD n))) (eD d) = some (some (eM (rch ps d))) := by
  show (keyT (eD d)).map (vD (dkD ps (allD n))) = _
  rw [keyT_D, Option.map_some, vD_D ps d _ (mem_allD.mpr h)]
theorem rng_pre {n : Nat} {pre post : List Nat} {a : Nat} (h : List.range n = pre ++ a :: post) : a ∉ pre ∧ a < n ∧ pre.length ≤ n := by
  have nd := List.nodup_range (n := n)
  rw [h, List.nodup_append] at nd
  refine ⟨fun z => nd.2.2 a z a List.mem_cons_self rfl, List.mem_range.mp (by rw [h]; simp), ?_⟩
  have := congrArg List.length h
  simp at this
  omega
theorem reaches_eq {n : Nat} {ps : List (Nat × Nat)} (h : Hl n ps) : F_reaches [.val (dH n ps)] = some (.t (dkD ps (allD n))) := by
  have hn := h.wf.2.1
  refine fo_of rfl ?_
  simp [m_reaches, below_eq h.wf, above_eq h.wf, enD_rg]
  refine wp_forM (enc := fun a : Nat => PyData.tuple [.int (a : Nat), eM (dn ps a)]) (fun pre β => ∃ s2 s3, β = ⟨[.val (dH n ps), .obj (.t (dkD ps (pre.map fun a => (true, a)))), s2, s3], none⟩) (List.range n) ⟨_, _, rfl⟩ ?_ ?_
  · rintro pre a post β e ⟨s2, s3, rfl⟩
    obtain ⟨h1, h2, h3⟩ := rng_pre e
    simp
    have hk : OD.put (.t (dkD ps (pre.map fun a => (true, a)))) (.tuple [.str "pour", .int (a : Int)]) (eM (dn ps a)) = some (.t (dkD ps ((pre ++ [a]).map fun a => (true, a)))) := by
      have e1 : keyT (.tuple [.str "pour", .int (a : Int)]) = some (kD (true, a)) := rfl
      have e2 := putD_D ps (pre.map fun a => (true, a)) (true, a) (by simpa using h1)
      have e3 : (dkD ps (pre.map fun a => (true, a))).length < 16777216 := by simp [dkD]; omega
      simp only [OD.put, e1, if_pos e3]
      rw [show (eM (dn ps a)) = eM (rch ps (true, a)) from rfl, e2, List.map_append]
      rfl
    exact ws_of hk (by simp)
  · rintro β ⟨s2, s3, rfl⟩
    simp [above_eq h.wf, enD_rg]
    refine wp_forM (enc := fun a : Nat => PyData.tuple [.int (a : Nat), eM (up ps a)]) (fun pre β => ∃ s2 s3, β = ⟨[.val (dH n ps), .obj (.t (dkD ps ((List.range n).map (fun a => (true, a)) ++ pre.map fun a => (false, a)))), s2, s3], none⟩) (List.range n) ⟨s2, s3, by simp⟩ ?_ ?_
    · rintro pre a post β e ⟨s2, s3, rfl⟩
      obtain ⟨h1, h2, h3⟩ := rng_pre e
      simp
      have hk : OD.put (.t (dkD ps ((List.range n).map (fun a => (true, a)) ++ pre.map fun a => (false, a)))) (.tuple [.str "open", .int (a : Int)]) (eM (up ps a)) = some (.t (dkD ps ((List.range n).map (fun a => (true, a)) ++ (pre ++ [a]).map fun a => (false, a)))) := by
        have e1 : keyT (.tuple [.str "open", .int (a : Int)]) = some (kD (false, a)) := rfl
        have e2 := putD_D ps ((List.range n).map (fun a => (true, a)) ++ pre.map fun a => (false, a)) (false, a) (by simpa using h1)
        have e3 : (dkD ps ((List.range n).map (fun a => (true, a)) ++ pre.map fun a => (false, a))).length < 16777216 := by simp [dkD]; omega
        simp only [OD.put, e1, if_pos e3]
        rw [show (eM (up ps a)) = eM (rch ps (false, a)) from rfl, e2, List.map_append, List.append_assoc]
        rfl
      exact ws_of hk (by simp)
    · rintro β ⟨s2, s3, rfl⟩
      simp [allD]
/-! ### couples and waters, deed by deed -/
section
variable {n : Nat} {ps : List (Nat × Nat)} {f w r : Nat → Bool} {c e : Nat → Option Bool} {S T : List Deed} {d : Deed}
abbrev dM (c : Nat → Option Bool) : PyData := .tuple [eM (wetF c), eM (dryF c)]
theorem eM_c {f g : Nat → Bool} (h : ∀ i < 10, f i = g i) : ((mk f : Nat) : Int) = ((mk g : Nat) : Int) := congrArg (fun m : Nat => (m : Int)) (mk_eq.mpr h)
theorem cbeh_eq (c : Nat → Option Bool) (d : Deed) (r : Nat → Bool) : F_couple_behind [.val (dM c), .val (eD d), .val (eM r)] none = some (dM fun i => if r i then some d.1 else c i, none) := by
  obtain ⟨b, x⟩ := d
  refine f_of rfl ?_
  simp [m_couple_behind, eD]
  refine ws_of (wd_pour b) ?_
  cases b with
  | true =>
    simp [bOrM, bAndN]
    refine ⟨eM_c fun i _ => ?_, eM_c fun i _ => ?_⟩
    · simp only [wetF]; cases hr : r i <;> rcases hc : c i with _ | _ | _ <;> simp [hr, hc]
    · simp only [dryF]; cases hr : r i <;> rcases hc : c i with _ | _ | _ <;> simp [hr, hc]
  | false =>
    simp [bOrM, bAndN]
    refine ⟨eM_c fun i _ => ?_, eM_c fun i _ => ?_⟩
    · simp only [wetF]; cases hr : r i <;> rcases hc : c i with _ | _ | _ <;> simp [hr, hc]
    · simp only [dryF]; cases hr : r i <;> rcases hc : c i with _ | _ | _ <;> simp [hr, hc]
theorem wbeh_eq (w : Nat → Bool) (d : Deed) (r : Nat → Bool) : F_wet_behind [.val (eM w), .val (eD d), .val (eM r)] none = some (eM fun i => if r i then d.1 else w i, none) := by
  obtain ⟨b, x⟩ := d
  refine f_of rfl ?_
  simp [m_wet_behind, eD]
  refine ws_of (wd_pour b) ?_
  cases b with
  | true =>
    simp [bOrM]
    exact eM_c fun i _ => by cases hr : r i <;> cases hw : w i <;> simp [hr, hw]
  | false =>
    simp [bAndN]
    exact eM_c fun i _ => by cases hr : r i <;> cases hw : w i <;> simp [hr, hw]
theorem cmasks_eq (h : Hl n ps) (hS : Dds n S) (hl : S.length < 1000) : F_couple_masks [.val (dH n ps), .val (dS S)] none = some (dM (cp ps S), none) := by
  refine f_of rfl ?_
  simp [m_couple_masks, reaches_eq h, dS]
  refine wp_forM (enc := eD) (fun pre β => ∃ s4, β = ⟨[.val (dH n ps), .val (.tuple (S.map eD)), .obj (.t (dkD ps (allD n))), .val (dM (cp ps pre)), s4], none⟩) S ⟨.un, ?_⟩ ?_ ?_
  · have e1 : mk (wetF (cp ps [])) = 0 := by rw [zero_mk]; exact mk_eq.mpr fun i _ => rfl
    have e2 : mk (dryF (cp ps [])) = 0 := by rw [zero_mk]; exact mk_eq.mpr fun i _ => rfl
    simp [e1, e2]
  · rintro pre d post β e ⟨s4, rfl⟩
    have hd : d.2 < n := hS d (by rw [e]; simp)
    simp [look_D hd, cbeh_eq]
    have e : (fun i => if rch ps d i = true then some d.1 else cp ps pre i) = cp ps (pre ++ [d]) := funext fun i => (cp_snoc ps pre d i).symm
    rw [e]
    exact ⟨rfl, rfl⟩
  · rintro β ⟨s4, rfl⟩
    simp
theorem coup_eq (h : Hl n ps) (hS : Dds n S) (hl : S.length < 1000) : F_couple_of [.val (dH n ps), .val (dS S)] none = some (dC (cp ps S), none) := by
  have h1 := needscr_eq hS hl
  refine f_of rfl ?_
  simp [m_couple_of, need_eq h]
  have i0 : dIx (dH n ps) (.int 0) = some (.int n) := atI_0
  simp [i0, h1, cmasks_eq h hS hl]
  simp [lot_of_eq, dC]
theorem run_eq (h : Hl n ps) (hw : LowF n ps w) (hS : Dds n S) (hl : S.length < 1000) : F_run [.val (dH n ps), .val (dL (lot w)), .val (dS S)] none = some (dL (lot (ap (cp ps S) w)), none) := by
  have h1 := needscr_eq hS hl
  have i0 : dIx (dH n ps) (.int 0) = some (.int n) := atI_0
  refine f_of rfl ?_
  simp [m_run, need_eq h, needwat_eq h hw, i0, h1, reaches_eq h, mlot_eq]
  rw [show dIt (dS S) = some (S.map eD) from rfl]
  simp
  refine wp_forM (enc := eD) (fun pre β => ∃ s5, β = ⟨[.val (dH n ps), .val (dL (lot w)), .val (dS S), .obj (.t (dkD ps (allD n))), .val (eM (ap (cp ps pre) w)), s5], none⟩) S ⟨.un, ?_⟩ ?_ ?_
  · rfl
  · rintro pre d post β e ⟨s5, rfl⟩
    have hd : d.2 < n := hS d (by rw [e]; simp)
    simp [look_D hd, wbeh_eq]
    refine eM_c fun i _ => ?_
    simp only [ap, cp_snoc]
    cases hr : rch ps d i <;> simp [hr]
  · rintro β ⟨s5, rfl⟩
    simp [lot_of_eq]
end
end Md
end
section
set_option Elab.async false
set_option linter.all false
set_option maxRecDepth 100000
set_option maxHeartbeats 2000000
namespace Md
open PySem PySem.Spec PyProof.Rows L2 Pd P14
/-- what is told of the places below n, as a lot -/
theorem filt_lot {n : Nat} {g : Nat → Bool} (hn : n ≤ 10) (h : ∀ i < 10, g i = true → i < n) : (List.range n).filter g = lot g := by
  refine List.Perm.eq_of_pairwise (le := fun a b : Nat => a < b) (fun a b _ _ h1 h2 => by omega) ((List.pairwise_lt_range (n := n)).filter _) (lot_asc g) ?_
  refine (List.perm_ext_iff_of_nodup ((List.nodup_range (n := n)).filter _) ((lot_asc g).imp fun h => Nat.ne_of_lt h)).mpr fun x => ?_
  rw [List.mem_filter, List.mem_range, lot_mem]
  exact ⟨fun ⟨h1, h2⟩ => ⟨by omega, h2⟩, fun ⟨h1, h2⟩ => ⟨h x h1 h2, h2⟩⟩
theorem over_eq {n : Nat} {ps : List (Nat × Nat)} (h : Hl n ps) {x : Nat} (hx : x < n) : F__law_over [.val (dH n ps), .val (eN x)] none = some (dL (lot (up ps x)), none) := by
  refine f_of rfl ?_
  simp [m__law_over, dH, dPs]
  have hl := srt_len h.wf h.st
  refine ⟨by omega, ?_⟩
  refine wp_lcMap (fun p => decide (p.1 = x)) (fun p => eN p.2) (fun p hp => ?_) ?_
  · obtain ⟨a, b⟩ := p
    simp [eP]
    have e : dEq (.int (a : Int)) (eN x) = some (decide (a = x)) := by
      show dEq (.int (a : Int)) (.int (x : Int)) = _
      rw [dEq_i]
      congr 1
      exact decide_eq_decide.mpr Int.ofNat_inj
    simp [e]
    by_cases hb : a = x
    · simp [hb, eN]
    · simp [hb]
  · have hf := List.length_filter_le (fun p : Nat × Nat => decide (p.1 = x)) ps
    simp
    refine ⟨by omega, ?_⟩
    have e : eN x :: (ps.filter fun p => decide (p.1 = x)).map (fun p => eN p.2) = (x :: (ps.filter fun p => decide (p.1 = x)).map (·.2)).map eN := by
      rw [List.map_cons, List.map_map]; rfl
    have hw := h.wf.2.2
    have hn := h.wf.2.1
    have nd : (x :: (ps.filter fun p => decide (p.1 = x)).map (·.2)).Nodup := by
      refine List.nodup_cons.mpr ⟨fun z => ?_, ?_⟩
      · obtain ⟨p, hp, e⟩ := List.mem_map.mp z
        obtain ⟨h1, h2⟩ := List.mem_filter.mp hp
        exact (hw p h1).2.2 ((of_decide_eq_true h2).trans e.symm)
      · refine List.pairwise_map.mpr ?_
        refine List.Pairwise.imp_of_mem (fun {p q} hp hq hlt e => ?_) (List.Pairwise.filter _ (srt_nodup h.st))
        have h1 := of_decide_eq_true (List.mem_filter.mp hp).2
        have h2 := of_decide_eq_true (List.mem_filter.mp hq).2
        exact hlt (Prod.ext (h1.trans h2.symm) e)
    have hb : ∀ y ∈ x :: (ps.filter fun p => decide (p.1 = x)).map (·.2), y < 10 := fun y hy => by
      rcases List.mem_cons.mp hy with e | hy
      · omega
      · obtain ⟨p, hp, e⟩ := List.mem_map.mp hy
        have := hw p (List.mem_filter.mp hp).1
        omega
    rw [e, dSort_lot nd hb]
    have el : lot (fL (x :: (ps.filter fun p => decide (p.1 = x)).map (·.2))) = lot (up ps x) := by
      unfold lot
      refine List.filter_congr fun i hi => ?_
      show decide (i ∈ x :: _) = up ps x i
      unfold up
      rw [← Bool.decide_or]
      refine decide_eq_decide.mpr ?_
      rw [List.mem_cons, List.mem_map]
      refine or_congr Iff.rfl ⟨?_, fun q => ⟨(x, i), List.mem_filter.mpr ⟨q, decide_eq_true rfl⟩, rfl⟩⟩
      rintro ⟨⟨a, b⟩, hp, rfl⟩
      obtain ⟨h1, h2⟩ := List.mem_filter.mp hp
      have := of_decide_eq_true h2
      simp only at this
      subst this
      exact h1
    rw [el]
    simp [dL]
section
variable {n : Nat} {ps : List (Nat × Nat)} {f w r : Nat → Bool} {c e : Nat → Option Bool} {S T : List Deed} {d : Deed}
theorem und_lot {x : Nat} : und ps x = lot (dn ps x) := rfl
theorem lot_len (f : Nat → Bool) : (lot f).length ≤ 10 := by
  unfold lot
  refine Nat.le_trans (List.length_filter_le _ _) ?_
  rw [List.length_range]; exact Nat.le_refl _
/-- places put into a dict, one by one -/
theorem put_all {gt : G1} {body : MS} {b : Bool} {Q : Out → Ab → Prop} (st : List (Nat × Bool) → Sl → Ab) (l : List Nat) (es0 : List (Nat × Bool)) (s0 : Sl) (hl : es0.length + l.length < 1000000)
    (hstep : ∀ x ∈ l, ∀ es s, es.length < 1000000 → ws (gt (eN x) (st es s)) fun α1 => wp body α1 fun o α2 => o = .nx ∧ ∃ s', α2 = st (putN es x b) s')
    (he : ∀ es s, es.length ≤ es0.length + l.length → ((es0.map (·.1)).Nodup → (es.map (·.1)).Nodup) → (∀ y, getN es y = if y ∈ l then some b else getN es0 y) → Q .nx (st es s)) : wp (forGo gt body (l.map eN)) (st es0 s0) Q := by
  refine wp_forM (enc := eN) (fun pre β => ∃ es s, β = st es s ∧ es.length ≤ es0.length + pre.length ∧ ((es0.map (·.1)).Nodup → (es.map (·.1)).Nodup) ∧ ∀ y, getN es y = if y ∈ pre then some b else getN es0 y) l ⟨es0, s0, rfl, by simp, id, fun y => by simp⟩ ?_ ?_
  · rintro pre a post β e ⟨es, s, rfl, h1, h2, h3⟩
    have hle := congrArg List.length e
    simp at hle
    obtain ⟨α1, k1, k2⟩ := hstep a (by rw [e]; simp) es s (by omega)
    refine ⟨α1, k1, wp_mono k2 fun o α2 ⟨ho, s', hs⟩ => ?_⟩
    subst ho
    have hp := putN_len es a b
    refine ⟨_, s', hs, by simp; omega, fun q => putN_nodup (h2 q), fun y => ?_⟩
    rw [getN_put, h3]
    by_cases e1 : y ∈ pre <;> by_cases e2 : y = a <;> simp [e1, e2]
  · rintro β ⟨es, s, rfl, h1, h2, h3⟩
    exact he es s h1 h2 h3
theorem dSort_keys {es : List (Nat × Bool)} (h : (es.map (·.1)).Nodup) (hb : ∀ x, getN es x ≠ none → x < 10) : dSort (es.map fun p => eN p.1) = some ((lot fun i => (getN es i).isSome).map eN) := by
  have e : (es.map fun p => eN p.1) = (es.map (·.1)).map eN := by rw [List.map_map]; rfl
  rw [e, dSort_lot h fun x hx => hb x (key_iff.mp hx)]
  refine congrArg (fun l => some (List.map eN l)) (lot_congr fun i _ => ?_)
  show decide (i ∈ es.map (·.1)) = _
  cases q : getN es i with
  | none => exact decide_eq_false fun z => key_iff.mp z q
  | some b => exact decide_eq_true (key_iff.mpr (by rw [q]; simp))
theorem dn_lt (h : Hl n ps) {x y : Nat} (hx : x < n) (hy : dn ps x y = true) : y < n := rchd_lt h.trn (d := (true, x)) hx hy
theorem up_lt (h : Hl n ps) {x y : Nat} (hx : x < n) (hy : up ps x y = true) : y < n := rchd_lt h.trn (d := (false, x)) hx hy
theorem lot_dec {g : Nat → Bool} {y : Nat} (hg : g y = true → y < 10) : decide (y ∈ lot g) = g y := by
  cases q : g y with
  | true => exact decide_eq_true (lot_mem.mpr ⟨hg q, q⟩)
  | false => exact decide_eq_false fun z => by rw [(lot_mem.mp z).2] at q; cases q
theorem closure_eq (h : Hl n ps) (hf : ∀ i, f i = true → i < n) : F__law_closure [.val (dH n ps), .val (dL (lot f)), .val (.bool true)] none = some (dL (lot (un (dn ps) f)), none) := by
  have hn := h.wf.2.1
  refine f_of rfl ?_
  simp [m__law_closure, dL]
  rw [nil_B]
  refine wp_forM (enc := eN) (fun pre β => ∃ es s4 s5, β = ⟨[.val (dH n ps), .val (.tuple ((lot f).map eN)), .val (.bool true), .obj (.k (dkB es)), s4, s5], none⟩ ∧ es.length ≤ 10 * pre.length ∧ (es.map (·.1)).Nodup ∧ ∀ y, getN es y = if pre.any (fun a => dn ps a y) then some true else none) (lot f) ⟨[], _, _, rfl, by simp, by simp, fun y => by simp [getN]⟩ ?_ ?_
  · rintro pre x post β e ⟨es, s4, s5, rfl, h1, h2, h3⟩
    have hx : x < n := hf x (lot_mem.mp (by rw [e]; simp : x ∈ lot f)).2
    have hpl := congrArg List.length e
    have := lot_len f
    simp at hpl
    have hu := under_eq h hx
    rw [und_lot] at hu
    have hll := lot_len (dn ps x)
    simp [eN] at hu ⊢
    simp [hu]
    rw [show dIt (dL (lot (dn ps x))) = some ((lot (dn ps x)).map eN) from rfl]
    simp
    refine put_all (b := true) (fun es s => ⟨[.val (dH n ps), .val (.tuple ((lot f).map eN)), .val (.bool true), .obj (.k (dkB es)), .val (.int x), s], none⟩) (lot (dn ps x)) es s5 (by omega) (fun y hy es s hes => ?_) fun es' s hl hnd hg => ?_
    · simp [show es.length < 16777216 by omega]
    · refine wp_nx.mpr ?_
      refine ⟨es', _, s, rfl, by simp; omega, hnd h2, fun y => ?_⟩
      have hd := lot_dec (g := dn ps x) (y := y) fun q => by have := dn_lt h hx q; omega
      rw [hg, h3 y]
      cases q : dn ps x y with
      | true => rw [q] at hd; simp [of_decide_eq_true hd, q]
      | false => rw [q] at hd; simp [of_decide_eq_false hd, q]
  · rintro β ⟨es, s4, s5, rfl, h1, h2, h3⟩
    have hb : ∀ x, getN es x ≠ none → x < 10 := fun x hx => by
      rw [h3] at hx
      cases q : (lot f).any fun a => dn ps a x with
      | false => rw [q] at hx; exact absurd rfl hx
      | true =>
        obtain ⟨a, ha, hd⟩ := List.any_eq_true.mp q
        have := dn_lt h (hf a (lot_mem.mp ha).2) hd
        omega
    have e : lot (fun i => (getN es i).isSome) = lot (un (dn ps) f) := lot_congr fun i _ => by
      rw [h3]
      show _ = (lot f).any fun a => dn ps a i
      cases (lot f).any fun a => dn ps a i <;> rfl
    simp
    rw [dSort_keys h2 hb, e]
    simp
theorem un_low (h : Hl n ps) (hf : ∀ i, f i = true → i < n) : LowF n ps (un (dn ps) f) := by
  refine ⟨fun i hi => ?_, fun i j hi hp => ?_⟩
  · obtain ⟨a, ha, hd⟩ := List.any_eq_true.mp hi
    exact dn_lt h (hf a (lot_mem.mp ha).2) hd
  · obtain ⟨a, ha, hd⟩ := List.any_eq_true.mp hi
    refine List.any_eq_true.mpr ⟨a, ha, ?_⟩
    rw [dn_iff] at hd ⊢
    exact h.trn.le hp hd
/-- a drawn water -/
theorem water_ok {N : Nat} {δ : Dk} (ok : Ok N δ) (hN : N + 100 < 2 ^ 60) (h : Hl n ps) : ∃ (w : Nat → Bool) (δ' : Dk), F__law_water [.dck, .val (dH n ps)] (some δ) = some (dL (lot w), some δ') ∧ Ok (N + n) δ' ∧ LowF n ps w := by
  have hn := h.wf.2.1
  have i0 : dIx (dH n ps) (.int 0) = some (.int n) := atI_0
  obtain ⟨r, d', e, w, rfl, δ', rfl, ho, hp⟩ := f_rel (n := 2) (m := 3) (body := m__law_water) (as := [.dck, .val (dH n ps)]) (δ := some δ) rfl (P := fun r d => ∃ w : Nat → Bool, r = dL (lot w) ∧ ∃ δ' : Dk, d = some δ' ∧ Ok (N + n) δ' ∧ LowF n ps w) (by
    simp [m__law_water, i0]
    refine ws_of (dR1_n (by omega)) ⟨by simp; omega, ?_⟩
    refine wp_mono (wp_lcE (c := 1) (enc := eN) (Y := fun i y => y = eN i) (List.range n) N δ ok (by simp; omega) fun i hi M δ1 ok hM => ?_) ?_
    · obtain ⟨v, δ2, e2, ok2, hv⟩ := draw_ok ok (by omega) (k := 3) (by omega) (by omega)
      have e2 : F__law_draw [.dck, .val (.int 3)] (some δ1) = some (.int v, some δ2) := e2
      simp [eN, e2]
      exact ⟨fun _ => ok2, fun _ => ok2⟩
    · rintro ys α2 ⟨δ', l', rfl, ok, hs, hf⟩
      have := F2.eqm hf
      subst this
      have hl : Lot n l' := ⟨List.pairwise_lt_range.sublist hs, fun x hx => List.mem_range.mp (hs.subset hx)⟩
      have hg : ∀ i, fL l' i = true → i < n := fun i hi => hl.2 i (of_decide_eq_true hi)
      have hc := closure_eq h hg
      rw [hl.lot hn] at hc
      have hc : F__law_closure [.val (dH n ps), .val (.tuple (l'.map eN)), .val (.bool true)] none = _ := hc
      simp [hc]
      exact ⟨_, rfl, by simpa using ok, un_low h hg⟩)
  exact ⟨w, δ', e, ho, hp⟩
theorem pickT_ok {N : Nat} {δ : Dk} (h : Ok N δ) (hN : N < 2 ^ 60) {ds : List PyData} (h0 : 0 < ds.length) (h1 : ds.length < 1000000) : ∃ (i : Nat) (hi : i < ds.length) (δ' : Dk), F__law_pick [.dck, .val (.tuple ds)] (some δ) = some (ds[i], some δ') ∧ Ok (N + 1) δ' := by
  obtain ⟨v, δ', e, hv, ok⟩ := draw_ok h hN (k := ds.length) h0 (by omega)
  refine ⟨v, by omega, δ', ?_, by assumption⟩
  refine f_of rfl ?_
  simp [m__law_pick, e]
  exact ws_of (atI_nat (List.getElem?_eq_getElem ok)) ⟨.inl rfl, rfl⟩
theorem pickW_ok {N : Nat} {δ : Dk} (h : Ok N δ) (hN : N < 2 ^ 60) : ∃ (b : Bool) (δ' : Dk), F__law_pick [.dck, .val (.tuple [.str "pour", .str "open"])] (some δ) = some (.str (wd b), some δ') ∧ Ok (N + 1) δ' := by
  obtain ⟨i, hi, δ', e, ok⟩ := pickT_ok h hN (ds := [.str "pour", .str "open"]) (by simp) (by simp)
  have hi' : i = 0 ∨ i = 1 := by have : i < 2 := hi; omega
  rcases hi' with rfl | rfl
  · exact ⟨true, δ', e, ok⟩
  · exact ⟨false, δ', e, ok⟩
def IsD (n : Nat) (y : PyData) : Prop := ∃ d : Deed, d.2 < n ∧ y = eD d
/-- a drawn script -/
theorem script_ok {N : Nat} {δ : Dk} (ok : Ok N δ) {m : Nat} (hm : m < 1000) (hN : N + 5000 < 2 ^ 60) (h0 : 0 < n) (hn : n ≤ 10) : ∃ (S : List Deed) (δ' : Dk), F__law_script [.dck, .val (.int n), .val (.int m)] (some δ) = some (dS S, some δ') ∧ Ok (N + 1 + 2 * m) δ' ∧ Dds n S ∧ S.length ≤ m := by
  obtain ⟨r, d', e, S, rfl, δ', rfl, ho, hp, hl⟩ := f_rel (n := 3) (m := 4) (body := m__law_script) (as := [.dck, .val (.int n), .val (.int m)]) (δ := some δ) rfl (P := fun r d => ∃ S : List Deed, r = dS S ∧ ∃ δ' : Dk, d = some δ' ∧ Ok (N + 1 + 2 * m) δ' ∧ Dds n S ∧ S.length ≤ m) (by
    obtain ⟨v, δ0, e0, ok0, hv⟩ := draw_ok ok (by omega) (k := m + 1) (by omega) (by omega)
    have e0 : F__law_draw [.dck, .val (.int ((m : Int) + 1))] (some δ) = some (.int v, some δ0) := e0
    simp [m__law_script, e0]
    refine ws_of (dR1_n (by omega)) ⟨by simp; omega, ?_⟩
    refine wp_mono (wp_lcE (c := 2) (enc := eN) (Y := fun i y => IsD n y) (List.range v) (N + 1) δ0 ok0 (by simp; omega) fun i hi M δ1 ok hM => ?_) ?_
    · obtain ⟨b, δ2, e2, ok2⟩ := pickW_ok ok (by omega)
      obtain ⟨x, δ3, e3, ok3, hx⟩ := draw_ok ok2 (by omega) (k := n) h0 (by omega)
      have e3 : F__law_draw [.dck, .val (.int (n : Int))] (some δ2) = some (.int x, some δ3) := e3
      simp [eN, e2, e3]
      exact ⟨⟨(b, x), hx, rfl⟩, ok3⟩
    · rintro ys α2 ⟨δ', l', rfl, ok, hs, hf⟩
      obtain ⟨S, rfl, hS⟩ := F2.map (e := eD) (P := fun d : Deed => d.2 < n) (fun a y h => h) hf
      have hl := hf.len
      have hl2 := hs.length_le
      simp at hl hl2 ok ⊢
      exact ⟨S, rfl, ok.mono (by omega), hS, by omega⟩)
  exact ⟨S, δ', e, ho, hp, hl⟩
end
end Md
end
section
set_option Elab.async false
set_option linter.all false
set_option maxRecDepth 100000
set_option maxHeartbeats 2000000
namespace Md
open PySem PySem.Spec PyProof.Rows L2 Pd P14
section
variable {n : Nat} {ps : List (Nat × Nat)} {f w r : Nat → Bool} {c e : Nat → Option Bool} {S T : List Deed} {d : Deed}
theorem lot_rch (h : Hl n ps) {d : Deed} (hd : d.2 < n) (y : Nat) : decide (y ∈ lot (rch ps d)) = rch ps d y := lot_dec fun q => by have := rchd_lt h.trn hd q; have := h.wf.2.1; omega
/-- what a deed reaches, as the law says -/
theorem reach_if (h : Hl n ps) {b : Bool} {x : Nat} (hx : x < n) {α : Ab} {c1 : M Bool} {t1 t2 : M PyData} {Q : PyData → Ab → Prop} (h1 : wp c1 α fun k α1 => k = b ∧ α1 = α) (h2 : wp t1 α fun d α1 => d = dL (lot (dn ps x)) ∧ α1 = α) (h3 : wp t2 α fun d α1 => d = dL (lot (up ps x)) ∧ α1 = α) (q : Q (dL (lot (rch ps (b, x)))) α) : wp (mIf c1 t1 t2) α Q := by
  rw [wp_mIf]
  refine wp_mono h1 fun k α1 ⟨e1, e2⟩ => ?_
  subst e1 e2
  cases k with
  | true => exact ⟨fun _ => wp_mono h2 fun d α2 ⟨e3, e4⟩ => by subst e3 e4; exact q, fun z => by cases z⟩
  | false => exact ⟨fun z => (by cases z), fun _ => wp_mono h3 fun d α2 ⟨e3, e4⟩ => by subst e3 e4; exact q⟩
def okSl (s : Sl) : Bool := match s with | .obj _ => false | .dck => false | _ => true
theorem okSl_m {s : Sl} (h : okSl s = true) : (match some s with | some (Sl.obj o) => false | some Sl.dck => false | x => true) = true := by cases s <;> first | rfl | cases h
/-- where the last deed that reaches a place stands -/
def LastP (ps : List (Nat × Nat)) (S : List Deed) (x : Nat) (v : Int) : Prop := (cp ps S x = none ∧ v = -1) ∨ ∃ (k : Nat) (d : Deed), v = k ∧ S[k]? = some d ∧ cp ps S x = some d.1
theorem wth_lss {a b g : Nat → Bool} : wth (lss (lot a) (lot b)) (lot g) = lot (fun i => a i && !b i || g i) := by
  unfold wth
  refine lot_congr fun i hi => ?_
  show decide (i ∈ _ ++ _) = _
  have e : (i ∈ lss (lot a) (lot b) ++ lot g) ↔ ((a i = true ∧ ¬ b i = true) ∨ g i = true) := by
    rw [List.mem_append, lss, List.mem_filter]
    simp [hi, lot_mem]
  rw [Bool.eq_iff_iff, decide_eq_true_iff, e]
  simp
theorem lot_lss {m : Nat} {a b : Nat → Bool} : lss (lot a) (lot b) = lot (fun i => a i && !b i) := by
  unfold lss lot
  rw [List.filter_filter]
  refine List.filter_congr fun i hi => ?_
  have hi := List.mem_range.mp hi
  have := fL_lot b i
  unfold lot at this
  rw [this]
  cases a i <;> simp [hi]
end
end Md
end
section
set_option Elab.async false
set_option linter.all false
set_option maxRecDepth 100000
set_option maxHeartbeats 4000000
namespace Md
open PySem PySem.Spec PyProof.Rows L2 Pd P14
abbrev allF (n : Nat) : Nat → Bool := fun i => decide (i < n)
abbrev noF : Nat → Bool := fun _ => false
theorem all_lot {n : Nat} (hn : n ≤ 10) : lot (allF n) = List.range n := by
  rw [← filt_lot hn (g := allF n) fun i _ hi => of_decide_eq_true hi]
  rw [List.filter_eq_self.mpr]
  intro i hi
  exact decide_eq_true (List.mem_range.mp hi)
theorem no_lot : dL (lot noF) = .tuple [] := by
  have : lot noF = [] := by decide
  rw [this]; rfl
theorem noC : dC (fun _ => none) = .tuple [.tuple [], .tuple []] := by
  have h1 : lot (wetF fun _ => none) = [] := by decide
  have h2 : lot (dryF fun _ => none) = [] := by decide
  unfold dC
  rw [h1, h2]; rfl
theorem rkF {c : Nat} (f : Nat → Bool) : Rk (c + 1) 153 (dL (lot f)) := rk_dL (b := 10) (k := 10) (fun x hx => (lot_mem.mp hx).1) (by decide) (lot_len f)
theorem rkC {c : Nat} (e : Nat → Option Bool) : Rk (c + 2) 313 (dC e) := rk_two (c := c + 1) (s := 153) fun x hx => by
  simp at hx
  rcases hx with rfl | rfl <;> exact rkF _
theorem dAdd_S {S T : List Deed} (h1 : S.length < 1000) (h2 : T.length < 1000) : dAdd (dS S) (dS T) = some (dS (S ++ T)) := by
  unfold dS
  rw [dAdd_t, if_pos (by simp; omega), List.map_append]
theorem dMul3t (d : PyData) : dMul (.tuple [d]) (.int 3) = some (.tuple [d, d, d]) := rfl
section
variable {n : Nat} {ps : List (Nat × Nat)} {f w r : Nat → Bool} {c e : Nat → Option Bool} {S T : List Deed} {d : Deed} {N : Nat} {δ : Dk}
end
end Md
end
section
set_option Elab.async false
set_option linter.all false
set_option maxRecDepth 100000
set_option maxHeartbeats 2000000
namespace Md
open PySem PySem.Spec PyProof.Rows L2 Pd
/-! ### the last true -/
def lastB : List Bool → Option Nat
  | [] => none
  | b :: l => match lastB l with | some k => some (k + 1) | none => if b then some 0 else none
theorem lastB_cons (b : Bool) (l : List Bool) : lastB (b :: l) = match lastB l with | some k => some (k + 1) | none => if b then some 0 else none := rfl
theorem lastB_none : ∀ {l : List Bool}, lastB l = none → ∀ j : Nat, l[j]? ≠ some true
  | [], _, j => by simp
  | b :: l, h, j => by
    unfold lastB at h
    split at h
    · cases h
    · rename_i e
      split at h
      · cases h
      · rename_i hb
        cases j with
        | zero => simpa using hb
        | succ j => simpa using lastB_none e j
theorem lastB_some : ∀ {l : List Bool} {k : Nat}, lastB l = some k → l[k]? = some true ∧ ∀ j : Nat, k < j → l[j]? ≠ some true
  | [], k, h => by cases h
  | b :: l, k, h => by
    unfold lastB at h
    split at h
    · rename_i m e
      cases h
      obtain ⟨h1, h2⟩ := lastB_some e
      refine ⟨by simpa using h1, fun j hj => ?_⟩
      cases j with
      | zero => omega
      | succ j => simpa using h2 j (by omega)
    · rename_i e
      split at h
      · rename_i hb
        cases h
        refine ⟨by simpa using hb, fun j hj => ?_⟩
        cases j with
        | zero => omega
        | succ j => simpa using lastB_none e j
      · cases h
theorem lastB_eq {l : List Bool} {k : Nat} (h : l[k]? = some true) (h2 : ∀ j : Nat, k < j → l[j]? ≠ some true) : lastB l = some k := by
  cases e : lastB l with
  | none => exact absurd h (lastB_none e k)
  | some m =>
    obtain ⟨h3, h4⟩ := lastB_some e
    have h5 : ¬ k < m := fun z => h2 m z h3
    have h6 : ¬ m < k := fun z => h4 k z h
    rw [show m = k by omega]
theorem lastB_no {l : List Bool} (h : ∀ j : Nat, l[j]? ≠ some true) : lastB l = none := by
  cases e : lastB l with
  | none => rfl
  | some m => exact absurd (lastB_some e).1 (h m)
theorem lastB_snoc (l : List Bool) (b : Bool) : lastB (l ++ [b]) = if b then some l.length else lastB l := by
  cases b with
  | true =>
    refine lastB_eq (by simp) fun j hj => ?_
    rw [List.getElem?_eq_none (by simp; omega)]; simp
  | false =>
    show _ = lastB l
    cases e : lastB l with
    | none =>
      refine lastB_no fun j => ?_
      by_cases hj : j < l.length
      · rw [List.getElem?_append_left hj]; exact lastB_none e j
      · rw [List.getElem?_append_right (by omega)]
        cases q : j - l.length with
        | zero => simp
        | succ m => simp
    | some k =>
      obtain ⟨h1, h2⟩ := lastB_some e
      have hk := (List.getElem?_eq_some_iff.mp h1).1
      refine lastB_eq (by rw [List.getElem?_append_left hk]; exact h1) fun j hj => ?_
      by_cases hj2 : j < l.length
      · rw [List.getElem?_append_left hj2]; exact h2 j hj
      · rw [List.getElem?_append_right (by omega)]
        cases q : j - l.length with
        | zero => simp
        | succ m => simp
theorem lastB_take {l : List Bool} {k : Nat} (h : lastB l = some k) : lastB (l.take (k + 1)) = some k := by
  obtain ⟨h1, h2⟩ := lastB_some h
  refine lastB_eq (by rw [List.getElem?_take]; simp [h1]) fun j hj => ?_
  rw [List.getElem?_take]
  simp [show ¬ j < k + 1 by omega]
theorem lastB_drop {l : List Bool} {k a : Nat} (h : lastB l = some k) (ha : a ≤ k) : lastB (l.drop a) = some (k - a) := by
  obtain ⟨h1, h2⟩ := lastB_some h
  refine lastB_eq (by rw [List.getElem?_drop, show a + (k - a) = k by omega, h1]) fun j hj => ?_
  rw [List.getElem?_drop]
  exact h2 _ (by omega)
theorem lastB_lt {l : List Bool} {k : Nat} (h : lastB l = some k) : k < l.length := (List.getElem?_eq_some_iff.mp (lastB_some h).1).1
def oD : Option Nat → PyData
  | none => .none
  | some k => .int (k : Nat)
/-- where the last deed that reaches a place stands -/
def lastF (ps : List (Nat × Nat)) (S : List Deed) (x : Nat) : Option Nat := lastB (S.map fun d => rch ps d x)
theorem cp_cons (ps : List (Nat × Nat)) (d : Deed) (S : List Deed) (x : Nat) : cp ps (d :: S) x = (cp ps S x).or (if rch ps d x then some d.1 else none) := foldl_or ps x S _
theorem cp_last (ps : List (Nat × Nat)) (x : Nat) : ∀ S : List Deed, cp ps S x = (lastF ps S x).bind fun k => (S[k]?).map (·.1)
  | [] => rfl
  | d :: S => by
    have ih := cp_last ps x S
    rw [cp_cons, ih]
    unfold lastF
    rw [List.map_cons]
    rw [lastB_cons]
    cases e : lastB (S.map fun d => rch ps d x) with
    | none =>
      simp
      cases rch ps d x <;> simp
    | some k =>
      have hk := lastB_lt e
      simp at hk
      simp [hk]
theorem lastF_none {ps : List (Nat × Nat)} {S : List Deed} {x : Nat} (h : lastF ps S x = none) : cp ps S x = none := by rw [cp_last, h]; rfl
theorem lastF_some {ps : List (Nat × Nat)} {S : List Deed} {x k : Nat} (h : lastF ps S x = some k) : ∃ d, S[k]? = some d ∧ rch ps d x = true ∧ cp ps S x = some d.1 ∧ k < S.length := by
  have hl := lastB_lt h
  simp at hl
  have h1 := (lastB_some h).1
  rw [List.getElem?_map, List.getElem?_eq_getElem hl] at h1
  refine ⟨S[k], List.getElem?_eq_getElem hl, by simpa using h1, ?_, hl⟩
  rw [cp_last, h]
  simp [hl]
theorem lastF_drop {ps : List (Nat × Nat)} {S : List Deed} {x k a : Nat} (h : lastF ps S x = some k) (ha : a ≤ k) : lastF ps (S.drop a) x = some (k - a) := by
  unfold lastF at *
  rw [List.map_drop]
  exact lastB_drop h ha
theorem lastF_take {ps : List (Nat × Nat)} {S : List Deed} {x k : Nat} (h : lastF ps S x = some k) : lastF ps (S.take (k + 1)) x = some k := by
  unfold lastF at *
  rw [List.map_take]
  exact lastB_take h
theorem lastF_snoc (ps : List (Nat × Nat)) (S : List Deed) (d : Deed) (x : Nat) : lastF ps (S ++ [d]) x = if rch ps d x then some S.length else lastF ps S x := by
  unfold lastF
  rw [List.map_append]
  show lastB (_ ++ [rch ps d x]) = _
  rw [lastB_snoc]
  simp
/-- the same deeds reach -/
theorem lastF_map {ps qs : List (Nat × Nat)} {S : List Deed} {x y : Nat} {g : Deed → Deed} (h : ∀ d ∈ S, rch qs (g d) y = rch ps d x) : lastF qs (S.map g) y = lastF ps S x := by
  unfold lastF
  rw [List.map_map]
  exact congrArg lastB (List.map_congr_left fun d hd => h d hd)
theorem zip_at {A : Type} {S : List A} {pre post : List (A × Nat)} {d : A} {k : Nat} (e : S.zipIdx = pre ++ (d, k) :: post) : k = pre.length ∧ S[k]? = some d ∧ pre.map (·.1) = S.take k := by
  have hk : k = pre.length := by
    have := congrArg (fun l : List (A × Nat) => (l[pre.length]?).map (·.2)) e
    simp only [List.getElem?_zipIdx, List.getElem?_append_right (Nat.le_refl _), Nat.sub_self, List.getElem?_cons_zero, Option.map_some] at this
    obtain ⟨p, hp, h2⟩ := Option.map_eq_some_iff.mp this
    obtain ⟨q, hq, rfl⟩ := Option.map_eq_some_iff.mp hp
    simp at h2
    exact h2.symm
  have h0 := congrArg (fun l : List (A × Nat) => l.map (·.1)) e
  simp at h0
  refine ⟨hk, ?_, ?_⟩
  · rw [h0, List.getElem?_append_right (by simp; omega)]
    simp [hk]
  · rw [h0, hk]
    simp
theorem zip_take {A : Type} {S : List A} {k : Nat} {d : A} (h : S[k]? = some d) : S.take (k + 1) = S.take k ++ [d] := by
  obtain ⟨hk, e⟩ := List.getElem?_eq_some_iff.mp h
  rw [List.take_succ, h]; rfl
theorem rk_oD {c : Nat} {o : Option Nat} (h : ∀ k, o = some k → k < 1000000) : Rk c 13 (oD o) := by
  cases o with
  | none => exact rk_none
  | some k => exact rk_eN (by have := h k rfl; omega)
/-! parts of tuples -/
section
variable {α : Ab} {t t1 t2 t3 : M PyData}
@[simp ↓] theorem wp_mCutHiA {Q} : wp (mCutHiA t t2) α Q ↔ wp t α fun d α1 => wp t2 α1 fun d2 α2 => ws (match d2 with | .int h => dCutA none (some h) d | _ => none) fun r => Q r α2 := by
  unfold mCutHiA; rw [wp_mb]; refine wp_iff fun _ _ => ?_; rw [wp_mb]; refine wp_iff fun _ _ => ?_; rw [wp_mo]; try exact Iff.rfl
@[simp ↓] theorem wp_mCutLoA {Q} : wp (mCutLoA t t2) α Q ↔ wp t α fun d α1 => wp t2 α1 fun d2 α2 => ws (match d2 with | .int l => dCutA (some l) none d | _ => none) fun r => Q r α2 := by
  unfold mCutLoA; rw [wp_mb]; refine wp_iff fun _ _ => ?_; rw [wp_mb]; refine wp_iff fun _ _ => ?_; rw [wp_mo]; try exact Iff.rfl
end
theorem sIx_nat {n k d : Nat} : HT.sIx n d (some (k : Int)) = min k n := by
  unfold HT.sIx
  simp
  try omega
theorem cut_hi {A : Type} (f : A → PyData) (l : List A) (k : Nat) : dCutA none (some (k : Int)) (.tuple (l.map f)) = some (.tuple ((l.take k).map f)) := by
  show some (PyData.tuple (Pd.cutD (l.map f) none (some (k : Int)))) = _
  unfold Pd.cutD
  rw [sIx_nat]
  have : HT.sIx (l.map f).length 0 none = 0 := rfl
  rw [this, List.drop_zero, Nat.sub_zero, List.map_take, List.length_map, ← List.take_take]
  rw [List.take_of_length_le (l := l.map f) (by simp)]
theorem cut_lo {A : Type} (f : A → PyData) (l : List A) (k : Nat) : dCutA (some (k : Int)) none (.tuple (l.map f)) = some (.tuple ((l.drop k).map f)) := by
  show some (PyData.tuple (Pd.cutD (l.map f) (some (k : Int)) none)) = _
  unfold Pd.cutD
  rw [sIx_nat]
  have : HT.sIx (l.map f).length (l.map f).length none = (l.map f).length := rfl
  rw [this, List.map_drop, List.length_map]
  by_cases h : k ≤ l.length
  · rw [Nat.min_eq_left h, List.take_of_length_le (by simp)]
  · rw [Nat.min_eq_right (by omega), List.drop_of_length_le (l := l.map f) (i := k) (by simp; omega), List.drop_of_length_le (l := l.map f) (i := l.length) (by simp)]
    simp
end Md
end
section
set_option Elab.async false
set_option linter.all false
set_option maxRecDepth 100000
set_option maxHeartbeats 2000000
namespace Md
open PySem PySem.Spec PyProof.Rows L2 Pd P14
section
variable {n : Nat} {ps : List (Nat × Nat)} {f w r : Nat → Bool} {c e : Nat → Option Bool} {S T : List Deed} {d : Deed} {N : Nat} {δ : Dk}
theorem needter_eq {x : Nat} (hx : x < n) : F_need_terrace [.val (.int n), .val (eN x)] none = some (.none, none) := by
  have h1 := terrof_eq (n := n) (t := x) hx
  refine f_of rfl ?_
  simp [eN] at h1 ⊢
  simp [m_need_terrace, h1]
theorem needdeed_eq (hd : d.2 < n) : F_need_deed [.val (.int n), .val (eD d)] none = some (.none, none) := by
  refine f_of rfl ?_
  simp [m_need_deed, deed_eq hd]
theorem reach_eq (h : Hl n ps) (hd : d.2 < n) : F_reach [.val (dH n ps), .val (eD d)] none = some (dL (lot (rch ps d)), none) := by
  have i0 : dIx (dH n ps) (.int 0) = some (.int n) := atI_0
  refine f_of rfl ?_
  simp [m_reach, need_eq h, i0, needdeed_eq hd, reaches_eq h, look_D hd, lot_of_eq]
theorem shr_mk (g : Nat → Bool) {x : Nat} (hx : x < 10) : Builtin.bitAnd ((mk g : Int) / 2 ^ x) 1 = if g x then 1 else 0 := by
  rw [shr1, tb_mk]
  simp [hx]
theorem lastr_eq (h : Hl n ps) (hS : Dds n S) (hl : S.length < 1000) {x : Nat} (hx : x < n) : F_last_reaching [.val (dH n ps), .val (dS S), .val (eN x)] none = some (oD (lastF ps S x), none) := by
  have i0 : dIx (dH n ps) (.int 0) = some (.int n) := atI_0
  have hn := h.wf.2.1
  refine f_of rfl ?_
  simp [m_last_reaching, need_eq h, i0, needscr_eq hS hl, needter_eq hx, reaches_eq h]
  rw [show dEnm (dS S) = some (enD (S.map eD)) from rfl, enD_map]
  simp
  refine wp_forM (enc := fun p : Deed × Nat => PyData.tuple [.int (p.2 : Nat), eD p.1]) (fun pre β => ∃ s5 s6, β = ⟨[.val (dH n ps), .val (dS S), .val (eN x), .obj (.t (dkD ps (allD n))), .val (oD (lastF ps (pre.map (·.1)) x)), s5, s6], none⟩) S.zipIdx ⟨_, _, rfl⟩ ?_ ?_
  · rintro pre ⟨d, k⟩ post β e ⟨s5, s6, rfl⟩
    obtain ⟨hk, hd, hp⟩ := zip_at e
    have hd2 : d.2 < n := hS d (List.mem_of_getElem? hd)
    have hs := dShr_i (i := (mk (rch ps d) : Int)) (j := (x : Int)) (by omega)
    have hs' : dShr (eM (rch ps d)) (eN x) = some (.int ((mk (rch ps d) : Int) / 2 ^ x)) := by simpa [eN] using hs
    simp [look_D hd2, hs', shr_mk (rch ps d) (show x < 10 by omega)]
    have e1 : lastF ps (pre.map (·.1) ++ [d]) x = if rch ps d x then some k else lastF ps (pre.map (·.1)) x := by
      rw [lastF_snoc, hk]; simp
    rw [e1]
    cases q : rch ps d x <;> simp [oD]
  · rintro β ⟨s5, s6, rfl⟩
    simp
theorem repN (n : Nat) (h : n ≤ 10) : dRep [.none] (.int n) = some (List.replicate n .none) := by
  match n, h with
  | 0, _ => rfl
  | 1, _ => rfl
  | 2, _ => rfl
  | 3, _ => rfl
  | 4, _ => rfl
  | 5, _ => rfl
  | 6, _ => rfl
  | 7, _ => rfl
  | 8, _ => rfl
  | 9, _ => rfl
  | 10, _ => rfl
  | n + 11, h => omega
theorem set_map {A : Type} {f g : Nat → A} {n y : Nat} (hy : y < n) (h : ∀ i, i < n → (i = y → g i = g y) ∧ (i ≠ y → g i = f i)) : ((List.range n).map f).set y (g y) = (List.range n).map g := by
  refine List.ext_getElem (by simp) fun i h1 h2 => ?_
  simp at h1 h2
  rw [List.getElem_set]
  simp only [List.getElem_map, List.getElem_range]
  by_cases e : y = i
  · subst e; simp
  · simp only [if_neg e]
    exact ((h i h1).2 fun z => e z.symm).symm
theorem needsc_eq (h : Hl n ps) (hS : Dds n S) (hl : S.length < 1000) : F__need_script_of [.val (dH n ps), .val (dS S)] none = some (.none, none) := by
  have i0 : dIx (dH n ps) (.int 0) = some (.int n) := atI_0
  refine f_of rfl ?_
  simp [m__need_script_of, need_eq h, i0, needscr_eq hS hl]
theorem decid_eq (h : Hl n ps) (hS : Dds n S) (hl : S.length < 1000) : F_deciders [.val (dH n ps), .val (dS S)] none = some (.tuple ((List.range n).map fun x => oD (lastF ps S x)), none) := by
  have i0 : dIx (dH n ps) (.int 0) = some (.int n) := atI_0
  have hn := h.wf.2.1
  refine f_of rfl ?_
  simp [m_deciders, needsc_eq h hS hl, i0, reaches_eq h, repN n hn]
  rw [show dEnm (dS S) = some (enD (S.map eD)) from rfl, enD_map]
  simp
  refine wp_forM (enc := fun p : Deed × Nat => PyData.tuple [.int (p.2 : Nat), eD p.1]) (fun pre β => ∃ s4 s5 s6, β = ⟨[.val (dH n ps), .val (dS S), .obj (.t (dkD ps (allD n))), .own ((List.range n).map fun x => oD (lastF ps (pre.map (·.1)) x)), s4, s5, s6], none⟩) S.zipIdx ⟨.un, .un, .un, ?_⟩ ?_ ?_
  · have : (List.range n).map (fun x => oD (lastF ps (([] : List (Deed × Nat)).map (·.1)) x)) = List.replicate n .none := by
      refine List.ext_getElem (by simp) fun i h1 h2 => ?_
      simp [lastF, lastB, oD]
    rw [this]
    rfl
  · rintro pre ⟨d, k⟩ post β e ⟨s4, s5, s6, rfl⟩
    obtain ⟨hk, hd, hp⟩ := zip_at e
    have hd2 : d.2 < n := hS d (List.mem_of_getElem? hd)
    have e1 : ∀ x, lastF ps (pre.map (·.1) ++ [d]) x = if rch ps d x then some k else lastF ps (pre.map (·.1)) x := fun x => by
      rw [lastF_snoc, hk]; simp
    simp [look_D hd2, lot_of_eq]
    rw [show dIt (dL (lot (rch ps d))) = some ((lot (rch ps d)).map eN) from rfl]
    simp
    refine wp_forM (enc := eN) (fun pr β => ∃ s6, β = ⟨[.val (dH n ps), .val (dS S), .obj (.t (dkD ps (allD n))), .own ((List.range n).map fun x => oD (if x ∈ pr then some k else lastF ps (pre.map (·.1)) x)), .val (.int k), .val (eD d), s6], none⟩) (lot (rch ps d)) ⟨s6, by simp⟩ ?_ ?_
    · rintro pr y po β e2 ⟨s6, rfl⟩
      have hy : y < n := rchd_lt h.trn hd2 (lot_mem.mp (by rw [e2]; simp : y ∈ lot (rch ps d))).2
      simp [eN]
      rw [ixN_n (by simpa using hy)]
      simp
      have := set_map (f := fun x => oD (if x ∈ pr then some k else lastF ps (pre.map (·.1)) x)) (g := fun x => oD (if x ∈ pr ++ [y] then some k else lastF ps (pre.map (·.1)) x)) hy fun i hi => ⟨fun e => by rw [e], fun hne => by simp [hne]⟩
      simp [oD] at this ⊢
      exact this
    · rintro β ⟨s6, rfl⟩
      simp
      intro x hx
      rw [e1]
      have := lot_rch h hd2 x
      cases q : rch ps d x with
      | true => rw [q] at this; simp [of_decide_eq_true this]
      | false => rw [q] at this; simp [of_decide_eq_false this]
  · rintro β ⟨s4, s5, s6, rfl⟩
    simp
def NoAt (ps : List (Nat × Nat)) (S : List Deed) (x m : Nat) : Prop := ∀ j : Nat, S.length - m ≤ j → (S.map fun d => rch ps d x)[j]? ≠ some true
theorem sought_eq (h : Hl n ps) (hS : Dds n S) (hl : S.length < 1000) {x : Nat} (hx : x < n) : F__law_sought [.val (dH n ps), .val (dS S), .val (eN x)] none = some (oD (lastF ps S x), none) := by
  have hn := h.wf.2.1
  have i1 : dIx (dH n ps) (.int 1) = some (dPs ps) := atI_1
  refine f_of rfl ?_
  have hr : dR3 (.int ((S.length : Int) - 1)) (.int (-1)) (.int (-1)) = some ((List.range S.length).map fun i : Nat => PyData.int ((S.length : Int) - 1 - (i : Nat))) := by
    show (if _ then some _ else none) = _
    rw [if_pos (by unfold i62; simp; omega)]
    unfold rgDn
    rw [show ((S.length : Int) - 1 - -1).toNat = S.length by omega]
  have hneg : dNeg (.int 1) = some (.int (-1)) := rfl
  have hlen : dLen [dS S] = some (.int S.length) := by unfold dS; simp
  simp [m__law_sought, hlen, hneg, hr]
  refine wp_forM (enc := fun i : Nat => PyData.int ((S.length : Int) - 1 - (i : Nat))) (fun pre β => ∃ s3 s4 s5, NoAt ps S x pre.length ∧ β = ⟨[.val (dH n ps), .val (dS S), .val (eN x), s3, s4, s5], none⟩) (List.range S.length) ⟨.un, .un, .un, fun j hj => by rw [List.getElem?_eq_none (by simpa using hj)]; simp, rfl⟩ ?_ ?_
  · rintro pre i post β e ⟨s3, s4, s5, hno, rfl⟩
    have hi : i = pre.length ∧ i < S.length := by
      have h1 := congrArg (fun l : List Nat => l[pre.length]?) e
      simp at h1
      have h2 := congrArg List.length e
      simp at h2
      rw [List.getElem?_range (by omega)] at h1
      exact ⟨by simpa using h1.symm, by have := Option.some.inj h1; omega⟩
    obtain ⟨hi1, hi2⟩ := hi
    have ek : ((S.length : Int) - 1 - (i : Nat)) = ((S.length - 1 - i : Nat) : Int) := by omega
    generalize hk : S.length - 1 - i = k at *
    have hkl : k < S.length := by omega
    obtain ⟨⟨b, y⟩, hd⟩ : ∃ d, S[k]? = some d := ⟨_, List.getElem?_eq_getElem hkl⟩
    have hy : y < n := hS (b, y) (List.mem_of_getElem? hd)
    have ha : dIx (dS S) (.int (k : Int)) = some (eD (b, y)) := atI_nat (by rw [List.getElem?_map, hd]; rfl)
    have hSk : (S.map fun d => rch ps d x)[k]? = some (rch ps (b, y) x) := by rw [List.getElem?_map, hd]; rfl
    rw [ek]
    simp [ha, eD]
    have e1 : dEq (eN x) (.int (y : Int)) = some (decide (x = y)) := by
      show dEq (.int (x : Int)) (.int (y : Int)) = _
      rw [dEq_i]
      exact congrArg some (decide_eq_decide.mpr Int.ofNat_inj)
    simp [e1]
    have fin : rch ps (b, y) x = true → lastF ps S x = some k := fun q => by
      unfold lastF
      refine lastB_eq (by rw [hSk, q]) fun j hj => hno j (by omega)
    have go : rch ps (b, y) x = false → NoAt ps S x (pre.length + 1) := fun q j hj => by
      by_cases e2 : j = k
      · rw [e2, hSk, q]; simp
      · exact hno j (by omega)
    refine ⟨fun e2 => ?_, fun e2 => ?_⟩
    · have q : rch ps (b, y) x = true := by subst e2; cases b <;> simp [rch, dn, up]
      rw [fin q]; rfl
    · refine ws_of (wd_pour b) ?_
      cases b with
      | true =>
        simp [i1]
        have hin := dIn_P (x, y) ps
        have hin : dIn (.tuple [eN x, .int (y : Int)]) (dPs ps) = some (decide ((x, y) ∈ ps)) := hin
        simp [hin]
        have q : rch ps (true, y) x = decide ((x, y) ∈ ps) := by simp [rch, dn, e2]
        refine ⟨fun hm => ?_, fun hm => ?_⟩
        · rw [fin (by rw [q]; exact decide_eq_true hm)]; rfl
        · exact go (by rw [q]; exact decide_eq_false hm)
      | false =>
        simp [i1]
        have hin := dIn_P (y, x) ps
        have hin : dIn (.tuple [.int (y : Int), eN x]) (dPs ps) = some (decide ((y, x) ∈ ps)) := hin
        simp [hin]
        have q : rch ps (false, y) x = decide ((y, x) ∈ ps) := by simp [rch, up, e2]
        refine ⟨fun hm => ?_, fun hm => ?_⟩
        · rw [fin (by rw [q]; exact decide_eq_true hm)]; rfl
        · exact go (by rw [q]; exact decide_eq_false hm)
  · rintro β ⟨s3, s4, s5, hno, rfl⟩
    have : lastF ps S x = none := lastB_no fun j => hno j (by simp)
    rw [this]
    simp [oD]
end
end Md
end
section
set_option Elab.async false
set_option linter.all false
set_option maxRecDepth 100000
set_option maxHeartbeats 4000000
namespace Md
open PySem PySem.Spec PyProof.Rows L2 Pd P14
theorem dEq_bb (a b : Bool) : dEq (.bool a) (.bool b) = some (decide (a = b)) := by cases a <;> cases b <;> decide +kernel
theorem dNe_b2 (a b : Bool) : dNe (.tuple [.bool a, .bool b]) (.tuple [.bool a, .bool b]) = some false := by cases a <;> cases b <;> decide +kernel
theorem dEq_nw (x : Str) (hx : okS x) : dEq .none (.str x) = some false := by
  unfold dEq
  rw [if_pos ⟨rfl, shp_s hx⟩]
  unfold PyData.eqv
  rfl
/-- the word of the deed that decides a place, or None -/
def oW : Option Bool → PyData
  | none => .none
  | some b => .str (wd b)
theorem oW_pour (o : Option Bool) : dEq (oW o) (.str "pour") = some (o == some true) := by
  rcases o with _ | _ | _
  · exact dEq_nw _ (okS_of _)
  · exact wd_pour false
  · exact wd_pour true
theorem oW_open (o : Option Bool) : dEq (oW o) (.str "open") = some (o == some false) := by
  rcases o with _ | _ | _
  · exact dEq_nw _ (okS_of _)
  · exact wd_open false
  · exact wd_open true
theorem oD_none (o : Option Nat) : dIs (oD o) .none = some o.isNone := by cases o <;> rfl
section
variable {n : Nat} {ps : List (Nat × Nat)} {f w r : Nat → Bool} {c e : Nat → Option Bool} {S T : List Deed} {d : Deed} {N : Nat} {δ : Dk}
theorem dIn_lot {g : Nat → Bool} (hg : ∀ i, g i = true → i < n) (hn : n ≤ 10) (x : Nat) : dIn (eN x) (dL (lot g)) = some (g x) := by
  rw [dIn_N, lot_dec fun q => by have := hg x q; omega]
theorem dNotIn_lot {g : Nat → Bool} (hg : ∀ i, g i = true → i < n) (hn : n ≤ 10) (x : Nat) : dNotIn (eN x) (dL (lot g)) = some (!g x) := by
  rw [dNotIn_N, lot_dec fun q => by have := hg x q; omega]
theorem Dds.drop (h : Dds n S) (a : Nat) : Dds n (S.drop a) := fun d hd => h d (List.mem_of_mem_drop hd)
theorem Dds.take (h : Dds n S) (a : Nat) : Dds n (S.take a) := fun d hd => h d (List.mem_of_mem_take hd)
theorem pr_ok (ok : Ok N δ) (hN : N + 1000 < 2 ^ 60) (h : Hl n ps) (hS : Dds n S) (hl : S.length < 100) {x : Nat} (hx : x < n) : ∃ δ', F__law_is_place_right [.dck, .val (dH n ps), .val (dS S), .val (dC (cp ps S)), .val (eN x)] (some δ) = some (.bool true, some δ') ∧ Ok (N + 11) δ' := by
  have hn := h.wf.2.1
  have hc := cp_cpl h.trn hS
  have hF : ∀ k, lastF ps S x = some k → k < 1000000 := fun k hk => by obtain ⟨_, _, _, _, q⟩ := lastF_some hk; omega
  obtain ⟨r, d', e, rfl, δ', rfl, h1⟩ := f_rel (n := 5) (m := 9) (body := m__law_is_place_right) (as := [.dck, .val (dH n ps), .val (dS S), .val (dC (cp ps S)), .val (eN x)]) (δ := some δ) rfl (P := fun r d => r = .bool true ∧ ∃ δ' : Dk, d = some δ' ∧ Ok (N + 11) δ') (by
    unfold m__law_is_place_right
    refine seq_nx (fun β => β = ⟨[.dck, .val (dH n ps), .val (dS S), .val (dC (cp ps S)), .val (eN x), .val (oD (lastF ps S x)), .un, .un, .un], some δ⟩) (by simp [sought_eq h hS (by omega) hx]) ?_
    rintro β rfl
    refine seq_nx (fun β => β = ⟨[.dck, .val (dH n ps), .val (dS S), .val (dC (cp ps S)), .val (eN x), .val (oD (lastF ps S x)), .un, .un, .un], some δ⟩) ?_ ?_
    · have er : fRev F_last_reaching [.val (eN x), .val (dS S), .val (dH n ps)] none = some (oD (lastF ps S x), none) := lastr_eq h hS (by omega) hx
      have hk : Rk 1 33 (.tuple [oD (lastF ps S x), oD (lastF ps S x)]) := rk_two (c := 0) (s := 13) fun y hy => by
        simp at hy
        subst hy
        exact rk_oD hF
      have e := dRepr_rk hk (by decide) (by decide)
      simp [lastr_eq h hS (by omega) hx, er, e, dNe_s hk.o]
    rintro β rfl
    refine seq_nx (fun β => β = ⟨[.dck, .val (dH n ps), .val (dS S), .val (dC (cp ps S)), .val (eN x), .val (oD (lastF ps S x)), .val (oW (cp ps S x)), .un, .un], some δ⟩) ?_ ?_
    · cases q : lastF ps S x with
      | none =>
        rw [lastF_none q]
        simp [oD, oW, dIs]
      | some k =>
        obtain ⟨⟨b, y⟩, h1, h2, h3, h4⟩ := lastF_some q
        have ha : dIx (dS S) (.int (k : Int)) = some (eD (b, y)) := atI_nat (by rw [List.getElem?_map, h1]; rfl)
        rw [h3]
        simp [oD, oW, dIs, ha, eD]
    rintro β rfl
    refine seq_nx (fun β => β = ⟨[.dck, .val (dH n ps), .val (dS S), .val (dC (cp ps S)), .val (eN x), .val (oD (lastF ps S x)), .val (oW (cp ps S x)), .un, .un], some δ⟩) ?_ ?_
    · have j0 : dIx (dC (cp ps S)) (.int 0) = some (dL (lot (wetF (cp ps S)))) := atI_0
      have j1 : dIx (dC (cp ps S)) (.int 1) = some (dL (lot (dryF (cp ps S)))) := atI_1
      have k0 := dIn_lot hc.low.lt hn x
      have k1 := dIn_lot hc.upp.lt hn x
      have ed := dNe_b2 (wetF (cp ps S) x) (dryF (cp ps S) x)
      simp [j0, j1, k0, k1, oW_pour, oW_open]
      exact ⟨_, ed, by simp⟩
    rintro β rfl
    obtain ⟨w, δ1, ew, ok1, hw⟩ := water_ok ok (by omega) h
    refine seq_nx (fun β => β = ⟨[.dck, .val (dH n ps), .val (dS S), .val (dC (cp ps S)), .val (eN x), .val (oD (lastF ps S x)), .val (oW (cp ps S x)), .val (dL (lot w)), .un], some δ1⟩) (by simp [ew]) ?_
    rintro β rfl
    have hr := run_eq h hw hS (by omega)
    have hal : LowF n ps (ap (cp ps S) w) := ap_low hc hw
    cases q : lastF ps S x with
    | none =>
      have k0 := dIn_lot hal.lt hn x
      have k1 := dIn_lot hw.lt hn x
      have e0 : ap (cp ps S) w x = w x := by unfold ap; rw [lastF_none q]; rfl
      rw [e0] at k0
      simp [oD, dIs, hr, k0, k1, dEq_bb]
      exact ok1.mono (by omega)
    | some k =>
      obtain ⟨⟨b, y⟩, h1, h2, h3, h4⟩ := lastF_some q
      have hy : y < n := hS (b, y) (List.mem_of_getElem? h1)
      have ha : dIx (dS S) (.int (k : Int)) = some (eD (b, y)) := atI_nat (by rw [List.getElem?_map, h1]; rfl)
      have hre := reach_eq h (d := (b, y)) hy
      have hni := dNotIn_lot (fun i hi => rchd_lt h.trn (d := (b, y)) hy hi) hn x
      rw [h2] at hni
      have hct : dCutA none (some ((k : Int) + 1)) (dS S) = some (dS (S.take (k + 1))) := cut_hi eD S (k + 1)
      have hlt := lastr_eq h (hS.take (k + 1)) (by simp; omega) hx
      rw [lastF_take q] at hlt
      have hk : Rk 0 13 (oD (some k)) := rk_oD fun k' hk' => by cases hk'; omega
      have e := dRepr_rk hk (by decide) (by decide)
      refine seq_nx (fun β => β = ⟨[.dck, .val (dH n ps), .val (dS S), .val (dC (cp ps S)), .val (eN x), .val (oD (some k)), .val (oW (cp ps S x)), .val (dL (lot w)), .un], some δ1⟩) (by simp [oD, dIs]) ?_
      rintro β rfl
      refine seq_nx (fun β => β = ⟨[.dck, .val (dH n ps), .val (dS S), .val (dC (cp ps S)), .val (eN x), .val (oD (some k)), .val (oW (cp ps S x)), .val (dL (lot w)), .un], some δ1⟩) ?_ ?_
      · simp [oD] at e hlt ⊢
        simp [ha, hre, hni, hct, hlt, e, dNe_s (by simpa [oD] using hk.o)]
      rintro β rfl
      obtain ⟨a, δ2, ea, ok2, hav⟩ := draw_ok ok1 (by omega) (k := k + 1) (by omega) (by omega)
      have ea : F__law_draw [.dck, .val (.int ((k : Int) + 1))] (some δ1) = some (.int a, some δ2) := ea
      refine seq_nx (fun β => β = ⟨[.dck, .val (dH n ps), .val (dS S), .val (dC (cp ps S)), .val (eN x), .val (oD (some k)), .val (oW (cp ps S x)), .val (dL (lot w)), .val (.int a)], some δ2⟩) (by simp [oD, ea]) ?_
      rintro β rfl
      have hlo : dCutA (some (a : Int)) none (dS S) = some (dS (S.drop a)) := cut_lo eD S a
      have hrd := run_eq h hw (hS.drop a) (by simp; omega)
      have hld := lastr_eq h (hS.drop a) (by simp; omega) hx
      have qd := lastF_drop q (a := a) (by omega)
      rw [qd] at hld
      obtain ⟨d2, g1, g2, g3, g4⟩ := lastF_some qd
      have hdd : d2 = (b, y) := by
        rw [List.getElem?_drop, show a + (k - a) = k by omega, h1] at g1
        exact (Option.some.inj g1).symm
      have k0 := dIn_lot (ap_low (cp_cpl h.trn (hS.drop a)) hw).lt hn x
      have e0 : ap (cp ps (S.drop a)) w x = b := by unfold ap; rw [g3, hdd]; rfl
      rw [e0] at k0
      have hk2 : Rk 0 13 (oD (some (k - a))) := rk_oD fun k' hk' => by cases hk'; omega
      have e2 := dRepr_rk hk2 (by decide) (by decide)
      have eo : (oD (some (k - a))) = .int ((k : Int) - (a : Int)) := by
        have : ((k - a : Nat) : Int) = (k : Int) - (a : Int) := by omega
        show PyData.int ((k - a : Nat) : Int) = _
        rw [this]
      rw [eo] at e2 hld hk2
      have ew2 : dEq (oW (cp ps S x)) (.str "pour") = some b := by rw [oW_pour, h3]; cases b <;> rfl
      simp [oD, hlo, hrd, k0, ew2, dEq_bb, hld, e2, dEq_s hk2.o]
      exact ok2.mono (by omega))
  exact ⟨δ', e, h1⟩
/-! ### renamed and mirrored -/
theorem rch_led (h : Hl n ps) {o : List Nat} (ho : Pm n o) {d : Deed} (hd : d.2 < n) {x : Nat} (hx : x < n) : rch (led o ps) (d.1, nth o d.2) (nth o x) = rch ps d x := by
  obtain ⟨b, y⟩ := d
  have hy : y < n := hd
  have key : ∀ a b : Nat, a < n → b < n → (((nth o a, nth o b) ∈ led o ps) ↔ (a, b) ∈ ps) := fun a b ha hb => by
    rw [led_mem]
    constructor
    · rintro ⟨a', b', h1, h2, h3⟩
      have hl := h.trn.lt _ h1
      rw [nth_inj ho ha hl.1 h2, nth_inj ho hb hl.2 h3]
      exact h1
    · exact fun h1 => ⟨a, b, h1, rfl, rfl⟩
  have e1 : (nth o x = nth o y) ↔ x = y := ⟨fun e => nth_inj ho hx hy e, fun e => by rw [e]⟩
  rw [Bool.eq_iff_iff]
  cases b with
  | true =>
    show dn (led o ps) (nth o y) (nth o x) = true ↔ dn ps y x = true
    rw [dn_iff, dn_iff, e1, key x y hx hy]
  | false =>
    show up (led o ps) (nth o y) (nth o x) = true ↔ up ps y x = true
    rw [up_iff, up_iff, e1, key y x hy hx]
theorem rch_mir (d : Deed) (x : Nat) : rch (mir ps) (!d.1, d.2) x = rch ps d x := by
  obtain ⟨b, y⟩ := d
  rw [Bool.eq_iff_iff]
  cases b with
  | true =>
    show up (mir ps) y x = true ↔ dn ps y x = true
    rw [up_iff, dn_iff, mir_mem]
  | false =>
    show dn (mir ps) y x = true ↔ up ps y x = true
    rw [up_iff, dn_iff, mir_mem]
end
end Md
end
section
set_option Elab.async false
set_option linter.all false
set_option maxRecDepth 100000
set_option maxHeartbeats 4000000
namespace Md
open PySem PySem.Spec PyProof.Rows L2 Pd P14
theorem eqv_oD (a b : Option Nat) : PyData.eqv (oD a) (oD b) = decide (a = b) := by
  cases a with
  | none =>
    cases b with
    | none => rfl
    | some k => show PyData.eqv .none (.int k) = _; unfold PyData.eqv; simp
  | some j =>
    cases b with
    | none => show PyData.eqv (.int j) .none = _; unfold PyData.eqv; simp
    | some k =>
      have := eqv_eN j k
      show PyData.eqv (eN j) (eN k) = _
      rw [this]
      simp
theorem flat_oD {c : Nat} (o : Option Nat) : flat c (oD o) := by
  cases o with
  | none => exact ⟨rfl, by show 0 ≤ c; omega⟩
  | some k => exact flat_int _
theorem dNe_oL (l : List (Option Nat)) : dNe (.list (l.map oD)) (.list (l.map oD)) = some false := by
  have hs : SeqAt.shaped (.list (l.map oD)) = true := (flat_lst (c := 0) fun d hd => by
    obtain ⟨o, _, rfl⟩ := List.mem_map.mp hd
    exact flat_oD o).shp
  unfold dNe
  rw [if_pos ⟨hs, hs⟩]
  show some (!PyData.eqvAll (l.map oD) (l.map oD)) = _
  rw [eqvAll_map eqv_oD]
  simp
/-- the positions for all places -/
def lst (ps : List (Nat × Nat)) (S : List Deed) (n : Nat) : List PyData := (List.range n).map fun x => oD (lastF ps S x)
theorem lst_map (ps : List (Nat × Nat)) (S : List Deed) (n : Nat) : lst ps S n = ((List.range n).map fun x => lastF ps S x).map oD := by
  unfold lst; rw [List.map_map]; rfl
theorem dNe_lst (ps : List (Nat × Nat)) (S : List Deed) (n : Nat) : dNe (.list (lst ps S n)) (.list (lst ps S n)) = some false := by
  rw [lst_map]; exact dNe_oL _
section
variable {n : Nat} {ps : List (Nat × Nat)} {S : List Deed} {o : List Nat}
theorem rk_lasts {c : Nat} (hn : n ≤ 10) (hl : S.length < 1000) : Rk (c + 1) 153 (.tuple (lst ps S n)) := rk_tupB (s := 13) (k := 10) (fun d hd => by
  unfold lst at hd
  obtain ⟨x, _, rfl⟩ := List.mem_map.mp hd
  exact rk_oD fun k hk => by obtain ⟨_, _, _, _, q⟩ := lastF_some hk; omega) (by unfold lst; simpa using hn)
def nam (o : List Nat) (S : List Deed) : List Deed := S.map fun d => (d.1, nth o d.2)
def tur (S : List Deed) : List Deed := S.map fun d => (!d.1, d.2)
theorem nam_ok (hS : Dds n S) (ho : Pm n o) : Dds n (nam o S) := fun d hd => by
  obtain ⟨e, he, rfl⟩ := List.mem_map.mp hd
  exact nth_lt ho (hS e he)
theorem tur_ok (hS : Dds n S) : Dds n (tur S) := fun d hd => by
  obtain ⟨e, he, rfl⟩ := List.mem_map.mp hd
  exact hS e he
abbrev t18 (n : Nat) (ps : List (Nat × Nat)) (s2 s5 s6 s7 s8 s9 s10 s11 s12 s13 s14 s15 s16 s17 : Sl) (δ : Dk) : Ab := ⟨[.un, .dck, s2, .val (dH n ps), .val (.int n), s5, s6, s7, s8, s9, s10, s11, s12, s13, s14, s15, s16, s17], some δ⟩
theorem law_true : LawTrue 18 m_law 69621 2147483549 81 2147483563 10892421 := by
  intro ns hl hbits
  have ok0 : Ok 0 (dkOf 69621 2147483549 81 2147483563 10892421 ns) := by
    have := mix_lt (c1 := 69621) (c2 := 2147483549) (c3 := 81) (c4 := 2147483563) (m0 := 10892421) (by decide) (by decide) (ns.take 63)
    refine ⟨this.1, by have := this.2; show dkMix _ _ _ _ _ _ < _; omega, by show (0 : Int) ≤ 0; omega, by show (0 : Int) ≤ 0; omega, ?_⟩
    show (ns.take 63).reverse.length ≤ 63
    simp
    omega
  generalize dkOf 69621 2147483549 81 2147483563 10892421 ns = δ at *
  have key : wp m_law ⟨(List.replicate 18 Sl.un).set 1 .dck, some δ⟩ fun o _ => o = .rt (.bool true) := by
    unfold m_law
    have e0 : ((List.replicate 18 Sl.un).set 1 .dck) = [.un, .dck, .un, .un, .un, .un, .un, .un, .un, .un, .un, .un, .un, .un, .un, .un, .un, .un] := rfl
    rw [e0, wp_seq, wp_for]
    simp
    refine ws_of (x := (List.range 3).map eN) (dR1_n (n := 3) (by decide)) ?_
    refine wp_forM (enc := eN) (fun pre β => ∃ s2 s3 s4 s5 s6 s7 s8 s9 s10 s11 s12 s13 s14 s15 s16 s17 δ', okSl s8 = true ∧ okSl s15 = true ∧ Ok (100000 * pre.length) δ' ∧ β = ⟨[.un, .dck, s2, s3, s4, s5, s6, s7, s8, s9, s10, s11, s12, s13, s14, s15, s16, s17], some δ'⟩) (List.range 3) ⟨_, _, _, _, _, _, _, _, _, _, _, _, _, _, _, _, δ, rfl, rfl, ok0, rfl⟩ ?_ ?_
    · rintro pre t post β e ⟨s2, s3, s4, s5, s6, s7, s8, s9, s10, s11, s12, s13, s14, s15, s16, s17, δ0, h8, h15, ok, rfl⟩
      have hpre : pre.length ≤ 3 := by have := congrArg List.length e; simp at this; omega
      rw [ws_gSet]
      refine ⟨by simp, ?_⟩
      obtain ⟨v, δ1, e1, ok1, hv⟩ := draw_ok ok (by omega) (k := 10) (by decide) (by decide)
      obtain ⟨ps, δ2, e2, hh, ok2⟩ := hill_ok ok1 (by omega) (n := v + 1) (by omega) (by omega)
      refine seq_nx (fun β => β = ⟨[.un, .dck, .val (eN t), .val (dH (v + 1) ps), s4, s5, s6, s7, s8, s9, s10, s11, s12, s13, s14, s15, s16, s17], some δ2⟩) ?_ ?_
      · have e1 : F__law_draw [.dck, .val (.int 10)] (some δ0) = some (.int v, some δ1) := e1
        have e2 : F__law_hill [.dck, .val (.int (1 + (v : Int)))] (some δ1) = some (dH (v + 1) ps, some δ2) := by rw [show (1 + (v : Int)) = ((v + 1 : Nat) : Int) by omega]; exact e2
        simp [e1, e2]
      rintro β rfl
      generalize v + 1 = n at *
      have hn := hh.wf.2.1
      have h0 := hh.wf.1
      have i0 : dIx (dH n ps) (.int 0) = some (.int n) := atI_0
      have hR : dR1 (.int n) = some ((List.range n).map eN) := dR1_n (by omega)
      refine seq_nx (fun β => β = t18 n ps (.val (eN t)) s5 s6 s7 s8 s9 s10 s11 s12 s13 s14 s15 s16 s17 δ2) (by simp [i0]) ?_
      rintro β rfl
      -- the script
      refine seq_nx (fun β => ∃ S δ3, Dds n S ∧ S.length ≤ 60 ∧ Ok (100000 * pre.length + 20000) δ3 ∧ β = t18 n ps (.val (eN t)) (.val (dS S)) s6 s7 s8 s9 s10 s11 s12 s13 s14 s15 s16 s17 δ3) ?_ ?_
      · obtain ⟨u, δ5, e5, ok5, hu⟩ := draw_ok ok2 (by omega) (k := 8) (by decide) (by decide)
        have e5 : F__law_draw [.dck, .val (.int 8)] (some δ2) = some (.int u, some δ5) := e5
        simp [e5]
        refine ⟨fun hz => ?_, fun hz => ?_⟩
        · obtain ⟨S, δ6, e6, ok6, hS, hl⟩ := script_ok ok5 (m := 60) (by decide) (by omega) (by omega) hn
          have e6 : F__law_script [.dck, .val (.int n), .val (.int 60)] (some δ5) = some (dS S, some δ6) := e6
          simp [e6]
          exact ⟨S, hS, hl, ok6.mono (by omega), rfl⟩
        · obtain ⟨S, δ6, e6, ok6, hS, hl⟩ := script_ok ok5 (m := 10) (by decide) (by omega) (by omega) hn
          have e6 : F__law_script [.dck, .val (.int n), .val (.int 10)] (some δ5) = some (dS S, some δ6) := e6
          simp [e6]
          exact ⟨S, hS, by omega, ok6.mono (by omega), rfl⟩
      rintro β ⟨S, δ3, hS, hSl, ok3, rfl⟩
      -- the couple, the positions
      refine seq_nx (fun β => β = t18 n ps (.val (eN t)) (.val (dS S)) (.val (dC (cp ps S))) (.own (lst ps S n)) s8 s9 s10 s11 s12 s13 s14 s15 s16 s17 δ3) ?_ ?_
      · simp [coup_eq hh hS (by omega), hR]
        refine ⟨⟨okSl_m h8, by omega⟩, ?_⟩
        refine wp_lcAll (fun x => oD (lastF ps S x)) (fun x hx => ?_) ?_
        · simp [sought_eq hh hS (by omega) (List.mem_range.mp hx)]
        · simp [lst]
      rintro β rfl
      -- each place
      refine seq_nx (fun β => ∃ δ4 s8', okSl s8' = true ∧ Ok (100000 * pre.length + 21000) δ4 ∧ β = t18 n ps (.val (eN t)) (.val (dS S)) (.val (dC (cp ps S))) (.own (lst ps S n)) s8' s9 s10 s11 s12 s13 s14 s15 s16 s17 δ4) ?_ ?_
      · rw [wp_for]
        simp [hR]
        refine wp_forM (enc := eN) (fun pr β => ∃ δ4 s8', okSl s8' = true ∧ Ok (100000 * pre.length + 20000 + 11 * pr.length) δ4 ∧ β = t18 n ps (.val (eN t)) (.val (dS S)) (.val (dC (cp ps S))) (.own (lst ps S n)) s8' s9 s10 s11 s12 s13 s14 s15 s16 s17 δ4) (List.range n) ⟨δ3, s8, h8, by simpa using ok3, rfl⟩ ?_ ?_
        · rintro pr x po β e ⟨δ4, s8', h8', ok4, rfl⟩
          have hpr := rng_pre e
          obtain ⟨δ5, e5, ok5⟩ := pr_ok ok4 (by omega) hh hS (by omega) hpr.2.1
          simp [e5]
          exact ⟨δ5, _, rfl, ok5.mono (by omega), rfl, rfl⟩
        · rintro β ⟨δ4, s8', h8', ok4, rfl⟩
          simp at ok4
          exact ⟨rfl, δ4, s8', h8', ok4.mono (by omega), rfl⟩
      rintro β ⟨δ4, s8', h8', ok4, rfl⟩
      -- the deciders
      have hdec := decid_eq hh hS (by omega)
      have hdec : F_deciders [.val (dH n ps), .val (dS S)] none = some (.tuple (lst ps S n), none) := hdec
      refine seq_nx (fun β => β = t18 n ps (.val (eN t)) (.val (dS S)) (.val (dC (cp ps S))) (.val (.list (lst ps S n))) s8' s9 s10 s11 s12 s13 s14 s15 s16 s17 δ4) ?_ ?_
      · have hk : Rk 1 153 (.tuple (lst ps S n)) := rk_lasts hn (by omega)
        have e := dRepr_rk hk (by decide) (by decide)
        simp [hdec, e, dNe_s hk.o]
      rintro β rfl
      -- a deed behind
      obtain ⟨b, δ5, e5, ok5⟩ := pickW_ok ok4 (by omega)
      obtain ⟨y, δ6, e6, ok6, hy⟩ := draw_ok ok5 (by omega) (k := n) (by omega) (by omega)
      have e6 : F__law_draw [.dck, .val (.int (n : Int))] (some δ5) = some (.int y, some δ6) := e6
      refine seq_nx (fun β => β = t18 n ps (.val (eN t)) (.val (dS S)) (.val (dC (cp ps S))) (.val (.list (lst ps S n))) s8' (.val (eD (b, y))) s10 s11 s12 s13 s14 s15 s16 s17 δ6) (by simp [e5, e6, eD]) ?_
      rintro β rfl
      refine seq_nx (fun β => ∃ s8'' s10' s11', okSl s8'' = true ∧ β = t18 n ps (.val (eN t)) (.val (dS S)) (.val (dC (cp ps S))) (.val (.list (lst ps S n))) s8'' (.val (eD (b, y))) s10' s11' s12 s13 s14 s15 s16 s17 δ6) ?_ ?_
      · have hlen : dLen [dS S] = some (.int S.length) := by unfold dS; simp
        have hadd : dAdd (dS S) (.tuple [eD (b, y)]) = some (dS (S ++ [(b, y)])) := dAdd_S (S := S) (T := [(b, y)]) (by omega) (by simp)
        have hS' : Dds n (S ++ [(b, y)]) := hS.app (Dds.one hy)
        simp [hlen, hadd]
        refine ⟨fun h60 => ?_, fun _ => h8'⟩
        simp [hR]
        refine ⟨⟨okSl_m h8', by omega⟩, ?_⟩
        refine wp_lcAll (fun x => oD (lastF ps (S ++ [(b, y)]) x)) (fun x hx => by simp [lastr_eq hh hS' (by simp; omega) (List.mem_range.mp hx)]) ?_
        simp [hR]
        refine ⟨⟨okSl_m h8', by omega⟩, ?_⟩
        have hre := reach_eq hh (d := (b, y)) hy
        refine wp_lcAll (fun x => oD (lastF ps (S ++ [(b, y)]) x)) (fun x hx => ?_) ?_
        · have hx := List.mem_range.mp hx
          have hin := dIn_lot (fun i hi => rchd_lt hh.trn (d := (b, y)) hy hi) hn x
          simp [hre, hin, hlen, lastF_snoc]
          refine ⟨fun q => by simp [q, oD], fun q => ?_⟩
          refine ws_of (x := oD (lastF ps S x)) ?_ (by simp [lastF_snoc, q])
          show atI (lst ps S n) (x : Int) = _
          exact atI_rg hx
        · have e1 := dNe_lst ps (S ++ [(b, y)]) n
          unfold lst at e1
          simp [e1]
          exact h8'
      rintro β ⟨s8'', s10', s11', h8'', rfl⟩
      -- renamed
      obtain ⟨od, δ7, e7, ok7, hp⟩ := order_ok ok6 (by omega) hn
      refine seq_nx (fun β => β = t18 n ps (.val (eN t)) (.val (dS S)) (.val (dC (cp ps S))) (.val (.list (lst ps S n))) s8'' (.val (eD (b, y))) s10' s11' (.val (dL od)) s13 s14 s15 s16 s17 δ7) (by simp [e7]) ?_
      rintro β rfl
      have hld := led_eq hh hp
      have hhl := led_hl hh hp
      refine seq_nx (fun β => β = t18 n ps (.val (eN t)) (.val (dS S)) (.val (dC (cp ps S))) (.val (.list (lst ps S n))) s8'' (.val (eD (b, y))) s10' s11' (.val (dL od)) (.val (dH n (led od ps))) (.val (dS (nam od S))) s15 s16 s17 δ7) ?_ ?_
      · simp [hld]
        rw [show dIt (dS S) = some (S.map eD) from rfl]
        simp
        refine ⟨⟨⟨okSl_m h15, okSl_m h8''⟩, by omega⟩, ?_⟩
        refine wp_lcAll (fun d => eD (d.1, nth od d.2)) (fun d hd => ?_) ?_
        · obtain ⟨b', y'⟩ := d
          have ha : dIx (dL od) (.int (y' : Int)) = some (eN (nth od y')) := at_o hp (hS (b', y') hd)
          simp [eD, ha]
          rfl
        · have e1 : S.map (fun d => eD (d.1, nth od d.2)) = (nam od S).map eD := by unfold nam; rw [List.map_map]; rfl
          rw [e1]
          simp [dS]
      rintro β rfl
      have hcmp : ∀ (s13 s14 s16 s17 : Sl), True := fun _ _ _ _ => trivial
      refine seq_nx (fun β => β = t18 n ps (.val (eN t)) (.val (dS S)) (.val (dC (cp ps S))) (.val (.list (lst ps S n))) s8'' (.val (eD (b, y))) s10' s11' (.val (dL od)) (.val (dH n (led od ps))) (.val (dS (nam od S))) s15 s16 s17 δ7) ?_ ?_
      · simp [hR]
        refine ⟨⟨okSl_m h8'', by omega⟩, ?_⟩
        refine wp_lcAll (fun x => oD (lastF ps S x)) (fun x hx => ?_) ?_
        · have hx := List.mem_range.mp hx
          have ha : dIx (dL od) (eN x) = some (eN (nth od x)) := at_o hp hx
          have hl2 := lastr_eq hhl (nam_ok hS hp) (by unfold nam; simp; omega) (nth_lt hp hx)
          have hm : lastF (led od ps) (nam od S) (nth od x) = lastF ps S x := lastF_map fun d hd => rch_led hh hp (hS d hd) hx
          rw [hm] at hl2
          simp [ha, hl2]
        · have e1 := dNe_lst ps S n
          have e1 : dNe (.list ((List.range n).map fun x => oD (lastF ps S x))) (.list (lst ps S n)) = some false := e1
          simp [e1]
      rintro β rfl
      -- mirrored
      refine seq_nx (fun β => β = t18 n ps (.val (eN t)) (.val (dS S)) (.val (dC (cp ps S))) (.val (.list (lst ps S n))) s8'' (.val (eD (b, y))) s10' s11' (.val (dL od)) (.val (dH n (led od ps))) (.val (dS (nam od S))) s15 (.val (dS (tur S))) s17 δ7) ?_ ?_
      · rw [wp_asg]
        simp
        rw [show dIt (dS S) = some (S.map eD) from rfl]
        simp
        refine ⟨⟨⟨okSl_m h15, okSl_m h8''⟩, by omega⟩, ?_⟩
        refine wp_lcAll (fun d => eD (!d.1, d.2)) (fun d hd => ?_) ?_
        · obtain ⟨b', y'⟩ := d
          simp [eD]
          refine ws_of (wd_pour b') ?_
          cases b' <;> simp <;> rfl
        · have e1 : S.map (fun d => eD (!d.1, d.2)) = (tur S).map eD := by unfold tur; rw [List.map_map]; rfl
          rw [e1]
          simp [dS]
      rintro β rfl
      have hm := mir_hl hh
      refine seq_nx (fun β => β = t18 n ps (.val (eN t)) (.val (dS S)) (.val (dC (cp ps S))) (.val (.list (lst ps S n))) s8'' (.val (eD (b, y))) s10' s11' (.val (dL od)) (.val (dH n (led od ps))) (.val (dS (nam od S))) s15 (.val (dS (tur S))) (.val (dH n (mir ps))) δ7) (by simp [mir_eq hh]) ?_
      rintro β rfl
      simp [hR]
      refine ⟨⟨okSl_m h8'', by omega⟩, ?_⟩
      refine wp_lcAll (fun x => oD (lastF ps S x)) (fun x hx => ?_) ?_
      · have hx := List.mem_range.mp hx
        have hl2 := lastr_eq hm (tur_ok hS) (by unfold tur; simp; omega) hx
        have hm2 : lastF (mir ps) (tur S) x = lastF ps S x := lastF_map fun d hd => rch_mir d x
        rw [hm2] at hl2
        simp [hl2]
      · have e1 := dNe_lst ps S n
        have e1 : dNe (.list ((List.range n).map fun x => oD (lastF ps S x))) (.list (lst ps S n)) = some false := e1
        simp [e1]
        exact ⟨_, _, _, _, _, _, s8'', h8'', _, _, _, _, _, _, s15, h15, ok7.mono (by omega), rfl, rfl, rfl, rfl, rfl, rfl, rfl, rfl, rfl, rfl, rfl, rfl, rfl, rfl⟩
    · rintro β ⟨s2, s3, s4, s5, s6, s7, s8, s9, s10, s11, s12, s13, s14, s15, s16, s17, δ0, h8, h15, ok, rfl⟩
      simp
  obtain ⟨o, α', e, q⟩ := key
  subst q
  exact ⟨α', e⟩
end
end Md
end
open PySem PySem.W PyProof.Rows
set_option Elab.async false
set_option maxRecDepth 100000 in
set_option maxHeartbeats 0 in
theorem PySem.Challenge.cw_pourdrains_k14_the_last_deed_that_reache_holds : PySem.Challenge.rw_pourdrains_k14_the_last_deed_that_reache.Holds := by
  w_on; o_law; x_head; (case hw => w_witness2)
  k_fill
  refine Pd.walk_GE (l := PySem.Challenge.rw_pourdrains_k14_the_last_deed_that_reache) (n := 63) (k := 13) (x := "_law_script_here") rfl (by decide) rfl (Pd.roomG_caller (by decide)) ?F
  case F =>
    intro w mg fa h Y G hmg
    have KX := PySem.W.kIn_of Y
    refine' P14.all_mk (f_mask_of := 148) (q_mask_of := 147) (f_lot_of := 155) (q_lot_of := 154) (f_above_masks := 160) (q_above_masks := 159) (f_below_masks := 165) (q_below_masks := 164) (f_union_of := 172) (q_union_of := 171) (f_is_shut := 179) (q_is_shut := 178) (f_is_integer := 186) (q_is_integer := 185) (f_is_within := 193) (q_is_within := 192) (f_has_items := 200) (q_has_items := 199) (f_is_ascending := 207) (q_is_ascending := 206) (f_is_pair_of := 214) (q_is_pair_of := 213) (f_are_pairs_of := 221) (q_are_pairs_of := 220) (f_is_terrace_of := 228) (q_is_terrace_of := 227) (f_is_lot_of := 235) (q_is_lot_of := 234) (f_is_lower_of := 242) (q_is_lower_of := 241) (f_is_deed_of := 249) (q_is_deed_of := 248) (f_is_script_of := 256) (q_is_script_of := 255) (f_need_terrace := 263) (q_need_terrace := 262) (f_need_water := 270) (q_need_water := 269) (f_need_deed := 277) (q_need_deed := 276) (f_need_script := 284) (q_need_script := 283) (f_reaches := 291) (q_reaches := 290) (f_is_book := 326) (q_is_book := 325) (f__is_closed := 333) (q__is_closed := 332) (f_is_hill := 319) (q_is_hill := 318) (f_need_hill := 340) (q_need_hill := 339) (f_reach := 368) (q_reach := 367) (f_wet_behind := 298) (q_wet_behind := 297) (f_couple_behind := 305) (q_couple_behind := 304) (f_couple_masks := 312) (q_couple_masks := 311) (f_mirror := 347) (q_mirror := 346) (f__is_renaming := 361) (q__is_renaming := 360) (f_led_hill := 354) (q_led_hill := 353) (f_run := 375) (q_run := 374) (f_couple_of := 382) (q_couple_of := 381) (f_last_reaching := 389) (q_last_reaching := 388) (f__need_script_of := 396) (q__need_script_of := 395) (f_deciders := 403) (q_deciders := 402) (f__law_deck := 410) (q__law_deck := 409) (f__law_draw := 417) (q__law_draw := 416) (f__law_pick := 424) (q__law_pick := 423) (f__law_reached := 429) (q__law_reached := 428) (f__law_closed := 434) (q__law_closed := 433) (f__law_under := 439) (q__law_under := 438) (f__law_over := 444) (q__law_over := 443) (f__law_closure := 451) (q__law_closure := 450) (f__law_order := 458) (q__law_order := 457) (f__law_led := 463) (q__law_led := 462) (f__law_hill := 468) (q__law_hill := 467) (f__law_water := 473) (q__law_water := 472) (f__law_script := 478) (q__law_script := 477) (f__law_sought := 485) (q__law_sought := 484) (f__law_is_place_right := 492) (q__law_is_place_right := 491) (f_law := 497) (q_law := 496) (t_lot_of := 150) (t_is_ascending := 202) (t_are_pairs_of := 216) (t_is_lot_of := 230) (t_is_script_of := 251) (t__is_closed := 328) (t_mirror := 342) (t__is_renaming := 356) (t_led_hill := 349) KX G hmg ?A0 ?A1 ?A2 ?A3 ?A4 ?A5 ?A6 ?A7 ?A8 ?A9 ?A10 ?A11 ?A12 ?A13 ?A14 ?A15 ?A16 ?A17 ?A18 ?A19 ?A20 ?A21 ?A22 ?A23 ?A24 ?A25 ?A26 ?A27 ?A28 ?A29 ?A30 ?A31 ?A32 ?A33 ?A34 ?A35 ?A36 ?A37 ?A38 ?A39 ?A40 ?A41 ?A42 ?A43 ?A44 ?A45 ?A46 ?A47 ?A48 ?A49 ?A50 ?A51 ?A52 ?A53 ?zg0 ?zB ?zh1 ?zh3 ?zh4 ?zT
    (case A0 => exact ⟨by k_is, ⟨_, _, _, _, _, _, _, _, by k_is⟩, by k_is⟩)
    (case A1 => exact ⟨by k_is, ⟨_, _, _, _, _, _, _, _, by k_is⟩, by k_is⟩)
    (case A2 => exact ⟨by k_is, ⟨_, _, _, _, _, _, _, _, by k_is⟩, by k_is⟩)
    (case A3 => exact ⟨by k_is, ⟨_, _, _, _, _, _, _, _, by k_is⟩, by k_is⟩)
    (case A4 => exact ⟨by k_is, ⟨_, _, _, _, _, _, _, _, by k_is⟩, by k_is⟩)
    (case A5 => exact ⟨by k_is, ⟨_, _, _, _, _, _, _, _, by k_is⟩, by k_is⟩)
    (case A6 => exact ⟨by k_is, ⟨_, _, _, _, _, _, _, _, by k_is⟩, by k_is⟩)
    (case A7 => exact ⟨by k_is, ⟨_, _, _, _, _, _, _, _, by k_is⟩, by k_is⟩)
    (case A8 => exact ⟨by k_is, ⟨_, _, _, _, _, _, _, _, by k_is⟩, by k_is⟩)
    (case A9 => exact ⟨by k_is, ⟨_, _, _, _, _, _, _, _, by k_is⟩, by k_is⟩)
    (case A10 => exact ⟨by k_is, ⟨_, _, _, _, _, _, _, _, by k_is⟩, by k_is⟩)
    (case A11 => exact ⟨by k_is, ⟨_, _, _, _, _, _, _, _, by k_is⟩, by k_is⟩)
    (case A12 => exact ⟨by k_is, ⟨_, _, _, _, _, _, _, _, by k_is⟩, by k_is⟩)
    (case A13 => exact ⟨by k_is, ⟨_, _, _, _, _, _, _, _, by k_is⟩, by k_is⟩)
    (case A14 => exact ⟨by k_is, ⟨_, _, _, _, _, _, _, _, by k_is⟩, by k_is⟩)
    (case A15 => exact ⟨by k_is, ⟨_, _, _, _, _, _, _, _, by k_is⟩, by k_is⟩)
    (case A16 => exact ⟨by k_is, ⟨_, _, _, _, _, _, _, _, by k_is⟩, by k_is⟩)
    (case A17 => exact ⟨by k_is, ⟨_, _, _, _, _, _, _, _, by k_is⟩, by k_is⟩)
    (case A18 => exact ⟨by k_is, ⟨_, _, _, _, _, _, _, _, by k_is⟩, by k_is⟩)
    (case A19 => exact ⟨by k_is, ⟨_, _, _, _, _, _, _, _, by k_is⟩, by k_is⟩)
    (case A20 => exact ⟨by k_is, ⟨_, _, _, _, _, _, _, _, by k_is⟩, by k_is⟩)
    (case A21 => exact ⟨by k_is, ⟨_, _, _, _, _, _, _, _, by k_is⟩, by k_is⟩)
    (case A22 => exact ⟨by k_is, ⟨_, _, _, _, _, _, _, _, by k_is⟩, by k_is⟩)
    (case A23 => exact ⟨by k_is, ⟨_, _, _, _, _, _, _, _, by k_is⟩, by k_is⟩)
    (case A24 => exact ⟨by k_is, ⟨_, _, _, _, _, _, _, _, by k_is⟩, by k_is⟩)
    (case A25 => exact ⟨by k_is, ⟨_, _, _, _, _, _, _, _, by k_is⟩, by k_is⟩)
    (case A26 => exact ⟨by k_is, ⟨_, _, _, _, _, _, _, _, by k_is⟩, by k_is⟩)
    (case A27 => exact ⟨by k_is, ⟨_, _, _, _, _, _, _, _, by k_is⟩, by k_is⟩)
    (case A28 => exact ⟨by k_is, ⟨_, _, _, _, _, _, _, _, by k_is⟩, by k_is⟩)
    (case A29 => exact ⟨by k_is, ⟨_, _, _, _, _, _, _, _, by k_is⟩, by k_is⟩)
    (case A30 => exact ⟨by k_is, ⟨_, _, _, _, _, _, _, _, by k_is⟩, by k_is⟩)
    (case A31 => exact ⟨by k_is, ⟨_, _, _, _, _, _, _, _, by k_is⟩, by k_is⟩)
    (case A32 => exact ⟨by k_is, ⟨_, _, _, _, _, _, _, _, by k_is⟩, by k_is⟩)
    (case A33 => exact ⟨by k_is, ⟨_, _, _, _, _, _, _, _, by k_is⟩, by k_is⟩)
    (case A34 => exact ⟨by k_is, ⟨_, _, _, _, _, _, _, _, by k_is⟩, by k_is⟩)
    (case A35 => exact ⟨by k_is, ⟨_, _, _, _, _, _, _, _, by k_is⟩, by k_is⟩)
    (case A36 => exact ⟨by k_is, ⟨_, _, _, _, _, _, _, _, by k_is⟩, by k_is⟩)
    (case A37 => exact ⟨by k_is, ⟨_, _, _, _, _, _, _, _, by k_is⟩, by k_is⟩)
    (case A38 => exact ⟨by k_is, ⟨_, _, _, _, _, _, _, _, by k_is⟩, by k_is⟩)
    (case A39 => exact ⟨by k_is, ⟨_, _, _, _, _, _, _, _, by k_is⟩, by k_is⟩)
    (case A40 => exact ⟨by k_is, ⟨_, _, _, _, _, _, _, _, by k_is⟩, by k_is⟩)
    (case A41 => exact ⟨by k_is, ⟨_, _, _, _, _, _, _, _, by k_is⟩, by k_is⟩)
    (case A42 => exact ⟨by k_is, ⟨_, _, _, _, _, _, _, _, by k_is⟩, by k_is⟩)
    (case A43 => exact ⟨by k_is, ⟨_, _, _, _, _, _, _, _, by k_is⟩, by k_is⟩)
    (case A44 => exact ⟨by k_is, ⟨_, _, _, _, _, _, _, _, by k_is⟩, by k_is⟩)
    (case A45 => exact ⟨by k_is, ⟨_, _, _, _, _, _, _, _, by k_is⟩, by k_is⟩)
    (case A46 => exact ⟨by k_is, ⟨_, _, _, _, _, _, _, _, by k_is⟩, by k_is⟩)
    (case A47 => exact ⟨by k_is, ⟨_, _, _, _, _, _, _, _, by k_is⟩, by k_is⟩)
    (case A48 => exact ⟨by k_is, ⟨_, _, _, _, _, _, _, _, by k_is⟩, by k_is⟩)
    (case A49 => exact ⟨by k_is, ⟨_, _, _, _, _, _, _, _, by k_is⟩, by k_is⟩)
    (case A50 => exact ⟨by k_is, ⟨_, _, _, _, _, _, _, _, by k_is⟩, by k_is⟩)
    (case A51 => exact ⟨by k_is, ⟨_, _, _, _, _, _, _, _, by k_is⟩, by k_is⟩)
    (case A52 => exact ⟨by k_is, ⟨_, _, _, _, _, _, _, _, by k_is⟩, by k_is⟩)
    (case A53 => exact ⟨by k_is, ⟨_, _, _, _, _, _, _, _, by k_is⟩, by k_is⟩)
    (case zg0 => exact ⟨_, by k_is⟩)
    (case zB => kernel_rfl)
    (case zh1 => intro p hp; simp only [List.mem_cons, List.not_mem_nil, or_false] at hp; rcases hp with hp | hp | hp | hp | hp | hp | hp | hp | hp <;> (subst hp; k_is))
    (case zh3 => intro p hp; simp only [List.mem_cons, List.not_mem_nil, or_false] at hp; rcases hp with hp | hp | hp | hp | hp | hp | hp | hp | hp <;> (subst hp; kernel_rfl))
    (case zh4 => decide)
    (case zT => exact Md.law_true)
