import PyProof.Rows.All
import Wide.All
import OpenK.AllK
import Wide.FinOn
import HandS.ForMost
import HandS.ForExc
import HandS.GenList
import HandS.AnyAll
import HandS.Zip
import PyProof.TupleOfGen
import PyProof.EnumMake
import PyProof.Draws
import HandS.Zip0
import HandS.Iter
import HandS.TupAny
import HandS.Gcd
import HandS.Wide
import HandS.Star
import HandS.IsInst
import HandS.NoneIn
import HandS.Style
import HandS.Deep
import HandS.DeepEq
import HandS.Walk
import HandS.HeadHook4
import HandS.HeadWalk
import PyProof.ReprLen
import HandS.WideBits
import KE.KStar
import Flt.RightSqrt
import PySem.Challenge.RW_bringnear_k03_whole_gaps_of_pairs_and_tu
set_option Elab.async false
set_option linter.all false
set_option maxRecDepth 100000
set_option maxHeartbeats 1000000
/-! a generator expression's frame as a context of its own; its turns; all(..), any(..), tuple(..) of it -/
namespace GX
open PySem PySem.Spec PyProof.Rows L2 GxR GenW

/-- the context of a generator expression's frame: it began at s (its thing to walk was made before); go: the generator's object -/
abbrev gcx (X : Cx) (A : Around) (s : Shared) (H : Hp) (cenv : Env) (fp : List Addr) (pn : List (Addr × Obj)) : Cx :=
  { X with A := A.deeper cenv, s_0 := s, H_0 := H, env := cenv, outer := X.stack, stack := cenv :: X.stack, ex := fp, fn := fun _ => false, pn := pn, xe := fun _ _ => False }

structure GBlk (N : List Str) (sc scope : Scope) (own : List (Str × Nat)) : Prop where
  kind : scope.kind = .function
  co : scope.isCoroutine = false
  cell : ∀ y ∈ scope.names, y.2 ≠ .cell
  dot : scope.names.lookup (".0" : Str) = some NameKind.local
  uniq : ∀ y ∈ scope.names, scope.names.lookup y.1 = some y.2
  ix : ∀ p ∈ own, N[p.2]? = some p.1
  free : ∀ y ∈ scope.names, y.2 = .free → sc.names.lookup y.1 = some .cell ∨ sc.names.lookup y.1 = some .free
  own : ∀ y ∈ scope.names, y.2 = .local → y.1 ∈ own.map (·.1) ∨ y.1 ∉ N

abbrev cloOf (X : Cx) (scope : Scope) : List (Str × Addr) := cloFrom X.env.cells scope.names []

section
variable {X : Cx} {pins : List (Addr × Obj)} {σ : L2.St} {H : Hp} {s : Shared}
theorem cell_at {scope : Scope} {own : List (Str × Nat)} (I : Inv X pins σ H s) (ok : GBlk X.N X.env.scope scope own) : ∀ {y : Str} {c : Addr}, (cloOf X scope).lookup y = some c → scope.names.lookup y = some .free ∧ X.env.cells.lookup y = some c := by
  intro y c e
  rcases cloFrom_mem (PySem.mem_of_lookup e) with h | ⟨h1, h2⟩
  · cases h
  · have hk := ok.uniq _ h1
    have hf : ∃ c, X.env.cells.lookup y = some c := by
      rcases ok.free _ h1 rfl with k | k
      · exact I.ok.has _ (.inl k)
      · exact I.ok.has _ (.inr k)
    obtain ⟨c', hc⟩ := hf
    rw [hc] at h2
    have h2 : c = c' := h2
    exact ⟨hk, by rw [hc, h2]⟩
theorem cell_of {scope : Scope} {own : List (Str × Nat)} (I : Inv X pins σ H s) (ok : GBlk X.N X.env.scope scope own) {y : Str} (h : scope.names.lookup y = some .free) : ∃ c, (cloOf X scope).lookup y = some c ∧ X.env.cells.lookup y = some c := by
  obtain ⟨c, e⟩ := mem_lookup (cloFrom_has (cells := X.env.cells) (acc := []) (PySem.mem_of_lookup h))
  exact ⟨c, e, (cell_at I ok e).2⟩

theorem gen_start {scope : Scope} {own : List (Str × Nat)} {fp : List Addr} {A : Around} {code : Value} {go : Obj} {h5 : Heap} {gs : Array GenState} {tk : Nat} {m0 : Str → Option Value}
    (I : Inv X pins σ H s) (ok : GBlk X.N X.env.scope scope own) (hN : X.N.Nodup) (hfp : ∀ b ∈ fp, FpOk X pins H b ∧ b < s.heap.objs.size) (hh : A.handled = none) (hfr : A.frames = some X.stack)
    (hn : h5.Ns s.heap.objs.size m0) (hk : ∀ b o, s.heap.get? b = some o → h5.get? b = some o) (hgo : h5.get? (s.heap.objs.size + 1) = some go) (hgd : ∀ v, go.data ≠ .cell v) (hg : AllBare gs) :
    Inv (gcx X A s H (genEnv scope (cloOf X scope) s.heap.objs.size code builtinsNs X.env) fp [(s.heap.objs.size + 1, go)]) [] (wipe σ (own.map (·.2))) H { s with gens := gs, toks := tk, heap := h5 } := by
  have young : ∀ {b : Addr}, s.heap.objs.size ≤ b → H b = none := fun h => I.hok.fresh h
  have okB : (gcx X A s H (genEnv scope (cloOf X scope) s.heap.objs.size code builtinsNs X.env) fp [(s.heap.objs.size + 1, go)]).Ok := by
    refine ⟨I.ok.mod, ok.kind, I.ok.glob, rfl, Nat.le_refl _, fun y z c e1 e2 => ?_, fun y hy => ?_, fun y c z _ => (by cases z), fun _ => hh, Around.frames_deeper hfr, .inr ⟨rfl, rfl⟩, fun b hb => ⟨?_, fun y c e z => ?_⟩, I.bs, Nat.le_trans I.ok.bsz I.sz, fun b o e hb => ?_, fun b hb z => ?_, I.stack, I.stkFree⟩
    · exact I.ok.inj y z c (cell_at I ok e1).2 (cell_at I ok e2).2
    · have hy : scope.names.lookup y = some .cell ∨ scope.names.lookup y = some .free := hy
      rcases hy with hy | hy
      · exact absurd rfl (ok.cell _ (PySem.mem_of_lookup hy))
      · obtain ⟨c, e, _⟩ := cell_of I ok hy
        exact ⟨c, e⟩
    · exact Nat.ne_of_lt (hfp b hb).2
    · exact (hfp b hb).1.2.2.2.2.1 y c (cell_at I ok e).2 z
    · rcases (hfp b hb).1.2.2.2.1 with z | z
      · exact I.ok.noex b o e z
      · exact absurd (Nat.lt_of_lt_of_le (Heap.lt_size e) (Nat.le_trans I.ok.bsz z)) (Nat.lt_irrefl _)
    · rcases List.mem_cons.mp (I.stkSub b z) with z | z
      · exact (hfp b hb).1.2.1 z
      · exact (hfp b hb).1.2.2.1 z
  refine ⟨okB, rfl, hg, Un.kept hk, ⟨m0, hn, fun i y av e1 e2 e3 => ?_⟩, fun y c e => ?_, young (Nat.le_refl _), fun y c e => ?_, fun p hp => ?_, I.hok.kept hk, by rw [wipe_length]; exact I.len⟩
  · obtain ⟨e2, hne⟩ := wipe_some e2
    have e3 : scope.names.lookup y = some .local ∨ scope.names.lookup y = some .cell ∨ scope.names.lookup y = some .free := e3
    have hfr : scope.names.lookup y = some .free := by
      rcases e3 with e3 | e3 | e3
      · rcases ok.own _ (PySem.mem_of_lookup e3) rfl with e' | e'
        · obtain ⟨p, hp, hpy⟩ := List.mem_map.mp e'
          have e4 := ok.ix p hp
          have : p.1 = y := hpy
          rw [this] at e4
          exact absurd (List.mem_map.mpr ⟨p, hp, nodup_ix hN e4 e1⟩) hne
        · exact absurd (List.mem_of_getElem? e1) e'
      · exact absurd rfl (ok.cell _ (PySem.mem_of_lookup e3))
      · exact e3
    obtain ⟨m, hm, hl⟩ := I.loc
    have hvis : Vis X.env.scope y := (ok.free _ (PySem.mem_of_lookup hfr) rfl).elim (fun k => .inr (.inl k)) (fun k => .inr (.inr k))
    obtain ⟨w, r, q⟩ := hl i y av e1 e2 hvis
    obtain ⟨c, h1, h2⟩ := cell_of I ok hfr
    refine ⟨w, r, .inr ⟨.inr hfr, c, h1, ?_⟩⟩
    rcases q with ⟨k, _⟩ | ⟨_, c', e', z⟩
    · have k : X.env.scope.names.lookup y = some .local := k
      rcases ok.free _ (PySem.mem_of_lookup hfr) rfl with k' | k' <;> rw [show X.env.scope.names.lookup y = _ from k'] at k <;> cases k
    · rw [h2] at e'; cases e'
      exact z.keeps hk
  · obtain ⟨w, z⟩ := I.cell y c (cell_at I ok e).2
    exact ⟨w, z.keeps hk⟩
  · exact I.freeC y c (cell_at I ok e).2
  · have hp : p ∈ [(s.heap.objs.size + 1, go)] ++ [] := hp
    rw [List.append_nil] at hp
    rw [List.mem_singleton.mp hp]
    refine ⟨hgo, young (Nat.le_succ _), fun e => absurd e (Nat.succ_ne_self _), fun z => ?_, hgd⟩
    have z : s.heap.objs.size + 1 ∈ frs X.stack := z
    obtain ⟨_, o, ho, _⟩ := I.stack.mem z
    exact absurd (Heap.lt_size ho) (Nat.not_lt.mpr (Nat.le_succ _))
end
end GX

set_option Elab.async false
set_option linter.all false
set_option maxRecDepth 100000
set_option maxHeartbeats 1000000
namespace GX
open PySem PySem.Spec PyProof.Rows L2 GxR GenW

/-- the turns: W by the turn, a measure and the heap; stop: what is wanted at the end; yes: what is wanted of an item handed out, Nx what is to be there when it is woken again -/
def Turns (J : It) (g : TG) (tt : TT) (te : TE) (σ0 : L2.St) (vs : List Nat) (stop : Hp → Prop) (yes : V → Hp → (Hp → Prop) → Prop) (W : Nat → Nat → Hp → Prop) : Prop :=
  ∀ i m H, W i m H → (J.stop i H ∧ stop H) ∨ (J.go i H ∧ ∃ Nx : Hp → Prop, (∀ H', Nx H' → ∃ m', m' < m ∧ W (i + 1) m' H') ∧ ∀ x H', J.yld i H x H' → g x σ0 H' fun σ2 H2 => wipe σ2 vs = σ0 ∧ tt σ2 H2 fun b H3 =>
    if b = true then te σ2 H3 fun y H4 => yes y H4 Nx else Nx H3)

/-- asleep ahead of turn i -/
def Slp (Y : Cx) (fp : List Addr) (tn : Nat → Heap → Prop) (σ0 : L2.St) (i : Nat) (H : Hp) (s : Shared) : Prop := Inv Y [] σ0 H s ∧ tn i s.heap ∧ ∀ b ∈ fp, H b = none
def GEnd (Y : Cx) (fp : List Addr) (tn : Nat → Heap → Prop) (σ0 : L2.St) (stop : Hp → Prop) : Nat → Shared → Shared → Prop := fun _ _ s1 => ∃ H, Inv Y [] σ0 H s1 ∧ (∀ b ∈ fp, H b = none) ∧ stop H
def GRes (Y : Cx) (fp : List Addr) (tn : Nat → Heap → Prop) (σ0 : L2.St) (stop : Hp → Prop) : GenEnd := fun n s₀ r s1 =>
  ((r = .ok (.ret .none) ∨ r = .ok .next) ∧ GEnd Y fp tn σ0 stop n s₀ s1) ∨ ∃ e, r = .error e ∧ (fun _ _ => False : Value → Shared → Prop) e s1
def GPro (Y : Cx) (fp : List Addr) (tn : Nat → Heap → Prop) (σ0 : L2.St) (yes : V → Hp → (Hp → Prop) → Prop) : Protocol := fun n s₀ v s1 kap =>
  ∃ i y H Nx, RelV y v ∧ Slp Y fp tn σ0 i H s1 ∧ yes y H Nx ∧ ∀ H' s', Nx H' → Slp Y fp tn σ0 i H' s' → kap (.send .none) s'

theorem slp_fp {Y : Cx} {fp : List Addr} {σ : L2.St} {H : Hp} {s : Shared} (he : Y.ex = fp) (hp : Y.pn = [] ∨ ∀ p ∈ Y.pn, p.1 ∉ fp) (I : Inv Y [] σ H s) (hn : ∀ b ∈ fp, H b = none) : ∀ b ∈ fp, FpOk Y [] H b := fun b hb => by
  have hb' : b ∈ Y.ex := by rw [he]; exact hb
  refine ⟨hn b hb, (I.ok.exf b hb').1, I.ok.exfs b hb', .inl hb', fun x c e => (I.ok.exf b hb').2 x c e, fun p hp' => ?_⟩
  rw [List.append_nil] at hp'
  rcases hp with z | z
  · rw [z] at hp'; cases hp'
  · exact fun e => z p hp' (e ▸ hb)

theorem seg_turns {Y : Cx} {A : Around} {fp : List Addr} {tn : Nat → Heap → Prop} {J : It} {it : Addr} {tg elt iter : Expr} {ifs : List Expr} {scope : Scope} {pos : Pos} {g : TG} {tt : TT} {te : TE} {σ0 : L2.St} {vs : List Nat} {stop : Hp → Prop} {yes : V → Hp → (Hp → Prop) → Prop} {W : Nat → Nat → Hp → Prop}
    (hc : Y.calm = true) (hA : Y.A = A.deeper Y.env) (hxe : Y.xe = fun _ _ => False) (he : Y.ex = fp) (hpn : Y.pn = [] ∨ ∀ p ∈ Y.pn, p.1 ∉ fp) (hco : Y.env.scope.isCoroutine = false) (hs0 : wipe σ0 vs = σ0)
    (T : Turn Y.prog Y.w Y.K tg J fp it tn) (pg : PG Y tg g) (pt : PTs Y ifs tt) (pe : PE Y elt te) (tu : Turns J g tt te σ0 vs stop yes W) :
    ∀ (m n i : Nat) (H : Hp) (s₀ s : Shared), m < n → Slp Y fp tn σ0 i H s → W i m H →
      Seg (model Y.prog Y.w) A (GRes Y fp tn σ0 stop) (GPro Y fp tn σ0 yes) n s₀ (.compLoop (.GeneratorExp elt [⟨tg, iter, ifs, 0⟩] scope pos) 0 (.ref it) .none Y.env)
        ((model Y.prog Y.w).den (.compLoop (.GeneratorExp elt [⟨tg, iter, ifs, 0⟩] scope pos) 0 (.ref it) .none Y.env)) [] s := by
  have eA : A.over (.compLoop (.GeneratorExp elt [⟨tg, iter, ifs, 0⟩] scope pos) 0 (.ref it) .none Y.env) [] = Y.A := by rw [hA]; rfl
  intro m
  induction m using Nat.strongRecOn with
  | ind m ih =>
    intro n i H s₀ s hmn hS w0
    obtain ⟨I, htn, hfn⟩ := hS
    show Seg _ A _ _ _ s₀ _ ((compTurn (.GeneratorExp elt [⟨tg, iter, ifs, 0⟩] scope pos) 0 (.ref it) .none Y.env).onRaise (leaving Y.env)) [] s
    rw [compTurn_gen, Sem.onRaise_eq_wrap]
    refine seg_bind_wrap (wpAny_standAt ?_)
    rcases tu i m H w0 with ⟨hst, hq⟩ | ⟨hgo, Nx, hNx, step⟩
    · refine seg_bind_wrap ?_
      rw [eA]
      refine thnF (T.done Y rfl rfl rfl hc i [] s σ0 H (fun _ _ => False) I (slp_fp he hpn I hfn) htn hst) fun r s1 ⟨hr, I1⟩ => ?_
      subst hr
      exact seg_end (.ok .next) (.inl ⟨.inr rfl, H, I1, hfn, hq⟩)
    · refine seg_bind_wrap ?_
      rw [eA]
      refine thnF (T.item Y rfl rfl rfl hc i [] s σ0 H (fun _ _ => False) I (slp_fp he hpn I hfn) htn hgo) fun r s1 ⟨u, hr, h1⟩ => ?_
      subst hr
      refine seg_bind_wrap ?_
      rw [eA]
      refine thnF h1 fun _ s2 ⟨x, H2, I2, r2, y2, tn2, n2⟩ => ?_
      have I2' := I2.pinned (slp_fp he hpn I2 n2) (T.obj _ _ tn2)
      refine seg_bind_wrap ?_
      rw [eA]
      have hpg := pg.run _ s2 _ H2 x u _ I2' r2 (step x H2 y2)
      rw [hxe] at hpg
      refine thnF hpg fun _ s3 ⟨σ3, H3, I3, hw, q3⟩ => ?_
      refine seg_bind_wrap ?_
      rw [eA]
      have hpt := pt.run _ s3 σ3 H3 _ I3 q3
      rw [hxe] at hpt
      refine thnF hpt fun b s4 ⟨H4, I4, q4⟩ => ?_
      have fin : ∀ {s' : Shared} {H' : Hp}, Inv Y ([] ++ pinsAt fp s2.heap) σ3 H' s' → Slp Y fp tn σ0 (i + 1) H' s' := fun {s' H'} I' => by
        have pin' : ∀ b ∈ fp, ∀ o, s2.heap.get? b = some o → s'.heap.get? b = some o ∧ H' b = none := fun b hb o e =>
          let z := I'.pin (b, o) (List.mem_append_right _ (List.mem_append_right _ (mem_pinsAt hb e)))
          ⟨z.1, z.2.1⟩
        have hl : σ0.length = σ3.length := by rw [← hw, wipe_length]
        refine ⟨(I'.unpinned (pins := [])).weak hl (fun j v e => ?_), T.keep _ _ _ tn2 fun b hb o e => (pin' b hb o e).1, fun b hb => ?_⟩
        · rw [← hw] at e
          exact (wipe_some e).1
        · obtain ⟨o, e, _⟩ := T.obj _ _ tn2 b hb
          exact (pin' b hb o e).2
      cases b with
      | false =>
        simp only [Bool.false_eq_true, if_false] at q4 ⊢
        obtain ⟨m', hm, w'⟩ := hNx H4 q4
        exact seg_again rfl (ih m' hm n (i + 1) H4 s₀ s4 (by omega) (fin I4) w')
      | true =>
        simp only [if_true] at q4 ⊢
        obtain ⟨n, rfl⟩ : ∃ n', n = n' + 1 := ⟨n - 1, by omega⟩
        have hy : ∀ v, yieldOut Y.env v = yieldValue v := fun v => by simp only [yieldOut, hco, Bool.false_eq_true, if_false]
        simp only [hy]
        rw [Sem.bind_eq_wrap', Sem.bind_eq_wrap', Sem.wrap_wrap, Sem.wrap_wrap]
        refine seg_wrap ?_
        rw [eA]
        have hpe := pe.run _ s4 σ3 H4 _ I4 q4
        rw [hxe] at hpe
        refine thnF hpe fun z s5 ⟨y, H5, I5, r5, q5⟩ => ?_
        refine seg_at (seg_yield rfl rfl rfl ⟨i + 1, y, H5, Nx, r5, fin I5, q5, fun H' s' hN hS => ?_⟩)
        obtain ⟨m', hm, w'⟩ := hNx H' hN
        exact seg_again rfl (ih m' hm n (i + 1) H' s' s' (by omega) hS w')
end GX

set_option Elab.async false
set_option linter.all false
set_option maxRecDepth 100000
set_option maxHeartbeats 1000000
namespace GX
open PySem PySem.Spec PyProof.Rows L2 GxR GenW

theorem inv_gens {Y : Cx} {pins : List (Addr × Obj)} {σ : L2.St} {H : Hp} {s : Shared} {gs : Array GenState} (I : Inv Y pins σ H s) (hg : AllBare gs) : Inv Y pins σ H { s with gens := gs } :=
  I.call' (ch := []) rfl Un.refl I.hok hg fun b z => by simp at z

/-- the generator g, asleep: woken where Nx is, it goes on (n: how many items it may still hand out) -/
def GAt (Y : Cx) (A : Around) (fp : List Addr) (tn : Nat → Heap → Prop) (σ0 : L2.St) (stop : Hp → Prop) (yes : V → Hp → (Hp → Prop) → Prop) (g : Nat) (n i : Nat) (Nx : Hp → Prop) (s : Shared) : Prop :=
  ∃ gs, s.gens[g]? = some gs ∧ ∀ H' s', Nx H' → Slp Y fp tn σ0 i H' s' → gs.Goes (model Y.prog Y.w) A (GRes Y fp tn σ0 stop) (GPro Y fp tn σ0 yes) n (.send .none) s'

theorem gen_next {Y : Cx} {A : Around} {fp : List Addr} {tn : Nat → Heap → Prop} {σ0 : L2.St} {stop : Hp → Prop} {yes : V → Hp → (Hp → Prop) → Prop} {a : Addr} {go : Obj} {g n i : Nat} {H : Hp} {Nx : Hp → Prop} {s : Shared} {E : Value → Shared → Prop} {Q : Option Value → Shared → Prop}
    (hh : A.handled = none) (hd : A.depth < recursionLimit) (hp : (a, go) ∈ Y.pn) (hgo : ∀ h : Heap, h.get? a = some go → h.IsGen a g) (hS : Slp Y fp tn σ0 i H s) (hN : Nx H) (hG : GAt Y A.in1 fp tn σ0 stop yes g n i Nx s)
    (hQ : ∀ s' H', Inv Y [] σ0 H' s' → (∀ b ∈ fp, H' b = none) → stop H' → Q none s')
    (hY : ∀ u s' i' y H' Nx', RelV y u → Slp Y fp tn σ0 i' H' s' → yes y H' Nx' → (match n with | 0 => (∀ H'' s'', Nx' H'' → Slp Y fp tn σ0 i' H'' s'' → False) | m + 1 => GAt Y A.in1 fp tn σ0 stop yes g m i' Nx' s') → Q (some u) s') :
    wpAny (model Y.prog Y.w) A (pyNext (.ref a)) Q E s := by
  obtain ⟨gs, hgs, hgo1⟩ := hG
  have slpG : ∀ {i H s} {gs' : GenState}, Slp Y fp tn σ0 i H s → gs'.bare = true → Slp Y fp tn σ0 i H (s.setGen g gs') := fun {i H s gs'} z hb => ⟨inv_gens z.1 (allBare_setGen z.1.bare hb), z.2⟩
  have isG : ∀ {H s}, Inv Y [] σ0 H s → s.heap.IsGen a g := fun {H s} J => hgo _ (J.pin (a, go) (List.mem_append_left _ hp)).1
  have hgl : g < s.gens.size := (Array.getElem?_eq_some_iff.mp hgs).1
  refine wpAny_gsz (n := g + 1) hgl (next_genG (F := GEnd Y fp tn σ0 stop) (Er := fun _ _ => False) hh hS.1.nolimit hd (isG hS.1) hgs (hgo1 H _ hN (slpG hS rfl)) (fun v s₁ gs' hb hv hsz => ?_) (fun s₁ hF h' hk hsz => ?_) fun e s₁ z => z.elim)
  · obtain ⟨i', y, H', Nx', r, hS', hy, hk⟩ := hv
    have hsz1 : g < s₁.gens.size := by
      have q : (s₁.setGen g gs').gens.size = s₁.gens.size := setGen_size _ _ _
      have hsz' : g + 1 ≤ (s₁.setGen g gs').gens.size := hsz
      omega
    refine hY v _ i' y H' Nx' r (slpG hS' hb) hy ?_
    cases n with
    | zero => exact fun H'' s'' a b => hk H'' s'' a b
    | succ m => exact ⟨gs', setGen_at hsz1, fun H'' s'' a b => hk H'' s'' a b⟩
  · obtain ⟨H', J, hf, hst⟩ := hF
    have J1 := inv_gens J (allBare_setGen (g := g) (x := .finished) J.bare rfl)
    have J2 : Inv Y [] σ0 H' { s₁.setGen g .finished with heap := h' } := J1.kept (t' := s₁.toks) hk
    exact hQ _ H' J2 hf hst

/-- the fresh generator's code begins -/
theorem gen_goes {Y : Cx} {A : Around} {fp : List Addr} {tn : Nat → Heap → Prop} {J : It} {it : Addr} {tg elt iter : Expr} {ifs : List Expr} {scope : Scope} {pos : Pos} {g : TG} {tt : TT} {te : TE} {σ0 : L2.St} {vs : List Nat} {stop : Hp → Prop} {yes : V → Hp → (Hp → Prop) → Prop} {W : Nat → Nat → Hp → Prop}
    (hc : Y.calm = true) (hA : Y.A = A.deeper Y.env) (hxe : Y.xe = fun _ _ => False) (he : Y.ex = fp) (hpn : Y.pn = [] ∨ ∀ p ∈ Y.pn, p.1 ∉ fp) (hco : Y.env.scope.isCoroutine = false) (hs0 : wipe σ0 vs = σ0)
    (T : Turn Y.prog Y.w Y.K tg J fp it tn) (pg : PG Y tg g) (pt : PTs Y ifs tt) (pe : PE Y elt te) (tu : Turns J g tt te σ0 vs stop yes W) {m n : Nat} {H : Hp} {s : Shared} (hmn : m < n) (hS : Slp Y fp tn σ0 0 H s) (w0 : W 0 m H) :
    (GenState.fresh (.compStart (.GeneratorExp elt [⟨tg, iter, ifs, 0⟩] scope pos) 0 (.ref it) .none Y.env)).Goes (model Y.prog Y.w) A (GRes Y fp tn σ0 stop) (GPro Y fp tn σ0 yes) n (.send .none) s := by
  refine ⟨rfl, ?_⟩
  have loop := seg_turns (scope := scope) (pos := pos) (iter := iter) hc hA hxe he hpn hco hs0 T pg pt pe tu m n 0 H s s hmn hS w0
  show Seg _ A _ _ _ s _ ((compStart (.GeneratorExp elt [⟨tg, iter, ifs, 0⟩] scope pos) 0 (.ref it) .none Y.env).onRaise (leaving Y.env)) [] s
  unfold compStart
  rw [Sem.onRaise_eq_wrap]
  show Seg _ A _ _ _ s _ ((ask >>= _).wrap _ _ _ _) [] s
  refine seg_bind_wrap (wpAny_askSetting ?_)
  have slf : ∀ (A' : Around) (Q : Value → Shared → Prop) (E : Value → Shared → Prop), Q (.ref it) s → wpAny (model Y.prog Y.w) A' (pyIter (.ref it)) Q E s := fun A' Q E q => T.self A' 0 s Q E hS.2.1 q
  split
  · exact seg_again rfl loop
  · first
      | exact seg_bind_wrap (wpAny_rule (seg_bind_wrap (wpAny_standAt (seg_bind_wrap (slf _ _ _ (seg_again rfl loop))))))
      | (refine seg_bind_wrap (wpAny_rule ?_); show Seg _ A _ _ _ s _ ((standAt iter.pos >>= _).wrap _ _ _ _) [] s; exact seg_bind_wrap (wpAny_standAt (seg_bind_wrap (slf _ _ _ (seg_again rfl loop)))))

/-- all.loop -/
theorem all_loop {Y : Cx} {A : Around} {fp : List Addr} {tn : Nat → Heap → Prop} {σ0 : L2.St} {Q : VK} {a : Addr} {go : Obj} {g : Nat} {R : Result → Shared → Prop}
    (hh : A.handled = none) (hd : A.depth < recursionLimit) (hp : (a, go) ∈ Y.pn) (hgo : ∀ h : Heap, h.get? a = some go → h.IsGen a g)
    (hR : ∀ b H' s', Inv Y [] σ0 H' s' → (∀ b ∈ fp, H' b = none) → Q (.bl b) H' → R (.ok (.ret (.bool b))) s') :
    ∀ (n i : Nat) (H : Hp) (Nx : Hp → Prop) (s : Shared), Slp Y fp tn σ0 i H s → Nx H →
      GAt Y A.in1.in1 fp tn σ0 (fun H => Q (.bl true) H) (fun y H N => ∃ k, y = .bl k ∧ if k = true then N H else Q (.bl false) H) g n i Nx s →
      codeAny (model Y.prog Y.w) A (.builtin "all.loop" ⟨[.ref a], []⟩) R s := by
  intro n
  induction n with
  | zero =>
    intro i H Nx s hS hN hG
    refine codeAny_builtin F.entry_all_loop ?_
    rw [Around.under_plainId F.plain_all_loop _]
    show wpAny _ A.in1 (pyNext (.ref a) >>= _) _ _ s
    refine wpAny_bind (gen_next (A := A.in1) hh hd hp hgo hS hN hG (fun s' H' J hf q => ?_) fun u s' i' y H' Nx' r hS' hy hk => ?_)
    · exact wpAny_bind (wpAny_rule (wpAny_pure (hR true H' s' J hf q)))
    · obtain ⟨k, rfl, q⟩ := hy
      obtain rfl : u = Value.bool k := r
      refine wpAny_bind (wpAny_holding (wpAny_truthy_bool ?_))
      refine wpAny_bind (wpAny_letGo ?_)
      cases k with
      | true => exact (hk H' s' q hS').elim
      | false => exact wpAny_bind (wpAny_rule (wpAny_pure (hR false H' s' hS'.1 hS'.2.2 q)))
  | succ n ih =>
    intro i H Nx s hS hN hG
    refine codeAny_builtin F.entry_all_loop ?_
    rw [Around.under_plainId F.plain_all_loop _]
    show wpAny _ A.in1 (pyNext (.ref a) >>= _) _ _ s
    refine wpAny_bind (gen_next (A := A.in1) hh hd hp hgo hS hN hG (fun s' H' J hf q => ?_) fun u s' i' y H' Nx' r hS' hy hk => ?_)
    · exact wpAny_bind (wpAny_rule (wpAny_pure (hR true H' s' J hf q)))
    · obtain ⟨k, rfl, q⟩ := hy
      obtain rfl : u = Value.bool k := r
      refine wpAny_bind (wpAny_holding (wpAny_truthy_bool ?_))
      refine wpAny_bind (wpAny_letGo ?_)
      cases k with
      | true => exact wpAny_pure ⟨plainId_quiet F.plain_all_loop _, ih i' H' Nx' s' hS' q hk⟩
      | false => exact wpAny_bind (wpAny_rule (wpAny_pure (hR false H' s' hS'.1 hS'.2.2 q)))
/-- any.loop -/
theorem any_loop {Y : Cx} {A : Around} {fp : List Addr} {tn : Nat → Heap → Prop} {σ0 : L2.St} {Q : VK} {a : Addr} {go : Obj} {g : Nat} {R : Result → Shared → Prop}
    (hh : A.handled = none) (hd : A.depth < recursionLimit) (hp : (a, go) ∈ Y.pn) (hgo : ∀ h : Heap, h.get? a = some go → h.IsGen a g)
    (hR : ∀ b H' s', Inv Y [] σ0 H' s' → (∀ b ∈ fp, H' b = none) → Q (.bl b) H' → R (.ok (.ret (.bool b))) s') :
    ∀ (n i : Nat) (H : Hp) (Nx : Hp → Prop) (s : Shared), Slp Y fp tn σ0 i H s → Nx H →
      GAt Y A.in1.in1 fp tn σ0 (fun H => Q (.bl false) H) (fun y H N => ∃ k, y = .bl k ∧ if k = true then Q (.bl true) H else N H) g n i Nx s →
      codeAny (model Y.prog Y.w) A (.builtin "any.loop" ⟨[.ref a], []⟩) R s := by
  intro n
  induction n with
  | zero =>
    intro i H Nx s hS hN hG
    refine codeAny_builtin F.entry_any_loop ?_
    rw [Around.under_plainId F.plain_any_loop _]
    show wpAny _ A.in1 (pyNext (.ref a) >>= _) _ _ s
    refine wpAny_bind (gen_next (A := A.in1) hh hd hp hgo hS hN hG (fun s' H' J hf q => ?_) fun u s' i' y H' Nx' r hS' hy hk => ?_)
    · exact wpAny_bind (wpAny_rule (wpAny_pure (hR false H' s' J hf q)))
    · obtain ⟨k, rfl, q⟩ := hy
      obtain rfl : u = Value.bool k := r
      refine wpAny_bind (wpAny_holding (wpAny_truthy_bool ?_))
      refine wpAny_bind (wpAny_letGo ?_)
      cases k with
      | false => exact (hk H' s' q hS').elim
      | true => exact wpAny_bind (wpAny_rule (wpAny_pure (hR true H' s' hS'.1 hS'.2.2 q)))
  | succ n ih =>
    intro i H Nx s hS hN hG
    refine codeAny_builtin F.entry_any_loop ?_
    rw [Around.under_plainId F.plain_any_loop _]
    show wpAny _ A.in1 (pyNext (.ref a) >>= _) _ _ s
    refine wpAny_bind (gen_next (A := A.in1) hh hd hp hgo hS hN hG (fun s' H' J hf q => ?_) fun u s' i' y H' Nx' r hS' hy hk => ?_)
    · exact wpAny_bind (wpAny_rule (wpAny_pure (hR false H' s' J hf q)))
    · obtain ⟨k, rfl, q⟩ := hy
      obtain rfl : u = Value.bool k := r
      refine wpAny_bind (wpAny_holding (wpAny_truthy_bool ?_))
      refine wpAny_bind (wpAny_letGo ?_)
      cases k with
      | false => exact wpAny_pure ⟨plainId_quiet F.plain_any_loop _, ih i' H' Nx' s' hS' q hk⟩
      | true => exact wpAny_bind (wpAny_rule (wpAny_pure (hR true H' s' hS'.1 hS'.2.2 q)))
end GX

set_option Elab.async false
set_option linter.all false
set_option maxRecDepth 100000
set_option maxHeartbeats 1000000
namespace GX
open PySem PySem.Spec PyProof.Rows L2 GxR GenW

section
variable {X : Cx} {pins : List (Addr × Obj)} {σ : L2.St} {H : Hp} {s : Shared}
/-- a generator expression's object at a, fresh; behind iter's evaluation the walk J stands in H2 -/
def Made (X : Cx) (pins : List (Addr × Obj)) (σ : L2.St) (vs : List Nat) (scope : Scope) (elt tg iter : Expr) (ifs : List Expr) (gpos : Pos) (J : It) (H2 : Hp) (a : Addr) (s5 : Shared) : Prop :=
  ∃ (s4 : Shared) (C : Addr) (code : Value) (go : Obj) (gn : Nat) (fp : List Addr) (tn : Nat → Heap → Prop) (it : Addr),
    (∀ h : Heap, h.get? a = some go → h.IsGen a gn) ∧
    s5.gens[gn]? = some (.fresh (.compStart (.GeneratorExp elt [⟨tg, iter, ifs, 0⟩] scope gpos) 0 (.ref it) .none (genEnv scope (cloOf X scope) C code builtinsNs X.env))) ∧
    Turn X.prog X.w X.K tg J fp it tn ∧ a ∉ fp ∧
    (∀ A : Around, A.handled = none → A.frames = some X.stack → Slp (gcx X A s4 H2 (genEnv scope (cloOf X scope) C code builtinsNs X.env) fp [(a, go)]) fp tn (wipe σ vs) 0 H2 s5) ∧
    (∀ (A : Around) H' s', Inv (gcx X A s4 H2 (genEnv scope (cloOf X scope) C code builtinsNs X.env) fp [(a, go)]) [] (wipe σ vs) H' s' → (∀ b ∈ fp, H' b = none) → Inv X pins σ H' s')

theorem gen_make {c P : Addr} {elt iter tg : Expr} {ifs : List Expr} {gpos : Pos} {scope : Scope} {own : List (Str × Nat)} {wi : TI} {k : Nat} {Q' : Value → Shared → Prop} {R : It → Hp → Prop}
    (hr : Room k X.A) (hN : X.N.Nodup) (TB : TabB X.base X.mg c P) (hcode : X.env.code = .ref c) (ok : GBlk X.N X.env.scope scope own) (hi : PI X tg iter wi)
    (hs : ∀ v, genFold iter X.env v = pure v) (I : Inv X pins σ H s) (h : wi σ H fun J H1 => TabG H1 P ∧ ∀ H2, Tabbed P H1 H2 → R J H2)
    (hQ : ∀ J H2 a s5, R J H2 → Made X pins σ (own.map (·.2)) scope elt tg iter ifs gpos J H2 a s5 → Q' (.ref a) s5) :
    wpAny (model X.prog X.w) X.A (eval (.GeneratorExp elt [⟨tg, iter, ifs, 0⟩] scope gpos) X.env) Q' X.xe s := by
  have hfree : ∀ y ∈ scope.names, y.2 = .free → ∃ c, X.env.cells.lookup y.1 = some c := fun y hy e => by
    rcases ok.free y hy e with k | k
    · exact I.ok.has _ (.inl k)
    · exact I.ok.has _ (.inr k)
  refine wpAny_GeneratorExp_make ok.co (closure_ok hfree) ok.cell ok.dot ok.kind (by have := hr.dp; omega) ?_ hs
  refine thn (hi.run pins s σ H _ I h) fun xv s1 h1 => thn h1 fun itv s2 h2 => ?_
  obtain ⟨it, fp, tn, J, H1, rfl, I1, T, tn0, hfp, ⟨ps, hP, ht⟩, q1⟩ := h2
  have hPs : s2.heap.get? P = some { cls := .none, data := .fields ps } := I1.hok P _ hP
  have hPlt : P < s2.heap.objs.size := Heap.lt_size hPs
  have cd : PySem.W.CodeHd s2.heap c P := TB.code.keeps fun b u e => I1.bk b u e
  have nfp : P ∉ fp := fun hb => by
    have := (hfp P hb).1
    rw [hP] at this; cases this
  have lt : ∀ b ∈ fp, b < s2.heap.objs.size := fun b hb => by
    obtain ⟨o, e, _⟩ := T.obj _ _ tn0 b hb
    exact Heap.lt_size e
  refine ⟨I1.nolimit, ?_⟩
  have cont : ∀ (code : Value) (h3 : Heap) (tk : Nat) (ps' : Array Value), Heap.ExtBut P s2.heap h3 → s2.heap.objs.size ≤ h3.objs.size → h3.get? P = some { cls := .none, data := .fields ps' } → (∃ more, ps' = ps ++ more) → TriplesOk ps'.toList →
      wpAny (model X.prog X.w) X.A (builtinsFor X.env.globals X.env.builtins) (fun bi s₄ =>
        ∀ h', h'.Ns s₄.heap.objs.size (fun y => if y = ".0" then some (.ref it) else none) → Heap.SameBut s₄.heap.objs.size (s₄.heap.push { cls := .type "frame", data := .dict #[] }) h' →
          Q' (.ref h'.objs.size) { s₄ with
            gens := s₄.gens.push (.fresh (.compStart (.GeneratorExp elt [⟨tg, iter, ifs, 0⟩] scope gpos) 0 (.ref it) .none (genEnv scope (cloOf X scope) s₄.heap.objs.size code bi X.env))),
            toks := s₄.toks + 1 + 1 + 1,
            heap := h'.push { cls := .type "generator", data := .fields #[.int s₄.gens.size 0, .str "<genexpr>" (s₄.toks + 1), .str (X.env.qual ++ "<genexpr>") (s₄.toks + 1 + 1)] } }) X.xe { s2 with heap := h3, toks := tk } := by
    intro code h3 tk ps' hx hsz hP3 hmore ht3
    obtain ⟨bm, ob, e1, e2, e3, e4, e5, e6, e7, e8⟩ := TB.bm
    obtain ⟨more, em⟩ := hmore
    have keep3 : ∀ b u, b ≠ P → s2.heap.get? b = some u → h3.get? b = some u := fun b u hb e => hx b u hb e
    have J3 := inv_tab (more := more) (h' := h3) (g' := s2.gens) (d' := s2.drawn) (t' := tk) I1 hP (fun b u hb e => hx b u hb e) (by rw [← em]; exact hP3) I1.bare
    have hT2 : Tabbed P H1 (upd H1 P (.tbl (ps ++ more))) := ⟨⟨ps ++ more, upd_same, by rw [← em]; exact ht3⟩, fun b hb => upd_ne hb⟩
    have fp3 : ∀ b ∈ fp, FpOk X pins (upd H1 P (.tbl (ps ++ more))) b ∧ b < h3.objs.size := fun b hb => by
      have bP : b ≠ P := fun e => nfp (by rw [← e]; exact hb)
      refine ⟨⟨?_, (hfp b hb).2⟩, Nat.lt_of_lt_of_le (lt b hb) hsz⟩
      rw [upd_ne bP]
      exact (hfp b hb).1
    have tn3 : tn 0 h3 := T.keep _ _ _ tn0 fun b hb o e => hx b o (fun z => nfp (by rw [← z]; exact hb)) e
    refine wpAny_builtinsFor (m := X.mg) (by rw [I1.ok.glob]; exact ((I1.mod.glob.keeps I1.bk)).extBut hx TB.gP) e1 e2 (keep3 _ _ e4 (I1.bk _ _ e5)) e6 e7 e8 ?_
    intro h' hn' hs'
    have hn' : h'.Ns h3.objs.size (fun y => if y = ".0" then some (.ref it) else none) := hn'
    have hs' : Heap.SameBut h3.objs.size (h3.push { cls := .type "frame", data := .dict #[] }) h' := hs'
    have sz' : h'.objs.size = h3.objs.size + 1 := by rw [hs'.1, Heap.size_push]
    have keep' : ∀ b o, h3.get? b = some o → h'.get? b = some o := fun b o e => hs'.extBut b o (Nat.ne_of_lt (Heap.lt_size e)) (Heap.get?_push_of_some _ e)
    rw [sz']
    refine hQ J _ _ _ (q1 _ hT2) ?_
    refine ⟨{ s2 with heap := h3, toks := tk }, h3.objs.size, code, { cls := .type "generator", data := .fields #[.int s2.gens.size 0, .str "<genexpr>" (tk + 1), .str (X.env.qual ++ "<genexpr>") (tk + 1 + 1)] }, s2.gens.size, fp, tn, it, fun h e => ⟨_, _, _, e, rfl, rfl, rfl⟩, Array.getElem?_push_size .., T, ?_, fun A hh hfr => ⟨?_, ?_, fun b hb => (fp3 b hb).1.1⟩, fun A H' s' J' hf' => ?_⟩
    · intro hb
      have := lt _ hb
      exact absurd (Nat.lt_of_lt_of_le this hsz) (Nat.not_lt.mpr (Nat.le_succ _))
    · refine gen_start (h5 := h'.push _) (code := code) J3 ok hN fp3 hh hfr (hn'.push _) (fun b o e => Heap.get?_push_of_some _ (keep' b o e)) ?_ (fun v z => by cases z) (AllBare.push J3.bare rfl)
      show (h'.push _).get? (h3.objs.size + 1) = _
      rw [← sz']
      exact Heap.get?_push_size _ rfl
    · exact T.keep _ _ _ tn3 fun b _ o e => Heap.get?_push_of_some _ (keep' b o e)
    · exact J3.call' (ch := fp) J'.os J'.base J'.hok J'.bare fun b hb => ⟨(fp3 b hb).1.2.2.2.1, (fp3 b hb).1.2.1, (fp3 b hb).1.2.2.2.2.1, (fp3 b hb).1.2.2.2.2.2⟩
  cases hf : codeAmong gpos ps.toList with
  | none =>
    refine wpAny_genexprCodeX hcode (cd.code hPs ht) (cd.tab hPs) hf fun c' h' tk hx hge hlt hco' _ htab' _ => ?_
    obtain ⟨o1, vs, f1, tf, fl, tg, inF, tx, tt, op, _, _, _, _, _, _, _, _, _, htr, _⟩ := hco'
    exact cont _ h' tk _ hx (Nat.le_trans hge (Nat.le_of_lt hlt)) htab'.2 ⟨_, rfl⟩ htr
  | some cv =>
    refine wpAny_genexprCode_hit hcode (cd.code hPs ht) hf ?_
    exact cont cv s2.heap s2.toks ps (Heap.ExtBut.refl _ _) (Nat.le_refl _) hPs ⟨#[], by simp⟩ ht
end
end GX

set_option Elab.async false
set_option linter.all false
set_option maxRecDepth 100000
set_option maxHeartbeats 1000000
namespace GX
open PySem PySem.Spec PyProof.Rows L2 GxR GenW

theorem room_gen {k : Nat} {A : Around} (r : Room (k + 1) A) (env : Env) : Room k (A.in1.in1.deeper env) :=
  ⟨r.hd, by have := r.dp; show A.depth + 1 + 3 * k + 5 < _; omega, by have := r.un; show A.units + 1 + 1 + 3 + 16 * k + 200 < _; omega⟩
theorem room_gen4 {k : Nat} {A : Around} (r : Room (k + 1) A) (env : Env) : Room k (A.in1.in1.in1.in1.deeper env) :=
  ⟨r.hd, by have := r.dp; show A.depth + 1 + 3 * k + 5 < _; omega, by have := r.un; show A.units + 1 + 1 + 1 + 1 + 3 + 16 * k + 200 < _; omega⟩
theorem room_gen5 {k : Nat} {A : Around} (r : Room (k + 1) A) (env : Env) : Room k (A.in1.in1.in1.in1.in1.deeper env) :=
  ⟨r.hd, by have := r.dp; show A.depth + 1 + 3 * k + 5 < _; omega, by have := r.un; show A.units + 1 + 1 + 1 + 1 + 1 + 3 + 16 * k + 200 < _; omega⟩

/-- the parts of a generator expression, read in its frame's context -/
structure GParts (X : Cx) (k : Nat) (scope : Scope) (tg elt : Expr) (ifs : List Expr) (g : TG) (tt : TT) (te : TE) : Prop where
  g : ∀ (A : Around) (s : Shared) (H : Hp) (C : Addr) (code : Value) (fp : List Addr) (pn : List (Addr × Obj)), Room k (A.deeper (genEnv scope (cloOf X scope) C code builtinsNs X.env)) → PG (gcx X A s H (genEnv scope (cloOf X scope) C code builtinsNs X.env) fp pn) tg g
  t : ∀ (A : Around) (s : Shared) (H : Hp) (C : Addr) (code : Value) (fp : List Addr) (pn : List (Addr × Obj)), Room k (A.deeper (genEnv scope (cloOf X scope) C code builtinsNs X.env)) → PTs (gcx X A s H (genEnv scope (cloOf X scope) C code builtinsNs X.env) fp pn) ifs tt
  e : ∀ (A : Around) (s : Shared) (H : Hp) (C : Addr) (code : Value) (fp : List Addr) (pn : List (Addr × Obj)), Room k (A.deeper (genEnv scope (cloOf X scope) C code builtinsNs X.env)) → PE (gcx X A s H (genEnv scope (cloOf X scope) C code builtinsNs X.env) fp pn) elt te

/-- the made generator, ahead of its first waking -/
theorem made_gat {X : Cx} {pins : List (Addr × Obj)} {σ : L2.St} {s5 : Shared} {scope : Scope} {elt tg iter : Expr} {ifs : List Expr} {gpos : Pos} {J : It} {H2 : Hp} {vs : List Nat} {k : Nat} {g : TG} {tt : TT} {te : TE} {a : Addr} (hc : X.calm = true) (hco : scope.isCoroutine = false)
    (G : GParts X k scope tg elt ifs g tt te) (M : Made X pins σ vs scope elt tg iter ifs gpos J H2 a s5) :
    ∃ (Yof : Around → Cx) (gn : Nat) (go : Obj) (fp : List Addr) (tn : Nat → Heap → Prop),
      (∀ A, (Yof A).prog = X.prog ∧ (Yof A).w = X.w) ∧ (∀ A, (a, go) ∈ (Yof A).pn) ∧ (∀ h : Heap, h.get? a = some go → h.IsGen a gn) ∧ a ∉ fp ∧
      (∀ A : Around, A.handled = none → A.frames = some X.stack → Slp (Yof A) fp tn (wipe σ vs) 0 H2 s5) ∧
      (∀ A H' s', Inv (Yof A) [] (wipe σ vs) H' s' → (∀ b ∈ fp, H' b = none) → Inv X pins σ H' s') ∧
      (∀ i h h', tn i h → (∀ b ∈ fp, ∀ o, h.get? b = some o → h'.get? b = some o) → tn i h') ∧ (∀ i (h : Heap), tn i h → ∀ b ∈ fp, b < h.objs.size) ∧
      (∀ (A : Around) (stop : Hp → Prop) (yes : V → Hp → (Hp → Prop) → Prop) (W : Nat → Nat → Hp → Prop) (m : Nat) (H : Hp) (s : Shared), (∀ env, Room k (A.deeper env)) → Turns J g tt te (wipe σ vs) vs stop yes W → W 0 m H → s.gens[gn]? = s5.gens[gn]? →
        GAt (Yof A) A fp tn (wipe σ vs) stop yes gn (m + 1) 0 (fun H' => H' = H) s) := by
  obtain ⟨s4, C, code, go, gn, fp, tn, it, h1, h2, T, h3, h4, h5⟩ := M
  refine ⟨fun A => gcx X A s4 H2 (genEnv scope (cloOf X scope) C code builtinsNs X.env) fp [(a, go)], gn, go, fp, tn, fun A => ⟨rfl, rfl⟩, fun A => List.mem_singleton.mpr rfl, h1, h3, h4, h5, fun i h h' a b => T.keep i h h' a b, fun i h a b hb => (by obtain ⟨o, e, _⟩ := T.obj i h a b hb; exact Heap.lt_size e), fun A stop yes W m H s hr tu w0 hg => ?_⟩
  refine ⟨_, by rw [hg]; exact h2, fun H' s' e hS => ?_⟩
  subst e
  have ww : wipe (wipe σ vs) vs = wipe σ vs := by
    refine List.ext_getElem? fun j => ?_
    have key : ∀ (τ : L2.St) (us : List Nat), (∀ v ∈ us, v < τ.length → τ[v]? = some none) → wipe τ us = τ := by
      intro τ us
      induction us with
      | nil => intro _; rfl
      | cons v us ih =>
        intro h
        unfold wipe
        rw [ih fun u hu => h u (List.mem_cons_of_mem _ hu)]
        refine List.ext_getElem? fun i => ?_
        by_cases e : v = i
        · subst e
          by_cases hl : v < τ.length
          · rw [List.getElem?_set_self hl, h v List.mem_cons_self hl]
          · rw [List.getElem?_eq_none (by simpa using hl), List.getElem?_eq_none (by simpa using hl)]
        · rw [List.getElem?_set_ne e]
    have none_at : ∀ (τ : L2.St) (us : List Nat), ∀ v ∈ us, v < (wipe τ us).length → (wipe τ us)[v]? = some none := by
      intro τ us
      induction us with
      | nil => intro v hv; cases hv
      | cons u us ih =>
        intro v hv hl
        unfold wipe at hl ⊢
        rw [List.length_set] at hl
        by_cases e : u = v
        · subst e
          rw [List.getElem?_set_self hl]
        · rw [List.getElem?_set_ne e]
          rcases List.mem_cons.mp hv with z | z
          · exact absurd z.symm e
          · exact ih v z hl
    rw [key _ vs (none_at σ vs)]
  exact gen_goes (Y := gcx X A s4 H2 (genEnv scope (cloOf X scope) C code builtinsNs X.env) fp [(a, go)]) (scope := scope) (pos := gpos) hc rfl rfl rfl (.inr fun p hp => by rw [List.mem_singleton.mp hp]; exact h3) hco ww T
    (G.g A s4 H2 C code fp _ (hr _)) (G.t A s4 H2 C code fp _ (hr _)) (G.e A s4 H2 C code fp _ (hr _)) tu (Nat.lt_succ_self m) hS w0

def tAllG (P : Addr) (wi : TI) (g : TG) (tt : TT) (te : TE) (vs : List Nat) : TE := fun σ H Q => wi σ H fun J H1 => TabG H1 P ∧ ∀ H2, Tabbed P H1 H2 → ∃ W : Nat → Nat → Hp → Prop, (∃ m, W 0 m H2) ∧
  Turns J g tt te (wipe σ vs) vs (fun H => Q (.bl true) H) (fun y H N => ∃ k, y = .bl k ∧ if k = true then N H else Q (.bl false) H) W
def tAnyG (P : Addr) (wi : TI) (g : TG) (tt : TT) (te : TE) (vs : List Nat) : TE := fun σ H Q => wi σ H fun J H1 => TabG H1 P ∧ ∀ H2, Tabbed P H1 H2 → ∃ W : Nat → Nat → Hp → Prop, (∃ m, W 0 m H2) ∧
  Turns J g tt te (wipe σ vs) vs (fun H => Q (.bl false) H) (fun y H N => ∃ k, y = .bl k ∧ if k = true then Q (.bl true) H else N H) W

section
variable {X : Cx} {c P : Addr} {elt tg iter : Expr} {ifs : List Expr} {scope : Scope} {own : List (Str × Nat)} {p pos gpos : Pos} {wi : TI} {g : TG} {tt : TT} {te : TE} {k : Nat}
theorem pe_allG (hr : Room (k + 1) X.A) (hg : Gl X "all") (hm : X.mg "all" = none) (hc : X.calm = true) (hN : X.N.Nodup) (TB : TabB X.base X.mg c P) (hcode : X.env.code = .ref c) (hi : PI X tg iter wi) (ok : GBlk X.N X.env.scope scope own) (G : GParts X k scope tg elt ifs g tt te)
    (hb : bootBuiltins "all" = some (.builtin "all") := by decide +kernel) (hs : ∀ v, genFold iter X.env v = pure v := by intro _; rfl)
    (he : starEach [.GeneratorExp elt [⟨tg, iter, ifs, 0⟩] scope gpos] X.env = (false, eval (.GeneratorExp elt [⟨tg, iter, ifs, 0⟩] scope gpos) X.env) :: starEach [] X.env := by rfl) :
    PE X (.Call (.Name "all" p) [.GeneratorExp elt [⟨tg, iter, ifs, 0⟩] scope gpos] [] pos) (tAllG P wi g tt te (own.map (·.2))) := by
  refine ⟨fun pins s σ H Q I h => ?_⟩
  refine wpAny_Call_Name_kw (ld_blt I hg hm hb ?_)
  refine PyProof.Rows.callWith_builtin1 ?_ he (by rfl)
  rw [he]
  show wpAny _ _ (spliced ((false, eval (.GeneratorExp elt [⟨tg, iter, ifs, 0⟩] scope gpos) X.env) :: backTo pos (starEach [] X.env))) _ _ s
  refine Calls.spliced_cons (gen_make hr hN TB hcode ok hi hs I h fun J H2 a s5 hR M => ?_)
  obtain ⟨W, ⟨m, w0⟩, tu⟩ := hR
  obtain ⟨Yof, gn, go, fp, tn, hprog, hp, hgo, hafp, hslp, hback, _, _, hgat⟩ := made_gat hc ok.co G M
  refine Calls.spliced_nil ?_
  have hfr : X.A.frames = some X.stack := I.ok.frames
  have S := hslp X.A.in1.in1 hr.hd hfr
  have Ga := hgat X.A.in1.in1 _ _ W m H2 s5 (fun env => room_gen hr env) tu w0 rfl
  obtain ⟨e1, e2⟩ := hprog X.A.in1.in1
  refine call_function_tree F.kind_all F.plain_all F.entry_all (F.args_all1 _) ?_
  unfold Builtin.«all»
  refine wpAny_bind (m := oneArg "all" _) (wpAny_pure ?_)
  have isG : s5.heap.IsGen a gn := hgo _ (S.1.pin (a, go) (List.mem_append_left _ (hp _))).1
  refine wpAny_bind (wpAny_pyIter_gen isG ?_)
  refine wpAny_pure ⟨plainId_quiet F.plain_all_loop _, ?_⟩
  rw [← e1, ← e2]
  exact all_loop (Y := Yof X.A.in1.in1) (A := X.A) (Q := Q) hr.hd (by have := hr.dp; omega) (hp _) hgo (fun b H' s' J' hf q => ⟨.bl b, H', hback _ H' s' J' hf, rfl, q⟩) (m + 1) 0 H2 (fun H' => H' = H2) s5 S rfl Ga
theorem pe_anyG (hr : Room (k + 1) X.A) (hg : Gl X "any") (hm : X.mg "any" = none) (hc : X.calm = true) (hN : X.N.Nodup) (TB : TabB X.base X.mg c P) (hcode : X.env.code = .ref c) (hi : PI X tg iter wi) (ok : GBlk X.N X.env.scope scope own) (G : GParts X k scope tg elt ifs g tt te)
    (hs : ∀ v, genFold iter X.env v = pure v := by intro _; rfl)
    (he : starEach [.GeneratorExp elt [⟨tg, iter, ifs, 0⟩] scope gpos] X.env = (false, eval (.GeneratorExp elt [⟨tg, iter, ifs, 0⟩] scope gpos) X.env) :: starEach [] X.env := by rfl) :
    PE X (.Call (.Name "any" p) [.GeneratorExp elt [⟨tg, iter, ifs, 0⟩] scope gpos] [] pos) (tAnyG P wi g tt te (own.map (·.2))) := by
  refine ⟨fun pins s σ H Q I h => ?_⟩
  refine wpAny_Call_Name_kw (ld_blt I hg hm boot_any ?_)
  refine PyProof.Rows.callWith_builtin1 ?_ he (by rfl)
  rw [he]
  show wpAny _ _ (spliced ((false, eval (.GeneratorExp elt [⟨tg, iter, ifs, 0⟩] scope gpos) X.env) :: backTo pos (starEach [] X.env))) _ _ s
  refine Calls.spliced_cons (gen_make hr hN TB hcode ok hi hs I h fun J H2 a s5 hR M => ?_)
  obtain ⟨W, ⟨m, w0⟩, tu⟩ := hR
  obtain ⟨Yof, gn, go, fp, tn, hprog, hp, hgo, hafp, hslp, hback, _, _, hgat⟩ := made_gat hc ok.co G M
  refine Calls.spliced_nil ?_
  have hfr : X.A.frames = some X.stack := I.ok.frames
  have S := hslp X.A.in1.in1 hr.hd hfr
  have Ga := hgat X.A.in1.in1 _ _ W m H2 s5 (fun env => room_gen hr env) tu w0 rfl
  obtain ⟨e1, e2⟩ := hprog X.A.in1.in1
  refine call_function_tree F.kind_any F.plain_any F.entry_any (F.args_any1 _) ?_
  unfold Builtin.«any»
  refine wpAny_bind (m := oneArg "any" _) (wpAny_pure ?_)
  have isG : s5.heap.IsGen a gn := hgo _ (S.1.pin (a, go) (List.mem_append_left _ (hp _))).1
  refine wpAny_bind (wpAny_pyIter_gen isG ?_)
  refine wpAny_pure ⟨plainId_quiet F.plain_any_loop _, ?_⟩
  rw [← e1, ← e2]
  exact any_loop (Y := Yof X.A.in1.in1) (A := X.A) (Q := Q) hr.hd (by have := hr.dp; omega) (hp _) hgo (fun b H' s' J' hf q => ⟨.bl b, H', hback _ H' s' J' hf, rfl, q⟩) (m + 1) 0 H2 (fun H' => H' = H2) s5 S rfl Ga
end
end GX

set_option Elab.async false
set_option linter.all false
set_option maxRecDepth 100000
set_option maxHeartbeats 1000000
namespace GX
open PySem PySem.Spec PyProof.Rows L2 GxR GenW

def yesL (S : Addr) : V → Hp → (Hp → Prop) → Prop := fun y H N => ∃ acc, H S = some (.lst acc) ∧ acc.length < sizeLine ∧ N (upd H S (.lst (acc ++ [y])))
def stopL (S : Addr) (Qd : List V → Hp → Prop) : Hp → Prop := fun H => ∃ acc, H S = some (.lst acc) ∧ Qd acc H

theorem ext_loop {Y : Cx} {A : Around} {fp : List Addr} {tn : Nat → Heap → Prop} {σ0 : L2.St} {Qd : List V → Hp → Prop} {a S : Addr} {go : Obj} {g : Nat} {res : Value} {R : Result → Shared → Prop}
    (hh : A.handled = none) (hd : A.depth < recursionLimit) (hp : (a, go) ∈ Y.pn) (hgo : ∀ h : Heap, h.get? a = some go → h.IsGen a g)
    (hk : ∀ i h h', tn i h → (∀ b ∈ fp, ∀ o, h.get? b = some o → h'.get? b = some o) → tn i h')
    (hR : ∀ acc H' s', Inv Y [] σ0 H' s' → (∀ b ∈ fp, H' b = none) → H' S = some (.lst acc) → Qd acc H' → R (.ok (.ret res)) s') :
    ∀ (n i : Nat) (H : Hp) (Nx : Hp → Prop) (s : Shared), Slp Y fp tn σ0 i H s → Nx H → GAt Y A.in1.in1 fp tn σ0 (stopL S Qd) (yesL S) g n i Nx s →
      codeAny (model Y.prog Y.w) A (.builtin "list.extend.loop" ⟨[.ref S, .ref a, res], []⟩) R s := by
  have push : ∀ {i H s acc y u} {Q : Unit → Shared → Prop} {E : Value → Shared → Prop} {A' : Around}, Slp Y fp tn σ0 i H s → H S = some (.lst acc) → acc.length < sizeLine → RelV y u →
      (∀ s', s'.gens = s.gens → Slp Y fp tn σ0 i (upd H S (.lst (acc ++ [y]))) s' → Q () s') → wpAny (model Y.prog Y.w) A' (updateSeq S (·.push u)) Q E s := by
    intro i H s acc y u Q E A' hS hD hz r q
    obtain ⟨I, ht, hf⟩ := hS
    obtain ⟨hz', its, n, ri, e⟩ := I.hok S _ hD
    have hl := ri.length
    have hsz : its.toArray.size < sizeLine := by rw [List.size_toArray]; omega
    refine wpAny_updateSeq e rfl ?_ (Nat.le_of_lt hsz) (by show (its.toArray.push u).size ≤ sizeLine + 1; rw [Array.size_push]; omega)
    have ho' := Heap.get?_update_self (Obj.mapSeq (·.push u)) e rfl
    have oth : ∀ b o, b ≠ S → s.heap.get? b = some o → (s.heap.update S (Obj.mapSeq (·.push u))).get? b = some o := fun b o hb e => (Heap.get?_update_other _ _ (Ne.symm hb)).trans e
    obtain ⟨n', e'⟩ : ∃ n', (s.heap.update S (Obj.mapSeq (·.push u))).get? S = some { cls := .type "list", data := .seq (its ++ [u]).toArray n' } := by
      refine ⟨n + 1, ho'.trans ?_⟩
      show some (⟨_, _, .seq (its.toArray.push u) (if (its.toArray.push u).size == its.toArray.size then n else n + 1), _⟩ : Obj) = _
      rw [if_neg (by simp)]
      simp
    refine q _ rfl ⟨I.write (t' := s.toks) (by rw [hD]; trivial) (.inl rfl) (fun b o hb q => oth b o hb q) ⟨_, ho'⟩ ⟨by rw [List.length_append]; exact hz, its ++ [u], n', ri.append (.cons r .nil), e'⟩, hk _ _ _ ht fun b hb o e => oth b o (fun z => ?_) e, fun b hb => ?_⟩
    · have := hf b hb
      rw [z, hD] at this; cases this
    · rw [upd_ne (fun z => by have := hf b hb; rw [z, hD] at this; cases this)]
      exact hf b hb
  intro n
  induction n with
  | zero =>
    intro i H Nx s hS hN hG
    refine codeAny_builtin F.entry_extend_loop ?_
    rw [Around.under_plainId F.plain_extend_loop _]
    show wpAny _ A.in1 (pyNext (.ref a) >>= _) _ _ s
    refine wpAny_bind (gen_next (A := A.in1) hh hd hp hgo hS hN hG (fun s' H' J hf q => ?_) fun u s' i' y H' Nx' r hS' hy hk2 => ?_)
    · obtain ⟨acc, q1, q2⟩ := q
      exact wpAny_pure (hR acc H' s' J hf q1 q2)
    · obtain ⟨acc, q1, q2, q3⟩ := hy
      show wpAny _ A.in1 (updateSeq S (·.push u) >>= _) _ _ _
      exact wpAny_bind (push hS' q1 q2 r fun s2 _ hS2 => (hk2 _ s2 q3 hS2).elim)
  | succ n ih =>
    intro i H Nx s hS hN hG
    refine codeAny_builtin F.entry_extend_loop ?_
    rw [Around.under_plainId F.plain_extend_loop _]
    show wpAny _ A.in1 (pyNext (.ref a) >>= _) _ _ s
    refine wpAny_bind (gen_next (A := A.in1) hh hd hp hgo hS hN hG (fun s' H' J hf q => ?_) fun u s' i' y H' Nx' r hS' hy hk2 => ?_)
    · obtain ⟨acc, q1, q2⟩ := q
      exact wpAny_pure (hR acc H' s' J hf q1 q2)
    · obtain ⟨acc, q1, q2, q3⟩ := hy
      show wpAny _ A.in1 (updateSeq S (·.push u) >>= _) _ _ _
      have hk2 : GAt Y A.in1.in1 fp tn σ0 (stopL S Qd) (yesL S) g n i' Nx' s' := hk2
      obtain ⟨gs, hgs, hgg⟩ := hk2
      refine wpAny_bind (push hS' q1 q2 r fun s2 hg2 hS2 => ?_)
      exact wpAny_pure ⟨plainId_quiet F.plain_extend_loop _, ih i' _ Nx' s2 hS2 q3 ⟨gs, by rw [hg2]; exact hgs, hgg⟩⟩
end GX

set_option Elab.async false
set_option linter.all false
set_option maxRecDepth 100000
set_option maxHeartbeats 1000000
namespace GX
open PySem PySem.Spec PyProof.Rows L2 GxR GenW

theorem collect_gen {Y : Cx} {B : Around} {fp : List Addr} {tn : Nat → Heap → Prop} {σ0 : L2.St} {Qd : List V → Hp → Prop} {a : Addr} {go : Obj} {g m : Nat} {H : Hp} {s : Shared} {Q : List Value → Shared → Prop} {E : Value → Shared → Prop}
    (hh : B.handled = none) (hd : B.depth < recursionLimit) (hp : (a, go) ∈ Y.pn) (hgo : ∀ h : Heap, h.get? a = some go → h.IsGen a g)
    (hk : ∀ i h h', tn i h → (∀ b ∈ fp, ∀ o, h.get? b = some o → h'.get? b = some o) → tn i h')
    (hS : Slp Y fp tn σ0 0 H s) (hlt : ∀ b ∈ fp, b < s.heap.objs.size)
    (hG : ∀ s' : Shared, s'.gens = s.gens → GAt Y B.in1.in1 fp tn σ0 (stopL s.heap.objs.size Qd) (yesL s.heap.objs.size) g (m + 1) 0 (fun H' => H' = upd H s.heap.objs.size (.lst [])) s')
    (hQ : ∀ acc us s' H', Inv Y [] σ0 H' s' → (∀ b ∈ fp, H' b = none) → H' s.heap.objs.size = some (.lst acc) → Vals acc us → Qd acc H' → Q us s') :
    wpAny (model Y.prog Y.w) B (collect (.ref a)) Q E s := by
  obtain ⟨I, ht, hf⟩ := hS
  have isG : s.heap.IsGen a g := hgo _ (I.pin (a, go) (List.mem_append_left _ hp)).1
  have ha : a < s.heap.objs.size := by obtain ⟨o, _, _, ho, _⟩ := isG; exact Heap.lt_size ho
  have hSI : s.heap.objs.size ≠ a := Nat.ne_of_gt ha
  have up1 : ∀ b o, s.heap.get? b = some o → (s.heap.push { cls := .type "list", data := .seq ([] : List Value).toArray }).get? b = some o := fun b o e => Heap.get?_push_of_some _ e
  have hT : ∀ (h : Heap) , (∀ b o, s.heap.get? b = some o → h.get? b = some o) → ({ s with heap := h } : Shared).TypeIs (.ref a) "generator" := fun h q => Heap.IsGen.typeIs (s := { s with heap := h }) (isG.keeps q)
  unfold collect
  refine wpAny_bind (wpAny_runValue (codeAny_builtin F.entry_proto_collect ?_))
  rw [Around.under_plainId F.plain_proto_collect _]
  show wpAny _ B.in1 (newList [] >>= fun l => again (.builtin "list.__iadd__" ⟨[l, .ref a], []⟩)) _ _ s
  refine wpAny_bind (wpAny_newObj_type ?_)
  refine wpAny_pure ⟨plainId_quiet F.plain_list_iadd _, codeAny_builtin F.entry_list_iadd ?_⟩
  rw [Around.under_plainId F.plain_list_iadd _]
  show wpAny _ B.in1 (Builtin.List.listExtendWith (.ref s.heap.objs.size) (.ref a) (.ref s.heap.objs.size)) _ _ _
  unfold Builtin.List.listExtendWith
  refine wpAny_bind (wpAny_typeOf (hT _ up1) ?_)
  have h1 : Builtin.List.listSameRef (.ref s.heap.objs.size) (.ref a) = false := by simp [Builtin.List.listSameRef, hSI]
  have h2 : (Value.type "generator" == Value.type "list") = false := by decide
  have h3 : (Value.type "generator" == Value.type "tuple") = false := by decide
  simp only [h1, h2, h3, Bool.or_false, Bool.false_eq_true, if_false]
  refine wpAny_bind (wpAny_pyIter_gen (s := { s with heap := _ }) (isG.keeps up1) ?_)
  refine wpAny_bind (wpAny_holding ?_)
  unfold Builtin.List.listLengthHint
  refine wpAny_bind (wpAny_specialOf (hT _ up1) F.gen_no_len ?_)
  show wpAny _ B.in1 (specialOf (Value.ref a) (Str.ofString "__length_hint__") >>= _) _ _ _
  refine wpAny_bind (wpAny_specialOf (hT _ up1) F.gen_no_hint ?_)
  refine wpAny_pure ?_
  show wpAny _ B.in1 (rule "list.extend.makes-room" >>= fun _ => Builtin.List.listTouch (.ref s.heap.objs.size) >>= fun _ =>
    again (.builtin "list.extend.loop" ⟨[.ref s.heap.objs.size, .ref a, .ref s.heap.objs.size], []⟩)) _ _ _
  refine wpAny_bind (wpAny_rule ?_)
  have hS₁ : (s.heap.push { cls := .type "list", data := .seq ([] : List Value).toArray }).get? s.heap.objs.size = some { cls := .type "list", data := .seq ([] : List Value).toArray } := Heap.get?_push_size _ rfl
  refine wpAny_bind ?_
  show wpAny _ B.in1 (updateSeq s.heap.objs.size (·.push .none) >>= fun _ => updateSeq s.heap.objs.size (·.pop)) _ _ _
  refine wpAny_bind (wpAny_updateSeq hS₁ rfl ?_)
  have hS₂ := Heap.get?_update_self (Obj.mapSeq (·.push Value.none)) hS₁ rfl
  refine wpAny_updateSeq hS₂ rfl ?_
  have hS₃ := Heap.get?_update_self (Obj.mapSeq (·.pop)) hS₂ rfl
  have oth : ∀ b o, s.heap.get? b = some o →
      (((s.heap.push { cls := .type "list", data := .seq ([] : List Value).toArray }).update s.heap.objs.size (Obj.mapSeq (·.push Value.none))).update s.heap.objs.size (Obj.mapSeq (·.pop))).get? b = some o :=
    fun b o e => (Heap.get?_update_other _ _ (Nat.ne_of_gt (Heap.lt_size e))).trans ((Heap.get?_update_other _ _ (Nat.ne_of_gt (Heap.lt_size e))).trans (up1 b o e))
  have J : Inv Y [] σ0 (upd H s.heap.objs.size (.lst [])) { s with heap := ((s.heap.push { cls := .type "list", data := .seq ([] : List Value).toArray }).update s.heap.objs.size (Obj.mapSeq (·.push Value.none))).update s.heap.objs.size (Obj.mapSeq (·.pop)) } :=
    I.laid (t' := s.toks) oth (Nat.le_refl _) ⟨Nat.zero_le _, [], _, .nil, hS₃⟩
  have hf1 : ∀ b ∈ fp, (upd H s.heap.objs.size (.lst [])) b = none := fun b hb => by
    by_cases e : b = s.heap.objs.size
    · exact absurd e (Nat.ne_of_lt (hlt b hb))
    · rw [upd_ne e]; exact hf b hb
  refine wpAny_pure ⟨plainId_quiet F.plain_extend_loop _, ?_⟩
  refine ext_loop (Qd := Qd) hh hd hp hgo hk (fun acc H' s' J' hf' e q => ?_) (m + 1) 0 _ (fun H' => H' = upd H s.heap.objs.size (.lst [])) _ ⟨J, hk _ _ _ ht fun b _ o e => oth b o e, hf1⟩ rfl (hG _ rfl)
  obtain ⟨z, its, n, r, e1⟩ := (show ObjOk _ _ _ _ _ (.lst acc) from J'.hok _ _ e)
  show wpAny _ B (load s.heap.objs.size >>= _) _ _ s'
  refine wpAny_bind (wpAny_load e1 ?_)
  have := hQ acc its s' H' J' hf' e r q
  exact wpAny_pure (by simpa using this)

theorem code_tuple_col {prog : Program} {w : World} {A : Around} {s : Shared} {a : Addr} {E : Value → Shared → Prop} {Q₁ : Value → Shared → Prop} {Z : List Value → Shared → Prop} (hTI : s.TypeIs (.ref a) "generator")
    (hcol : ∀ {Q' : List Value → Shared → Prop} {E' : Value → Shared → Prop}, (∀ us s', Z us s' → Q' us s') → wpAny (model prog w) A.in1 (collect (.ref a)) Q' E' s)
    (h : ∀ us s', Z us s' → us.toArray.size ≤ sizeLine ∧ Q₁ (.ref s'.heap.objs.size) { s' with heap := s'.heap.push { cls := .type "tuple", data := .seq us.toArray } }) :
    codeAny (model prog w) A (.call (.builtin "tuple.__new__") ⟨[.type "tuple", .ref a], []⟩) (wants Q₁ E) s := by
  refine codeAny_of_tree ?_
  show wpAny _ A.in1 (do checkBuiltinCall "tuple.__new__" ⟨[.type "tuple", .ref a], []⟩; again (.builtin "tuple.__new__" ⟨[.type "tuple", .ref a], []⟩)) _ _ s
  refine wpAny_bind (wpAny_of_eq (F.newCall_tuple_1 _) (wpAny_pure ⟨plainId_quiet F.plain_tuple_new _, codeAny_builtin F.entry_tuple_new ?_⟩))
  rw [Around.under_plainId F.plain_tuple_new _]
  have hsub := sub_tuple_self
  have hinit := init_tuple_lookup
  have hmh := madeHere_tuple
  wp_walk using wpAny_typeOf hTI, hcol
  intro us s' hz
  obtain ⟨z1, z2⟩ := h us s' hz
  show wpAny _ _ (Builtin.Tuple.tupleExact us.toArray >>= fun v => ret v) _ _ _
  unfold Builtin.Tuple.tupleExact
  refine wpAny_bind (wpAny_newObj_type ?_ z1)
  exact wpAny_pure z2

def tTupG (P : Addr) (wi : TI) (g : TG) (tt : TT) (te : TE) (vs : List Nat) : TE := fun σ H Q => wi σ H fun J H1 => TabG H1 P ∧ ∀ H2, Tabbed P H1 H2 → ∀ S, H2 S = none → ∃ W : Nat → Nat → Hp → Prop, (∃ m, W 0 m (upd H2 S (.lst []))) ∧
  Turns J g tt te (wipe σ vs) vs (stopL S fun acc H => ∀ p, H p = none → Q (.ref p) (upd H p (.tup acc))) (yesL S) W
section
variable {X : Cx} {c P : Addr} {elt tg iter : Expr} {ifs : List Expr} {scope : Scope} {own : List (Str × Nat)} {p pos gpos : Pos} {wi : TI} {g : TG} {tt : TT} {te : TE} {k : Nat}
theorem pe_tupG (hr : Room (k + 1) X.A) (hg : Gl X "tuple") (hm : X.mg "tuple" = none) (hc : X.calm = true) (hN : X.N.Nodup) (TB : TabB X.base X.mg c P) (hcode : X.env.code = .ref c) (hi : PI X tg iter wi) (ok : GBlk X.N X.env.scope scope own) (G : GParts X k scope tg elt ifs g tt te)
    (hb : bootBuiltins "tuple" = some (.type "tuple") := by decide +kernel) (hs : ∀ v, genFold iter X.env v = pure v := by intro _; rfl)
    (he : starEach [.GeneratorExp elt [⟨tg, iter, ifs, 0⟩] scope gpos] X.env = (false, eval (.GeneratorExp elt [⟨tg, iter, ifs, 0⟩] scope gpos) X.env) :: starEach [] X.env := by rfl) :
    PE X (.Call (.Name "tuple" p) [.GeneratorExp elt [⟨tg, iter, ifs, 0⟩] scope gpos] [] pos) (tTupG P wi g tt te (own.map (·.2))) := by
  refine ⟨fun pins s σ H Q I h => ?_⟩
  refine wpAny_Call_Name_kw (ld_blt I hg hm hb ?_)
  refine PyProof.Rows.callWith_type1 ?_ he (by rfl)
  rw [he]
  show wpAny _ _ (spliced ((false, eval (.GeneratorExp elt [⟨tg, iter, ifs, 0⟩] scope gpos) X.env) :: backTo pos (starEach [] X.env))) _ _ s
  refine Calls.spliced_cons (gen_make hr hN TB hcode ok hi hs I h fun J H2 a s5 hR M => ?_)
  obtain ⟨Yof, gn, go, fp, tn, hprog, hp, hgo, hafp, hslp, hback, hkeep, hlt, hgat⟩ := made_gat hc ok.co G M
  refine Calls.spliced_nil ?_
  have hfr : X.A.frames = some X.stack := I.ok.frames
  have S := hslp X.A.in1.in1.in1.in1 hr.hd hfr
  have Hn : H2 s5.heap.objs.size = none := S.1.hok.fresh (Nat.le_refl _)
  obtain ⟨W, ⟨m, w0⟩, tu⟩ := hR _ Hn
  have isG : s5.heap.IsGen a gn := hgo _ (S.1.pin (a, go) (List.mem_append_left _ (hp _))).1
  obtain ⟨e1, e2⟩ := hprog X.A.in1.in1.in1.in1
  refine callType_codes (Q₁ := fun obj s₁ => s₁.TypeIs obj "tuple" ∧ EP X pins σ Q obj s₁) F.called_tuple (F.typeCall_tuple_1 _) F.entry_object_init ?_ fun obj s₁ h₁ => ?_
  · rw [← e1, ← e2]
    refine code_tuple_col (Z := fun us s' => ∃ acc H', Inv (Yof X.A.in1.in1.in1.in1) [] (wipe σ (own.map (·.2))) H' s' ∧ (∀ b ∈ fp, H' b = none) ∧ H' s5.heap.objs.size = some (.lst acc) ∧ Vals acc us ∧ ∀ p, H' p = none → Q (.ref p) (upd H' p (.tup acc))) (Heap.IsGen.typeIs isG) (fun {Q' E'} hq => ?_) fun us s' hz => ?_
    · exact collect_gen (Y := Yof X.A.in1.in1.in1.in1) (B := X.A.in1.in1) hr.hd (by have := hr.dp; show X.A.depth < _; omega) (hp _) hgo hkeep S (hlt 0 _ S.2.1) (fun s' hg => hgat X.A.in1.in1.in1.in1 _ _ W m _ s' (fun env => room_gen4 hr env) tu w0 (by rw [hg])) fun acc us s' H' J' hf' q1 q2 q3 => hq us s' ⟨acc, H', J', hf', q1, q2, q3⟩
    · obtain ⟨acc, H', J', hf', q1, q2, q3⟩ := hz
      have J2 := hback _ H' s' J' hf'
      obtain ⟨z, _⟩ := (show ObjOk _ _ _ _ _ (.lst acc) from J2.hok _ _ q1)
      have zz : us.toArray.size ≤ sizeLine := by rw [List.size_toArray, ← q2.length]; exact z
      refine ⟨zz, ⟨_, Heap.get?_push_size _ rfl, rfl⟩, ?_⟩
      have hf : H' s'.heap.objs.size = none := J2.hok.fresh (Nat.le_refl _)
      refine ⟨.ref s'.heap.objs.size, upd H' s'.heap.objs.size (.tup acc), J2.laid (t' := s'.toks) (fun b u e => Heap.get?_push_of_some _ e) (Nat.le_refl _) ?_, rfl, q3 _ hf⟩
      exact ⟨z, us, q2, ⟨_, Heap.get?_push_size _ rfl, rfl, _, rfl⟩⟩
  · exact ⟨h₁.1, F.args_object_init_2 obj _, object_init_meets F.called_tuple.init.lookup F.called_tuple.made (by decide) X.prog X.w X.A.in1 _ s₁ ⟨h₁.1, rfl, h₁.2⟩⟩
end
end GX

set_option Elab.async false
set_option linter.all false
set_option maxRecDepth 100000
set_option maxHeartbeats 1000000
/-! enumerate over tuples -/
namespace GX
open PySem PySem.Spec PyProof.Rows L2 GxR
abbrev tItO (l : Addr) : Obj := { cls := .type "tuple_iterator", data := .fields #[.ref l, .int 0 0] }
abbrev enO (it : Addr) : Obj := { cls := .type "enumerate", data := .fields #[.none, .bool false, .ref it, rawInt 0, .none, .none] }
theorem newEnT (l : Addr) (its : Array Value) (n : Nat) (dc : Option Addr) (so : Array (Option Value)) : Meets (Builtin.«enumerate.__new__» ⟨[.type "enumerate", .ref l], []⟩) (fun _ R s =>
    s.heap.get? l = some ⟨.type "tuple", dc, .seq its n, so⟩ ∧ R (.ok (.ret (.ref (s.heap.push (tItO l)).objs.size))) { s with heap := (s.heap.push (tItO l)).push (enO s.heap.objs.size) }) :=
  .of_wp fun P w A R s q => by
    obtain ⟨hp, gn, hd, tk, os⟩ := s
    obtain ⟨hl, q⟩ := q
    have sb := sub_enumerate
    have tl : Heap.IsTuple (Shared.heap ⟨hp, gn, hd, tk, os⟩) l its := ⟨_, hl, rfl, n, rfl⟩
    wp_walk using AutoSeq1.wpAny_loadPart' hl
    refine wpAny_stack_any fun sk => wpAny_pure ?_
    split
    · rename_i c _ _ _ _ _
      cases (c == Value.type "enumerate") <;> (wp_walk using AutoSeq1.wpAny_loadPart' hl, wpAny_pyIter_tuple tl) <;> exact ⟨_, rfl, q⟩
    · (wp_walk using AutoSeq1.wpAny_loadPart' hl, wpAny_pyIter_tuple tl); exact ⟨_, rfl, q⟩
section
variable {prog : Program} {w : World} {A : Around} {E : Value → Shared → Prop} {s : Shared}
theorem callEnT {l : Addr} {its : Array Value} {Q : Value → Shared → Prop} (tl : s.heap.IsTuple l its)
    (q : ∀ g, IsEnum g (s.heap.objs.size + 1) s.heap.objs.size 0 .none → g.IsTupleIter s.heap.objs.size l 0 → (∀ b o, s.heap.get? b = some o → g.get? b = some o) → Q (.ref (s.heap.objs.size + 1)) { s with heap := g }) :
    wpAny (model prog w) A (call (.type "enumerate") [.ref l]) Q E s := by
  obtain ⟨⟨c, dc, dt, so⟩, hl, hc, n, hd⟩ := tl
  obtain rfl : c = .type "tuple" := hc
  obtain rfl : dt = .seq its n := hd
  refine callType_new F.called_enumerate (by decide) (F.typeCall_enumerate_1 _) (F.newCall_enumerate_1 _) (fun o => F.args_object_init_2 o _) F.entry_enumerate_new (newEnT l its n dc so) ⟨hl, ?_⟩
  have z : (s.heap.push (tItO l)).objs.size = s.heap.objs.size + 1 := Heap.size_push ..
  show _ ∧ _
  rw [z]
  have e1 : ((s.heap.push (tItO l)).push (enO s.heap.objs.size)).get? (s.heap.objs.size + 1) = some (enO s.heap.objs.size) := by
    have := Heap.get?_push_size (s.heap.push (tItO l)) (o := enO s.heap.objs.size) rfl
    rwa [z] at this
  exact ⟨⟨_, e1, rfl⟩, q _ e1 ⟨_, Heap.get?_push_of_some _ (Heap.get?_push_size _ rfl), rfl, rfl⟩ fun b o k => Heap.get?_push_of_some _ (Heap.get?_push_of_some _ k)⟩
theorem drawsT {it l : Addr} {its : Array Value} (hh : A.handled = none) (ne : l ≠ it) : Draws prog w A it [it, l] its.size (fun i x => its[i]? = some x) (fun i h => h.IsTupleIter it l i ∧ h.IsTuple l its) where
  live := fun i h st => let ⟨⟨o, e, _⟩, _⟩ := st; ⟨o, e⟩
  frame := fun i h h' st k => ⟨st.1.at fun o e => k it (by simp) o e, let ⟨o, e, r⟩ := st.2; ⟨o, k l (by simp) o e, r⟩⟩
  item := fun i s Q E hi st q => RZ.nextOf_tuple_item st.1 st.2 (x := its[i]) (by simp [hi]) fun g hit sb => q _ g s.toks (by simp [hi]) ⟨hit, let ⟨o, e, r⟩ := st.2; ⟨o, (sb.2 l ne).trans e, r⟩⟩ sb
  done := fun s Q E st q => RZ.nextOf_tuple_end hh st.1 st.2 (by simp) q
theorem endT {it l : Addr} {its : Array Value} {n : Nat} (hh : A.handled = none) (hn : its.size ≤ n) : Draws prog w A it [it, l] n (fun _ _ => True) (fun j h => j = n ∧ h.IsTupleIter it l j ∧ h.IsTuple l its) where
  live := fun i h st => let ⟨_, ⟨o, e, _⟩, _⟩ := st; ⟨o, e⟩
  frame := fun i h h' st k => ⟨st.1, st.2.1.at fun o e => k it (by simp) o e, let ⟨o, e, r⟩ := st.2.2; ⟨o, k l (by simp) o e, r⟩⟩
  item := fun i s Q E hi st q => absurd st.1 (Nat.ne_of_lt hi)
  done := fun s Q E st q => RZ.nextOf_tuple_end hh st.2.1 st.2.2 (Array.getElem?_eq_none hn) q
end
/-- the tuple at a as it stands at each turn, each item in a new pair -/
def IteT (K : PySem.W.Frag) (a : Addr) : It where
  go := fun i H => ∃ (xs : List V) (x : V), SqT K H a xs ∧ xs[i]? = some x
  yld := fun i H v H' => ∃ T x, v = .ref T ∧ H T = none ∧ H' = upd H T (.tup [.int (i : Nat), x]) ∧ ∀ xs, SqT K H a xs → xs[i]? = some x
  stop := fun i H => ∃ xs : List V, SqT K H a xs ∧ xs.length ≤ i
theorem turnEnT {P : Program} {w : World} {K : PySem.W.Frag} {elts : List Expr} {kk : Nat} {tpos : Pos} {a e it : Addr} (ai : a ≠ it) (ae : a ≠ e) :
    Turn P w K (.Tuple elts kk tpos) (IteT K a) [e, it] e (fun i h => (∃ old, IsEnum h e it ((i : Nat) : Int) old) ∧ h.IsTupleIter it a i ∧ e ≠ it) where
  mem := by simp
  obj := fun i h st b hb => by
    obtain ⟨⟨old, he⟩, ⟨o, ho, hc, hd⟩, _⟩ := st
    rcases (show b = e ∨ b = it by simpa using hb) with rfl | rfl
    · exact ⟨_, he, fun v q => nomatch q⟩
    · exact ⟨o, ho, fun v q => by rw [hd] at q; cases q⟩
  keep := fun i h h' st k => by
    obtain ⟨⟨old, he⟩, hi, ne⟩ := st
    exact ⟨⟨old, k e (by simp) _ he⟩, hi.at (k it (by simp)), ne⟩
  item := by
    intro X hP hw hK hc i pins s σ H E I hf st hg
    subst hP hw hK
    obtain ⟨⟨old, he⟩, hit, ne⟩ := st
    obtain ⟨xs, x, hq, hx⟩ := hg
    obtain ⟨its, rv, p, _⟩ := I.tuple hq
    obtain ⟨u, hu, ru⟩ := rv.get hx
    have hel := Heap.lt_size he
    have hil : it < s.heap.objs.size := by obtain ⟨_, q, _⟩ := hit; exact Heap.lt_size q
    have hi : i < its.toArray.size := by
      have := (List.getElem?_eq_some_iff.mp hu).1
      simpa using this
    have D : Draws X.prog X.w X.A.in1 it [it, a] its.toArray.size (fun i x => its.toArray[i]? = some x) (fun i h => h.IsTupleIter it a i ∧ h.IsTuple a its.toArray) := drawsT (I.ok.hd hc) ai
    refine wpAny_pyNext_enum_itemD D he ⟨hit, p⟩ hi ne (by simp [ne, Ne.symm ae]) fun y g tk hy ho hst hT hsz hk => ?_
    obtain rfl : y = u := by
      have : its.toArray[i]? = some u := by simpa using hu
      rw [this] at hy; exact (Option.some.inj hy).symm
    refine ⟨_, rfl, wpAny_letOwnedTupleGo_enum (s := { s with heap := g, toks := tk + 1 }) ho fun g2 he2 sb => ?_⟩
    have hT2 : g2.get? s.heap.objs.size = some { cls := .type "tuple", data := .seq #[.int i tk, y] } := (sb.2 _ (Nat.ne_of_gt hel)).trans hT
    have nw : ObjOk X.prog X.w (upd H s.heap.objs.size (.tup [.int (i : Nat), x])) g2 s.heap.objs.size (.tup [.int (i : Nat), x]) := ⟨by show 2 ≤ sizeLine; decide, [.int i tk, y], .cons ⟨_, rfl⟩ (.cons ru .nil), ⟨_, hT2, rfl, _, rfl⟩⟩
    have I1 : Inv X pins σ (upd H s.heap.objs.size (.tup [.int (i : Nat), x])) { s with heap := g2, toks := tk + 1 } :=
      I.turnedNew (ch := [e, it]) (fun b ob hb q => (sb.2 b fun z => hb (by simp [z])).trans (hk b ob (fun z => hb (by simp [z])) (fun z => hb (by simp [z])) q)) hf (Nat.le_refl _) nw
    refine ⟨.ref s.heap.objs.size, _, I1, rfl, ⟨_, x, rfl, I.hok.fresh (Nat.le_refl _), rfl, fun ys hy => by rw [I.tuple_inj hy hq]; exact hx⟩, ⟨⟨y, ?_⟩, hst.1.at fun o q => (sb.2 it (Ne.symm ne)).trans q, ne⟩, fun b hb => ?_⟩
    · rw [show ((i + 1 : Nat) : Int) = (i : Int) + 1 by omega]; exact he2
    · have lt : b < s.heap.objs.size := by
        rcases (show b = e ∨ b = it by simpa using hb) with rfl | rfl
        · exact hel
        · exact hil
      rw [upd_ne (Nat.ne_of_lt lt)]
      exact (hf b hb).1
  done := by
    intro X hP hw hK hc i pins s σ H E I hf st hg
    subst hP hw hK
    obtain ⟨⟨old, he⟩, hit, ne⟩ := st
    obtain ⟨xs, hq, hx⟩ := hg
    obtain ⟨its, rv, p, _⟩ := I.tuple hq
    have hl : its.toArray.size ≤ i := by
      have := rv.length
      simp; omega
    have D : Draws X.prog X.w X.A.in1 it [it, a] i (fun _ _ => True) (fun j h => j = i ∧ h.IsTupleIter it a j ∧ h.IsTuple a its.toArray) := endT (I.ok.hd hc) hl
    obtain ⟨f0, f1, f2, f3, f4, f5⟩ := hf it (by simp)
    exact wpAny_pyNext_enum_endD D he ⟨rfl, hit, p⟩ fun g eb => ⟨rfl, I.turned (t' := s.toks) (fun b o hb q => eb b o hb q) f0 f1 f3 f4 f5⟩
  self := fun A i s Q E st q => by
    obtain ⟨⟨_, he⟩, _⟩ := st
    exact wpAny_pyIter_enum he q
theorem piEnT {X : Cx} {e : Expr} {ta : TA} {p pos tpos : Pos} {elts : List Expr} {kk : Nat} (hg : Gl X "enumerate") (hm : X.mg "enumerate" = none) (ha : PA X [e] ta) (hs : starEach [e] X.env = (false, eval e X.env) :: starEach [] X.env := by rfl) :
    PI X (.Tuple elts kk tpos) (.Call (.Name "enumerate" p) [e] [] pos) (fun σ H R => ta σ H fun vs H1 => ∃ a xs, vs = [.ref a] ∧ SqT X.K H1 a xs ∧ R (IteT X.K a) H1) := by
  refine ⟨fun pins s σ H R I h => ?_⟩
  refine Call_ (ld_blt I hg hm boot_enumerate (PyProof.Rows.callWith_type1 (thn (ha.run pos pins s σ H _ I h) fun us s1 ⟨vs, H1, I1, r1, q1⟩ => ?_) hs rfl))
  obtain ⟨a, xs, rfl, hq, q⟩ := q1
  cases r1 with
  | cons r rr =>
    cases rr
    cases r
    obtain ⟨its, rv, p', hz⟩ := I1.tuple hq
    obtain ⟨oa, ea, _⟩ := id p'
    have la := Heap.lt_size ea
    refine callEnT (show s1.heap.IsTuple a its.toArray from p') fun g en hit hk => wpAny_pyIter_enum en ?_
    have I2 : Inv X pins σ H1 { s1 with heap := g } := I1.kept (t' := s1.toks) hk
    refine ⟨s1.heap.objs.size + 1, [s1.heap.objs.size + 1, s1.heap.objs.size], _, _, H1, rfl, I2, turnEnT (e := s1.heap.objs.size + 1) (it := s1.heap.objs.size) (Nat.ne_of_lt la) (Nat.ne_of_lt (Nat.lt_succ_of_lt la)), ⟨⟨.none, en⟩, hit, Nat.succ_ne_self _⟩, fun b hb => ?_, q⟩
    have le : s1.heap.objs.size ≤ b := by
      rcases (show b = s1.heap.objs.size + 1 ∨ b = s1.heap.objs.size by simpa using hb) with rfl | rfl <;> omega
    exact I1.fpOk le (I1.hok.fresh le)
end GX

set_option Elab.async false
set_option linter.all false
set_option maxRecDepth 100000
set_option maxHeartbeats 1000000
/-! values as data (D), what stands for them in the heap (Rep), what a step may change (Step) -/
namespace DJ
open PySem PySem.Spec PyProof.Rows L2 GxR

inductive D where
  | non | bl (b : Bool) | int (i : Int) | str (s : Str)
  | tup (xs : List D) | lst (xs : List D) | dic (ks : List Key) (xs : List D)
  | scr (xs : List D)
  | well
  | ty (n : String) | adr (a : Addr)
  deriving Inhabited

/-- what is fixed: the module's facts, the code tables -/
structure Ct where
  K : PySem.W.Frag
  Tb : List Addr

def Ex (F F' : Hp) : Prop := ∀ a o, F a = some o → F' a = some o
theorem Ex.refl (F : Hp) : Ex F F := fun _ _ h => h
theorem Ex.trans {F F' F'' : Hp} (a : Ex F F') (b : Ex F' F'') : Ex F F'' := fun x o h => b x o (a x o h)
theorem Ex.new {F : Hp} {p : Addr} {o : HO} (h : F p = none) : Ex F (upd F p o) := fun a u e => by
  rw [upd_ne (ne_of_none e h)]; exact e
theorem Ex.rd {F F' : Hp} {a : Addr} {u : HO} (e : Ex F F') (h : Rd F a u) : Rd F' a u := by
  rcases h with h | ⟨o, h⟩
  · exact .inl (e a _ h)
  · exact .inr ⟨o, e a _ h⟩
theorem Ex.l {K : PySem.W.Frag} {F F' : Hp} {a : Addr} {xs : List V} (e : Ex F F') (h : SqL K F a xs) : SqL K F' a xs := h.imp (fun h => e.rd h) id
theorem Ex.t {K : PySem.W.Frag} {F F' : Hp} {a : Addr} {xs : List V} (e : Ex F F') (h : SqT K F a xs) : SqT K F' a xs := h.imp (fun h => e.rd h) id

section
variable (C : Ct) (w : Option Addr)
mutual
def Rep (F : Hp) : D → V → Prop
  | .non, v => v = .non
  | .bl b, v => v = .bl b
  | .int i, v => v = .int i
  | .str s, v => v = .str s
  | .tup xs, v => ∃ a vs, v = .ref a ∧ SqT C.K F a vs ∧ RepL F xs vs
  | .lst xs, v => ∃ a vs, v = .ref a ∧ F a = some (.lst vs) ∧ RepL F xs vs
  | .scr xs, v => ∃ a vs, v = .ref a ∧ SqL C.K F a vs ∧ RepL F xs vs
  | .dic ks xs, v => ∃ a kvs vs, v = .ref a ∧ F a = some (.dK kvs) ∧ kvs = ks.zip vs ∧ ks.length = vs.length ∧ RepL F xs vs
  | .well, v => ∃ a, w = some a ∧ v = .ref a
  | .ty n, v => v = .ty n
  | .adr a, v => v = .ref a
def RepL (F : Hp) : List D → List V → Prop
  | [], vs => vs = []
  | d :: ds, vs => ∃ v r, vs = v :: r ∧ Rep F d v ∧ RepL F ds r
end
end
section
variable {C : Ct} {w : Option Addr} {F F' : Hp}
mutual
theorem Rep.ex (e : Ex F F') : ∀ {d : D} {v : V}, Rep C w F d v → Rep C w F' d v
  | .non, _, h => h
  | .bl _, _, h => h
  | .int _, _, h => h
  | .str _, _, h => h
  | .tup _, _, h => by unfold Rep at h ⊢; obtain ⟨a, vs, h1, h2, h3⟩ := h; exact ⟨a, vs, h1, e.t h2, RepL.ex e h3⟩
  | .lst _, _, h => by unfold Rep at h ⊢; obtain ⟨a, vs, h1, h2, h3⟩ := h; exact ⟨a, vs, h1, e _ _ h2, RepL.ex e h3⟩
  | .scr _, _, h => by unfold Rep at h ⊢; obtain ⟨a, vs, h1, h2, h3⟩ := h; exact ⟨a, vs, h1, e.l h2, RepL.ex e h3⟩
  | .dic _ _, _, h => by unfold Rep at h ⊢; obtain ⟨a, kvs, vs, h1, h2, h3, h4, h5⟩ := h; exact ⟨a, kvs, vs, h1, e _ _ h2, h3, h4, RepL.ex e h5⟩
  | .well, _, h => h
  | .ty _, _, h => h
  | .adr _, _, h => h
theorem RepL.ex (e : Ex F F') : ∀ {ds : List D} {vs : List V}, RepL C w F ds vs → RepL C w F' ds vs
  | [], _, h => h
  | d :: ds, _, h => by unfold RepL at h ⊢; obtain ⟨v, r, h1, h2, h3⟩ := h; exact ⟨v, r, h1, Rep.ex e h2, RepL.ex e h3⟩
end
theorem RepL.nil : RepL C w F [] [] := by unfold RepL; rfl
theorem RepL.cons {d : D} {ds : List D} {v : V} {vs : List V} (h : Rep C w F d v) (t : RepL C w F ds vs) : RepL C w F (d :: ds) (v :: vs) := by unfold RepL; exact ⟨v, vs, rfl, h, t⟩
theorem RepL.inv {d : D} {ds : List D} {vs : List V} (h : RepL C w F (d :: ds) vs) : ∃ v r, vs = v :: r ∧ Rep C w F d v ∧ RepL C w F ds r := by unfold RepL at h; exact h
theorem RepL.inv0 {vs : List V} (h : RepL C w F [] vs) : vs = [] := by unfold RepL at h; exact h
theorem RepL.length : ∀ {ds : List D} {vs : List V}, RepL C w F ds vs → ds.length = vs.length
  | [], _, h => by rw [h.inv0]; rfl
  | _ :: _, _, h => by obtain ⟨v, r, rfl, _, t⟩ := h.inv; simp [RepL.length t]
theorem RepL.get : ∀ {ds : List D} {vs : List V} {i : Nat} {d : D}, RepL C w F ds vs → ds[i]? = some d → ∃ v, vs[i]? = some v ∧ Rep C w F d v
  | [], _, _, _, _, e => by simp at e
  | _ :: _, _, 0, _, h, e => by obtain ⟨v, r, rfl, h1, _⟩ := h.inv; simp at e; subst e; exact ⟨v, rfl, h1⟩
  | _ :: _, _, i + 1, _, h, e => by obtain ⟨v, r, rfl, _, t⟩ := h.inv; obtain ⟨u, h1, h2⟩ := RepL.get (i := i) t (by simpa using e); exact ⟨u, by simpa using h1, h2⟩
theorem RepL.get' : ∀ {ds : List D} {vs : List V} {i : Nat} {v : V}, RepL C w F ds vs → vs[i]? = some v → ∃ d, ds[i]? = some d ∧ Rep C w F d v
  | [], _, _, _, h, e => by rw [h.inv0] at e; simp at e
  | d :: _, _, 0, _, h, e => by obtain ⟨v, r, rfl, h1, _⟩ := h.inv; simp at e; subst e; exact ⟨d, rfl, h1⟩
  | _ :: _, _, i + 1, _, h, e => by obtain ⟨v, r, rfl, _, t⟩ := h.inv; obtain ⟨u, h1, h2⟩ := RepL.get' (i := i) t (by simpa using e); exact ⟨u, by simpa using h1, h2⟩
theorem RepL.append : ∀ {ds es : List D} {vs us : List V}, RepL C w F ds vs → RepL C w F es us → RepL C w F (ds ++ es) (vs ++ us)
  | [], _, _, _, h, t => by rw [h.inv0]; exact t
  | _ :: _, _, _, _, h, t => by obtain ⟨v, r, rfl, h1, h2⟩ := h.inv; exact RepL.cons h1 (RepL.append h2 t)
theorem RepL.drop : ∀ (n : Nat) {ds : List D} {vs : List V}, RepL C w F ds vs → RepL C w F (ds.drop n) (vs.drop n)
  | 0, _, _, h => h
  | _ + 1, [], _, h => by rw [h.inv0]; exact RepL.nil
  | n + 1, _ :: _, _, h => by obtain ⟨v, r, rfl, _, t⟩ := h.inv; exact RepL.drop n t
theorem RepL.take : ∀ (n : Nat) {ds : List D} {vs : List V}, RepL C w F ds vs → RepL C w F (ds.take n) (vs.take n)
  | 0, _, _, h => RepL.nil
  | _ + 1, [], _, h => by rw [h.inv0]; exact RepL.nil
  | n + 1, _ :: _, _, h => by obtain ⟨v, r, rfl, h1, t⟩ := h.inv; exact RepL.cons h1 (RepL.take n t)
theorem RepL.set : ∀ {ds : List D} {vs : List V} (i : Nat) {d : D} {v : V}, Rep C w F d v → RepL C w F ds vs → RepL C w F (ds.set i d) (vs.set i v)
  | [], _, _, _, _, _, h => by rw [h.inv0]; exact RepL.nil
  | _ :: _, _, 0, _, _, q, h => by obtain ⟨v, r, rfl, _, t⟩ := h.inv; exact RepL.cons q t
  | _ :: _, _, i + 1, _, _, q, h => by obtain ⟨v, r, rfl, h1, t⟩ := h.inv; exact RepL.cons h1 (RepL.set i q t)
end

/-- what is known for good; how often the well has been drawn from at most -/
structure Fz where
  f : Hp
  n : Nat
instance : Coe Fz Hp := ⟨Fz.f⟩
instance : CoeFun Fz (fun _ => Addr → Option HO) := ⟨Fz.f⟩
abbrev Fz.upd (F : Fz) (p : Addr) (o : HO) : Fz := ⟨L2.upd F.f p o, F.n⟩
/-- what is wished for of the count -/
abbrev Cr := Nat → Prop
/-- the state: F what is known for good (a part of H); the well; the code tables -/
structure Gd (C : Ct) (w : Option Addr) (F : Fz) (H : Hp) : Prop where
  sub : Ex F H
  well : ∀ a, w = some a → F a = none ∧ a ∉ C.Tb ∧ ∃ x y z : Int, H a = some (.lst [.int x, .int y, .int z]) ∧ (0 ≤ y ∧ y < 4294967296) ∧ 0 ≤ z ∧ z ≤ F.n
  tabs : ∀ P ∈ C.Tb, F P = none ∧ TabG H P
/-- what a piece of code may do -/
structure Step (C : Ct) (w : Option Addr) (F : Fz) (H : Hp) (F' : Fz) (H' : Hp) : Prop where
  gd : Gd C w F' H'
  ex : Ex F F'
  kp : ∀ a o, H a = some o → w ≠ some a → a ∉ C.Tb → H' a = some o
  nf : ∀ a, H a ≠ none → F a = none → F' a = none
section
variable {C : Ct} {w : Option Addr} {F F' F'' : Fz} {H H' H'' : Hp}
theorem Step.refl (g : Gd C w F H) : Step C w F H F H := ⟨g, Ex.refl F, fun _ _ h _ _ => h, fun _ _ h => h⟩
theorem Step.there (g : Gd C w F H) (s : Step C w F H F' H') {a : Addr} (h : H a ≠ none) : H' a ≠ none := by
  by_cases hw : w = some a
  · obtain ⟨_, _, x, y, z, e, _⟩ := s.gd.well a hw
    rw [e]; simp
  · by_cases ht : a ∈ C.Tb
    · obtain ⟨_, ps, e, _⟩ := s.gd.tabs a ht
      rw [e]; simp
    · cases e : H a with
      | none => exact absurd e h
      | some o => rw [s.kp a o e hw ht]; simp
theorem Step.trans (g : Gd C w F H) (s : Step C w F H F' H') (t : Step C w F' H' F'' H'') : Step C w F H F'' H'' :=
  ⟨t.gd, s.ex.trans t.ex, fun a o h hw ht => t.kp a o (s.kp a o h hw ht) hw ht, fun a h hf => t.nf a (s.there g h) (s.nf a h hf)⟩
/-- a new object that is known for good -/
theorem Step.new {p : Addr} {o : HO} (g : Gd C w F H) (hp : H p = none) : Step C w F H (F.upd p o) (upd H p o) where
  gd := ⟨fun a u h => by
      have h : upd F.f p o a = some u := h
      by_cases e : a = p
      · subst e; rw [upd_same] at h ⊢; exact h
      · rw [upd_ne e] at h ⊢; exact g.sub a u h,
    fun a hw => by
      obtain ⟨h1, h2, x, y, z, h3, bz⟩ := g.well a hw
      have ne : a ≠ p := ne_of_none h3 hp
      exact ⟨by show upd F.f p o a = none; rw [upd_ne ne]; exact h1, h2, x, y, z, by rw [upd_ne ne]; exact h3, bz⟩,
    fun P hP => by
      obtain ⟨h1, ps, h2, h3⟩ := g.tabs P hP
      have ne : P ≠ p := ne_of_none h2 hp
      exact ⟨by show upd F.f p o P = none; rw [upd_ne ne]; exact h1, ps, by rw [upd_ne ne]; exact h2, h3⟩⟩
  ex := Ex.new (by
    cases e : F p with
    | none => rfl
    | some u => rw [g.sub p u e] at hp; cases hp)
  kp := fun a u h _ _ => by rw [upd_ne (ne_of_none h hp)]; exact h
  nf := fun a h hf => by
    have ne : a ≠ p := fun e => h (by rw [e]; exact hp)
    show upd F.f p o a = none
    rw [upd_ne ne]; exact hf
/-- a new object that is not (yet) -/
theorem Step.newO {p : Addr} {o : HO} (g : Gd C w F H) (hp : H p = none) : Step C w F H F (upd H p o) where
  gd := ⟨fun a u h => by rw [upd_ne (ne_of_none (g.sub a u h) hp)]; exact g.sub a u h,
    fun a hw => by
      obtain ⟨h1, h2, x, y, z, h3, bz⟩ := g.well a hw
      exact ⟨h1, h2, x, y, z, by rw [upd_ne (ne_of_none h3 hp)]; exact h3, bz⟩,
    fun P hP => by
      obtain ⟨h1, ps, h2, h3⟩ := g.tabs P hP
      exact ⟨h1, ps, by rw [upd_ne (ne_of_none h2 hp)]; exact h2, h3⟩⟩
  ex := Ex.refl F
  kp := fun a u h _ _ => by rw [upd_ne (ne_of_none h hp)]; exact h
  nf := fun _ _ h => h
theorem Step.tab {P : Addr} (g : Gd C w F H) (hP : P ∈ C.Tb) (t : Tabbed P H H') : Step C w F H F H' := by
  obtain ⟨t1, t2⟩ := t
  obtain ⟨fP, _⟩ := g.tabs P hP
  refine ⟨⟨fun a u h => ?_, fun a hw => ?_, fun P' hP' => ?_⟩, Ex.refl F, fun a o h _ ht => ?_, fun _ _ h => h⟩
  · have ne : a ≠ P := fun e => by rw [e, fP] at h; cases h
    rw [t2 a ne]; exact g.sub a u h
  · obtain ⟨h1, h2, x, y, z, h3, bz⟩ := g.well a hw
    have ne : a ≠ P := fun e => h2 (e ▸ hP)
    exact ⟨h1, h2, x, y, z, by rw [t2 a ne]; exact h3, bz⟩
  · obtain ⟨h1, h2⟩ := g.tabs P' hP'
    refine ⟨h1, ?_⟩
    by_cases e : P' = P
    · rw [e]; exact t1
    · obtain ⟨ps, h2, h3⟩ := h2
      exact ⟨ps, by rw [t2 P' e]; exact h2, h3⟩
  · have ne : a ≠ P := fun e => ht (e ▸ hP)
    rw [t2 a ne]; exact h
end

section
variable {C : Ct} {w : Option Addr} {F F' : Fz} {H H' : Hp} {p : Addr} {o : HO}
/-- an object of one's own (younger than H) changes -/
theorem Step.own (s : Step C w F H F' H') (hp : H p = none) (wp : w ≠ some p) (tp : p ∉ C.Tb) (fp : F' p = none) : Step C w F H F' (upd H' p o) where
  gd := ⟨fun a u e => by rw [upd_ne (fun z => by rw [z, fp] at e; cases e)]; exact s.gd.sub a u e,
    fun a e => by
      obtain ⟨z1, z2, x1, x2, x3, z3, bz⟩ := s.gd.well a e
      exact ⟨z1, z2, x1, x2, x3, by rw [upd_ne (fun z => wp (by rw [← z]; exact e))]; exact z3, bz⟩,
    fun a e => by
      obtain ⟨z1, ps, z2, z3⟩ := s.gd.tabs a e
      exact ⟨z1, ps, by rw [upd_ne (fun z => tp (by rw [← z]; exact e))]; exact z2, z3⟩⟩
  ex := s.ex
  kp := fun a u e hw ht => by rw [upd_ne (ne_of_none e hp)]; exact s.kp a u e hw ht
  nf := s.nf
/-- it is known for good from now on -/
theorem Step.freeze (s : Step C w F H F' H') (hp : H p = none) (wp : w ≠ some p) (tp : p ∉ C.Tb) (fp : F' p = none) (e : H' p = some o) : Step C w F H (F'.upd p o) H' where
  gd := ⟨fun a u q => by
      have q : upd F'.f p o a = some u := q
      by_cases z : a = p
      · subst z; rw [upd_same] at q; rw [e]; exact q
      · rw [upd_ne z] at q; exact s.gd.sub a u q,
    fun a q => by
      obtain ⟨z1, z2, z3⟩ := s.gd.well a q
      exact ⟨by show upd F'.f p o a = none; rw [upd_ne (fun z => wp (by rw [← z]; exact q))]; exact z1, z2, z3⟩,
    fun a q => by
      obtain ⟨z1, z2⟩ := s.gd.tabs a q
      exact ⟨by show upd F'.f p o a = none; rw [upd_ne (fun z => tp (by rw [← z]; exact q))]; exact z1, z2⟩⟩
  ex := s.ex.trans (Ex.new fp)
  kp := s.kp
  nf := fun a h1 h2 => by
    show upd F'.f p o a = none
    rw [upd_ne (fun z => h1 (by rw [z]; exact hp))]
    exact s.nf a h1 h2
theorem Gd.fresh (g : Gd C w F H) (hp : H p = none) : F p = none ∧ w ≠ some p ∧ p ∉ C.Tb := by
  refine ⟨?_, fun e => ?_, fun e => ?_⟩
  · cases e : F p with
    | none => rfl
    | some o => rw [g.sub p o e] at hp; cases hp
  · obtain ⟨_, _, x, y, z, h3, _⟩ := g.well p e
    rw [hp] at h3; cases h3
  · obtain ⟨_, ps, h3, _⟩ := g.tabs p e
    rw [hp] at h3; cases h3
end
/-- a slot: a value, or a list of its own that is still being made -/
inductive SV where
  | val (d : D) | own (xs : List D)
abbrev Sl := List (Option SV)
structure RepS (C : Ct) (w : Option Addr) (F : Fz) (H : Hp) (l : Sl) (σ : L2.St) : Prop where
  len : l.length = σ.length
  val : ∀ (i : Nat) (d : D), l[i]? = some (some (SV.val d)) → ∃ v, σ[i]? = some (some v) ∧ Rep C w F d v
  own : ∀ (i : Nat) (xs : List D), l[i]? = some (some (SV.own xs)) → ∃ a vs, σ[i]? = some (some (.ref a)) ∧ F a = none ∧ w ≠ some a ∧ a ∉ C.Tb ∧ H a = some (.lst vs) ∧ RepL C w F xs vs
  one : ∀ (i j : Nat) (xs ys : List D) (a : Addr), l[i]? = some (some (SV.own xs)) → l[j]? = some (some (SV.own ys)) → σ[i]? = some (some (.ref a)) → σ[j]? = some (some (.ref a)) → i = j
section
variable {C : Ct} {w : Option Addr} {F F' : Fz} {H H' : Hp} {l : Sl} {σ : L2.St}
theorem RepS.step (r : RepS C w F H l σ) (s : Step C w F H F' H') : RepS C w F' H' l σ where
  len := r.len
  val := fun i d h => by obtain ⟨v, h1, h2⟩ := r.val i d h; exact ⟨v, h1, h2.ex s.ex⟩
  own := fun i xs h => by
    obtain ⟨a, vs, h1, h2, h3, h4, h5, h6⟩ := r.own i xs h
    exact ⟨a, vs, h1, s.nf a (by rw [h5]; simp) h2, h3, h4, s.kp a _ h5 h3 h4, h6.ex s.ex⟩
  one := r.one
theorem getElem?_set' {α : Type} {l : List α} {i j : Nat} {x y : α} (h : (l.set i x)[j]? = some y) : (j = i ∧ y = x) ∨ (j ≠ i ∧ l[j]? = some y) := by
  by_cases e : i = j
  · subst e
    by_cases hl : i < l.length
    · rw [List.getElem?_set_self hl] at h; cases h; exact .inl ⟨rfl, rfl⟩
    · rw [List.getElem?_eq_none (by simpa using hl)] at h; cases h
  · rw [List.getElem?_set_ne e] at h; exact .inr ⟨fun z => e z.symm, h⟩
theorem RepS.set (r : RepS C w F H l σ) (i : Nat) {d : D} {v : V} (h : Rep C w F d v) : RepS C w F H (l.set i (some (SV.val d))) (σ.set i (some v)) where
  len := by rw [List.length_set, List.length_set]; exact r.len
  val := fun j e q => by
    rcases getElem?_set' q with ⟨rfl, z⟩ | ⟨ne, z⟩
    · cases z
      have hl : j < l.length := by
        have := (List.getElem?_eq_some_iff.mp q).1
        simpa using this
      exact ⟨v, List.getElem?_set_self (by rw [← r.len]; exact hl), h⟩
    · obtain ⟨u, h1, h2⟩ := r.val j e z
      exact ⟨u, by rw [List.getElem?_set_ne (Ne.symm ne)]; exact h1, h2⟩
  own := fun j xs q => by
    rcases getElem?_set' q with ⟨_, z⟩ | ⟨ne, z⟩
    · cases z
    · obtain ⟨a, vs, h1, h2⟩ := r.own j xs z
      exact ⟨a, vs, by rw [List.getElem?_set_ne (Ne.symm ne)]; exact h1, h2⟩
  one := fun j k xs ys a h1 h2 h3 h4 => by
    rcases getElem?_set' h1 with ⟨_, z⟩ | ⟨n1, z1⟩
    · cases z
    · rcases getElem?_set' h2 with ⟨_, z⟩ | ⟨n2, z2⟩
      · cases z
      · rw [List.getElem?_set_ne (Ne.symm n1)] at h3
        rw [List.getElem?_set_ne (Ne.symm n2)] at h4
        exact r.one j k xs ys a z1 z2 h3 h4
end
end DJ

set_option Elab.async false
set_option linter.all false
set_option maxRecDepth 100000
set_option maxHeartbeats 1000000
/-! expressions as programs over data -/
namespace DJ
open PySem PySem.Spec PyProof.Rows L2 GxR

abbrev ME := Sl → (D → Cr) → Cr
abbrev MT := Sl → (Bool → Cr) → Cr
abbrev MA := Sl → (List D → Cr) → Cr
section
variable (C : Ct) (w : Option Addr)
/-- behind a piece: a value -/
def Fin (F : Fz) (H : Hp) (P : D → Cr) (Q : VK) : Prop := ∀ d v F' H', P d F'.n → Step C w F H F' H' → Rep C w F' d v → Q v H'
def FinT (F : Fz) (H : Hp) (P : Bool → Cr) (Q : Bool → Hp → Prop) : Prop := ∀ b F' H', P b F'.n → Step C w F H F' H' → Q b H'
def FinA (F : Fz) (H : Hp) (P : List D → Cr) (Q : List V → Hp → Prop) : Prop := ∀ ds vs F' H', P ds F'.n → Step C w F H F' H' → RepL C w F' ds vs → Q vs H'
def tM (m : ME) : TE := fun σ H Q => ∃ F l P, Gd C w F H ∧ RepS C w F H l σ ∧ m l P F.n ∧ Fin C w F H P Q
def tMT (m : MT) : TT := fun σ H Q => ∃ F l P, Gd C w F H ∧ RepS C w F H l σ ∧ m l P F.n ∧ FinT C w F H P Q
def tMA (m : MA) : TA := fun σ H Q => ∃ F l P, Gd C w F H ∧ RepS C w F H l σ ∧ m l P F.n ∧ FinA C w F H P Q
abbrev JE (X : Cx) (e : Expr) (m : ME) : Prop := PE X e (tM C w m)
abbrev JT (X : Cx) (e : Expr) (m : MT) : Prop := PT X e (tMT C w m)
abbrev JW (X : Cx) (e : Expr) (m : MT) : Prop := PW X e (tMT C w m)
abbrev JA (X : Cx) (es : List Expr) (m : MA) : Prop := PA X es (tMA C w m)
/-- operations on values -/
def rD (g : D → D → (D → Cr) → Cr) : R2 := fun x y H Q => ∃ F d e P, Gd C w F H ∧ Rep C w F d x ∧ Rep C w F e y ∧ g d e P F.n ∧ Fin C w F H P Q
def rU1 (g : D → (D → Cr) → Cr) : V → Hp → VK → Prop := fun x H Q => ∃ F d P, Gd C w F H ∧ Rep C w F d x ∧ g d P F.n ∧ Fin C w F H P Q
def rC (g : List D → (D → Cr) → Cr) : List V → Hp → VK → Prop := fun vs H Q => ∃ F ds P, Gd C w F H ∧ RepL C w F ds vs ∧ g ds P F.n ∧ Fin C w F H P Q
end
theorem PE.imp {X : Cx} {e : Expr} {t t' : TE} (h : PE X e t) (hi : ∀ σ H Q, t' σ H Q → t σ H Q) : PE X e t' := ⟨fun pins s σ H Q I hw => h.run pins s σ H Q I (hi σ H Q hw)⟩
theorem PT.imp {X : Cx} {e : Expr} {t t' : TT} (h : PT X e t) (hi : ∀ σ H Q, t' σ H Q → t σ H Q) : PT X e t' := ⟨fun pins s σ H Q I hw => h.run pins s σ H Q I (hi σ H Q hw)⟩
theorem PW.imp {X : Cx} {e : Expr} {t t' : TT} (h : PW X e t) (hi : ∀ σ H Q, t' σ H Q → t σ H Q) : PW X e t' := ⟨fun wh pins s σ H Q I hw => h.run wh pins s σ H Q I (hi σ H Q hw)⟩
theorem PA.imp {X : Cx} {es : List Expr} {t t' : TA} (h : PA X es t) (hi : ∀ σ H Q, t' σ H Q → t σ H Q) : PA X es t' := ⟨fun p pins s σ H Q I hw => h.run p pins s σ H Q I (hi σ H Q hw)⟩
theorem OpR.imp {X : Cx} {f : Value → Value → Sem Value} {r r' : R2} (h : OpR X f r) (hi : ∀ x y H Q, r' x y H Q → r x y H Q) : OpR X f r' := fun pins s σ H x y v u Q I a b q => h pins s σ H x y v u Q I a b (hi _ _ _ _ q)
theorem UnR.imp {X : Cx} {f : Value → Sem Value} {r r' : V → Hp → VK → Prop} (h : UnR X f r) (hi : ∀ x H Q, r' x H Q → r x H Q) : UnR X f r' := fun pins s σ H x v Q I a q => h pins s σ H x v Q I a (hi _ _ _ q)
theorem CallR.imp {X : Cx} {f : Value} {r r' : List V → Hp → VK → Prop} (h : CallR X f r) (hi : ∀ xs H Q, r' xs H Q → r xs H Q) : CallR X f r' := fun pins s σ H xs us Q I a q => h pins s σ H xs us Q I a (hi _ _ _ q)
theorem IxR.imp {X : Cx} {r r' : R2} (h : IxR X r) (hi : ∀ x y H Q, r' x y H Q → r x y H Q) : IxR X r' := fun a b pins s σ H x y v u Q I p q z => h a b pins s σ H x y v u Q I p q (hi _ _ _ _ z)
theorem SlR.imp {X : Cx} {r r' : V → Option Int → Option Int → Hp → VK → Prop} (h : SlR X r) (hi : ∀ x lo hi H Q, r' x lo hi H Q → r x lo hi H Q) : SlR X r' := fun pins s σ H x v vl vu lo hi' sl Q I a b c d z => h pins s σ H x v vl vu lo hi' sl Q I a b c d (hi _ _ _ _ _ z)

section
variable {C : Ct} {w : Option Addr} {X : Cx} {F F' F'' : Fz} {H H' H'' : Hp}
theorem Fin.go {P : D → Cr} {Q : VK} (f : Fin C w F H P Q) (g : Gd C w F H) (s : Step C w F H F' H') : Fin C w F' H' P Q := fun d v F'' H'' p t r => f d v F'' H'' p (s.trans g t) r
theorem FinT.go {P : Bool → Cr} {Q : Bool → Hp → Prop} (f : FinT C w F H P Q) (g : Gd C w F H) (s : Step C w F H F' H') : FinT C w F' H' P Q := fun d F'' H'' p t => f d F'' H'' p (s.trans g t)
theorem FinA.go {P : List D → Cr} {Q : List V → Hp → Prop} (f : FinA C w F H P Q) (g : Gd C w F H) (s : Step C w F H F' H') : FinA C w F' H' P Q := fun d v F'' H'' p t r => f d v F'' H'' p (s.trans g t) r
theorem Fin.at {P : D → Cr} {Q : VK} (f : Fin C w F H P Q) (s : Step C w F H F' H') {d : D} {v : V} (p : P d F'.n) (r : Rep C w F' d v) : Q v H' := f d v F' H' p s r
theorem Fin.here {P : D → Cr} {Q : VK} (f : Fin C w F H P Q) (g : Gd C w F H) {d : D} {v : V} (p : P d F.n) (r : Rep C w F d v) : Q v H := f d v F H p (Step.refl g) r

/-! ### names, constants -/
def mVar (i : Nat) : ME := fun l P n => ∃ d, l[i]? = some (some (SV.val d)) ∧ P d n
def mC (d : D) : ME := fun _ P => P d
theorem je_var {e : Expr} {i : Nat} (h : PE X e (tVar i)) : JE C w X e (mVar i) := PE.imp h fun σ H Q ⟨F, l, P, g, r, ⟨d, h1, h2⟩, f⟩ => by
  obtain ⟨v, e1, e2⟩ := r.val i d h1
  exact ⟨v, e1, f.here g h2 e2⟩
theorem je_c {e : Expr} {d : D} {v : V} (h : PE X e (tC v)) (hr : ∀ G : Hp, Rep C w G d v) : JE C w X e (mC d) := PE.imp h fun σ H Q ⟨F, l, P, g, r, h2, f⟩ => f.here g h2 (hr F)
theorem rep_int {G : Hp} {i : Int} : Rep C w G (.int i) (.int i) := by unfold Rep; rfl
theorem rep_bl {G : Hp} {b : Bool} : Rep C w G (.bl b) (.bl b) := by unfold Rep; rfl
theorem rep_non {G : Hp} : Rep C w G .non .non := by unfold Rep; rfl
theorem rep_str {G : Hp} {s : Str} : Rep C w G (.str s) (.str s) := by unfold Rep; rfl
theorem rep_int' {G : Hp} {i : Int} {v : V} (h : Rep C w G (.int i) v) : v = .int i := by unfold Rep at h; exact h
theorem rep_bl' {G : Hp} {b : Bool} {v : V} (h : Rep C w G (.bl b) v) : v = .bl b := by unfold Rep at h; exact h
theorem rep_non' {G : Hp} {v : V} (h : Rep C w G .non v) : v = .non := by unfold Rep at h; exact h
theorem rep_str' {G : Hp} {s : Str} {v : V} (h : Rep C w G (.str s) v) : v = .str s := by unfold Rep at h; exact h
theorem rep_tup' {G : Hp} {xs : List D} {v : V} (h : Rep C w G (.tup xs) v) : ∃ a vs, v = .ref a ∧ SqT C.K G a vs ∧ RepL C w G xs vs := by unfold Rep at h; exact h
theorem rep_scr' {G : Hp} {xs : List D} {v : V} (h : Rep C w G (.scr xs) v) : ∃ a vs, v = .ref a ∧ SqL C.K G a vs ∧ RepL C w G xs vs := by unfold Rep at h; exact h
theorem rep_lst' {G : Hp} {xs : List D} {v : V} (h : Rep C w G (.lst xs) v) : ∃ a vs, v = .ref a ∧ G a = some (.lst vs) ∧ RepL C w G xs vs := by unfold Rep at h; exact h
theorem rep_tup {G : Hp} {xs : List D} {a : Addr} {vs : List V} (h1 : SqT C.K G a vs) (h2 : RepL C w G xs vs) : Rep C w G (.tup xs) (.ref a) := by unfold Rep; exact ⟨a, vs, rfl, h1, h2⟩
theorem rep_lst {G : Hp} {xs : List D} {a : Addr} {vs : List V} (h1 : G a = some (.lst vs)) (h2 : RepL C w G xs vs) : Rep C w G (.lst xs) (.ref a) := by unfold Rep; exact ⟨a, vs, rfl, h1, h2⟩
theorem je_int {i : Int} {j pos} : JE C w X (.Constant (.int i) j pos) (mC (.int i)) := je_c pe_int fun _ => rep_int
theorem je_bl {b : Bool} {j pos} : JE C w X (.Constant (.bool b) j pos) (mC (.bl b)) := je_c pe_bl fun _ => rep_bl
theorem je_non {j pos} : JE C w X (.Constant .none j pos) (mC .non) := je_c pe_non fun _ => rep_non
theorem je_str {x : Str} {j pos} : JE C w X (.Constant (.str x) j pos) (mC (.str x)) := je_c pe_str fun _ => rep_str

/-! ### operators -/
def mOp (g : D → D → (D → Cr) → Cr) (a b : ME) : ME := fun l P => a l fun x => b l fun y => g x y P
theorem tm_op {g : D → D → (D → Cr) → Cr} {ma mb : ME} {σ : L2.St} {Q : VK} (h : tM C w (mOp g ma mb) σ H Q) : tOp (rD C w g) (tM C w ma) (tM C w mb) σ H Q := by
  obtain ⟨F, l, P, g0, r, h, f⟩ := h
  refine ⟨F, l, _, g0, r, h, fun x v F1 H1 h1 s1 r1 => ?_⟩
  refine ⟨F1, l, _, s1.gd, r.step s1, h1, fun y u F2 H2 h2 s2 r2 => ?_⟩
  exact ⟨F2, x, y, P, s2.gd, r1.ex s2.ex, r2, h2, f.go g0 (s1.trans g0 s2)⟩
theorem je_op {op : Operator} {a b : Expr} {pos : Pos} {g : D → D → (D → Cr) → Cr} {ma mb : ME} (ho : OpR X (binaryOp op) (rD C w g)) (ha : JE C w X a ma) (hb : JE C w X b mb) : JE C w X (.BinOp a op b pos) (mOp g ma mb) :=
  PE.imp (pe_op ho ha hb) fun _ _ _ h => tm_op h
theorem je_cmp {op : CmpOp} {a b : Expr} {pos : Pos} {g : D → D → (D → Cr) → Cr} {ma mb : ME} (ho : OpR X (compareOp op) (rD C w g)) (ha : JE C w X a ma) (hb : JE C w X b mb) (hm : behindInMarks op b = false) : JE C w X (.Compare a [op] [b] pos) (mOp g ma mb) :=
  PE.imp (pe_cmpR ho ha hb hm) fun _ _ _ h => tm_op h
/-- a value as a test: it is a bool -/
def gB : D → (Bool → Cr) → Cr
  | .bl b, P => P b
  | _, _ => fun _ => False
theorem gB_inv {d : D} {P : Bool → Cr} {n : Nat} (h : gB d P n) : ∃ b, d = .bl b ∧ P b n := by cases d <;> first | exact ⟨_, rfl, h⟩ | exact h.elim
def mTB (m : ME) : MT := fun l P => m l fun d => gB d P
theorem tm_B {m : ME} {σ : L2.St} {Q : Bool → Hp → Prop} (h : tMT C w (mTB m) σ H Q) : tB (tM C w m) σ H Q := by
  obtain ⟨F, l, P, g0, r, h, f⟩ := h
  refine ⟨F, l, _, g0, r, h, fun x v F1 H1 h1 s1 r1 => ?_⟩
  obtain ⟨b, rfl, q⟩ := gB_inv h1
  exact ⟨b, rep_bl' r1, f b F1 H1 q s1⟩
theorem jt_val {e : Expr} {m : ME} (h : JE C w X e m) (he : ∀ whole, isTrue e X.env whole = (do let v ← whole; standAt e.pos; holding [v] (truthy v)) := by intro _; rfl) : JT C w X e (mTB m) := PT.imp (pt_val h he) fun _ _ _ h => tm_B h
theorem jt_cmp {op : CmpOp} {a b : Expr} {pos : Pos} {g : D → D → (D → Cr) → Cr} {ma mb : ME} (ho : OpR X (compareOp op) (rD C w g)) (ha : JE C w X a ma) (hb : JE C w X b mb) (hm : behindInMarks op b = false) : JT C w X (.Compare a [op] [b] pos) (mTB (mOp g ma mb)) :=
  PT.imp (pt_cmpR ho ha hb hm) fun σ H Q h => by
    have h2 : tB (tM C w (mOp g ma mb)) σ H Q := tm_B h
    exact tm_op h2
/-- a < b < c -/
def mChain (g g' : D → D → (D → Cr) → Cr) (a b c : ME) : ME := fun l P => a l fun x => b l fun y => g x y fun z => gB z fun k => if k = true then c l fun u => g' y u P else P (.bl false)

def mNotT (m : MT) : MT := fun l P => m l fun b => P (!b)
def mAndT (a b : MT) : MT := fun l P => a l fun x => if x = true then b l P else P false
def mOrT (a b : MT) : MT := fun l P => a l fun x => if x = true then P true else b l P
theorem jt_not {a : Expr} {pos : Pos} {m : MT} (h : JT C w X a m) : JT C w X (.UnaryOp .Not a pos) (mNotT m) := PT.imp (pt_not h) fun σ H Q ⟨F, l, P, g0, r, h, f⟩ =>
  ⟨F, l, _, g0, r, h, fun b F1 H1 h1 s1 => f _ F1 H1 h1 s1⟩
theorem tm_andT {a b : MT} {σ : L2.St} {Q : Bool → Hp → Prop} (h : tMT C w (mAndT a b) σ H Q) : tAnd (tMT C w a) (tMT C w b) σ H Q := by
  obtain ⟨F, l, P, g0, r, h, f⟩ := h
  refine ⟨F, l, _, g0, r, h, fun x F1 H1 h1 s1 => ?_⟩
  cases x with
  | true => exact ⟨F1, l, P, s1.gd, r.step s1, by simpa using h1, f.go g0 s1⟩
  | false => exact f false F1 H1 (by simpa using h1) s1
theorem tm_orT {a b : MT} {σ : L2.St} {Q : Bool → Hp → Prop} (h : tMT C w (mOrT a b) σ H Q) : tOr (tMT C w a) (tMT C w b) σ H Q := by
  obtain ⟨F, l, P, g0, r, h, f⟩ := h
  refine ⟨F, l, _, g0, r, h, fun x F1 H1 h1 s1 => ?_⟩
  cases x with
  | true => exact f true F1 H1 (by simpa using h1) s1
  | false => exact ⟨F1, l, P, s1.gd, r.step s1, by simpa using h1, f.go g0 s1⟩
section
variable {a b : Expr} {rest : List Expr} {pos : Pos} {ma mb : MT} {na nb : ME}
theorem jw_and1 (h : JT C w X a ma) : JW C w X (.BoolOp .And [a] pos) ma := pw_and1 h
theorem jw_or1 (h : JT C w X a ma) : JW C w X (.BoolOp .Or [a] pos) ma := pw_or1 h
theorem jw_and (ha : JT C w X a ma) (hb : JW C w X (.BoolOp .And (b :: rest) pos) mb) : JW C w X (.BoolOp .And (a :: b :: rest) pos) (mAndT ma mb) := PW.imp (pw_and ha hb) fun _ _ _ h => tm_andT h
theorem jw_or (ha : JT C w X a ma) (hb : JW C w X (.BoolOp .Or (b :: rest) pos) mb) : JW C w X (.BoolOp .Or (a :: b :: rest) pos) (mOrT ma mb) := PW.imp (pw_or ha hb) fun _ _ _ h => tm_orT h
/-- as values -/
def mAnd (a b : ME) : ME := fun l P => a l fun x => gB x fun k => if k = true then b l P else P (.bl false)
def mOr (a b : ME) : ME := fun l P => a l fun x => gB x fun k => if k = true then P (.bl true) else b l P
def mNot (a : ME) : ME := fun l P => a l fun x => gB x fun k => P (.bl (!k))
theorem je_one {op} (h : JE C w X a na) : JE C w X (.BoolOp op [a] pos) na := pe_one h
theorem je_and (ha : JE C w X a na) (hb : JE C w X (.BoolOp .And (b :: rest) pos) nb) : JE C w X (.BoolOp .And (a :: b :: rest) pos) (mAnd na nb) := PE.imp (pe_and ha hb) fun σ H Q ⟨F, l, P, g0, r, h, f⟩ => by
  refine ⟨F, l, _, g0, r, h, fun x v F1 H1 h1 s1 r1 => ?_⟩
  obtain ⟨k, rfl, q⟩ := gB_inv h1
  refine ⟨k, rep_bl' r1, ?_⟩
  cases k with
  | true => exact ⟨F1, l, P, s1.gd, r.step s1, by simpa using q, f.go g0 s1⟩
  | false => exact f _ _ F1 H1 (by simpa using q) s1 rep_bl
theorem je_or (ha : JE C w X a na) (hb : JE C w X (.BoolOp .Or (b :: rest) pos) nb) : JE C w X (.BoolOp .Or (a :: b :: rest) pos) (mOr na nb) := PE.imp (pe_or ha hb) fun σ H Q ⟨F, l, P, g0, r, h, f⟩ => by
  refine ⟨F, l, _, g0, r, h, fun x v F1 H1 h1 s1 r1 => ?_⟩
  obtain ⟨k, rfl, q⟩ := gB_inv h1
  refine ⟨k, rep_bl' r1, ?_⟩
  cases k with
  | true => exact f _ _ F1 H1 (by simpa using q) s1 rep_bl
  | false => exact ⟨F1, l, P, s1.gd, r.step s1, by simpa using q, f.go g0 s1⟩
theorem je_not (ha : JE C w X a na) : JE C w X (.UnaryOp .Not a pos) (mNot na) := PE.imp (pe_not ha) fun σ H Q ⟨F, l, P, g0, r, h, f⟩ => by
  refine ⟨F, l, _, g0, r, h, fun x v F1 H1 h1 s1 r1 => ?_⟩
  obtain ⟨k, rfl, q⟩ := gB_inv h1
  exact ⟨k, rep_bl' r1, f _ _ F1 H1 q s1 rep_bl⟩
def mIf (c : MT) (a b : ME) : ME := fun l P => c l fun k => if k = true then a l P else b l P
theorem je_if {c : Expr} {mc : MT} (hc : JT C w X c mc) (ha : JE C w X a na) (hb : JE C w X b nb) : JE C w X (.IfExp c a b pos) (mIf mc na nb) := PE.imp (pe_ifExp hc ha hb) fun σ H Q ⟨F, l, P, g0, r, h, f⟩ => by
  refine ⟨F, l, _, g0, r, h, fun x F1 H1 h1 s1 => ?_⟩
  cases x with
  | true => exact ⟨F1, l, P, s1.gd, r.step s1, by simpa using h1, f.go g0 s1⟩
  | false => exact ⟨F1, l, P, s1.gd, r.step s1, by simpa using h1, f.go g0 s1⟩
end

/-! ### unary -/
def mUn (g : D → (D → Cr) → Cr) (a : ME) : ME := fun l P => a l fun x => g x P
theorem je_un {op : UnaryOp} {a : Expr} {pos : Pos} {g : D → (D → Cr) → Cr} {ma : ME} (ho : UnR X (unaryOp op) (rU1 C w g)) (ha : JE C w X a ma) : JE C w X (.UnaryOp op a pos) (mUn g ma) := PE.imp (pe_un ho ha) fun σ H Q ⟨F, l, P, g0, r, h, f⟩ => by
  refine ⟨F, l, _, g0, r, h, fun x v F1 H1 h1 s1 r1 => ?_⟩
  exact ⟨F1, x, P, s1.gd, r1, h1, f.go g0 s1⟩

/-! ### argument lists, displays -/
def mNil : MA := fun _ P => P []
def mCons (a : ME) (t : MA) : MA := fun l P => a l fun x => t l fun xs => P (x :: xs)
theorem ja_nil : JA C w X [] mNil := PA.imp pa_nil fun σ H Q ⟨F, l, P, g0, r, h, f⟩ => f [] [] F H h (Step.refl g0) RepL.nil
theorem ja_cons {e : Expr} {es : List Expr} {m : ME} {t : MA} (ha : JE C w X e m) (hr : JA C w X es t) (hs : starEach (e :: es) X.env = (false, eval e X.env) :: starEach es X.env := by rfl) : JA C w X (e :: es) (mCons m t) := PA.imp (pa_cons ha hr hs) fun σ H Q ⟨F, l, P, g0, r, h, f⟩ => by
  refine ⟨F, l, _, g0, r, h, fun x v F1 H1 h1 s1 r1 => ?_⟩
  refine ⟨F1, l, _, s1.gd, r.step s1, h1, fun xs vs F2 H2 h2 s2 r2 => ?_⟩
  exact f _ _ F2 H2 h2 (s1.trans g0 s2) (RepL.cons (r1.ex s2.ex) r2)
/-- *e in a display -/
def gItems : D → (List D → Cr) → Cr
  | .tup xs, P => P xs
  | .lst xs, P => P xs
  | _, _ => fun _ => False
theorem gItems_inv {d : D} {P : List D → Cr} {n : Nat} (h : gItems d P n) : ∃ xs, (d = .tup xs ∨ d = .lst xs) ∧ P xs n := by
  cases d <;> first | exact ⟨_, .inl rfl, h⟩ | exact ⟨_, .inr rfl, h⟩ | exact h.elim
def mStar (a : ME) (t : MA) : MA := fun l P => a l fun x => gItems x fun xs => t l fun ys => P (xs ++ ys)
def mTup (t : MA) : ME := fun l P => t l fun xs n => xs.length ≤ 100000 ∧ P (.tup xs) n
def mLst (t : MA) : ME := fun l P => t l fun xs n => xs.length ≤ 100000 ∧ P (.lst xs) n
theorem sz_of {n : Nat} (h : n ≤ 100000) : n ≤ sizeLine := Nat.le_trans h (by decide)
theorem sz_lt {n : Nat} (h : n < 100000) : n < sizeLine := Nat.lt_of_lt_of_le h (by decide)
theorem je_tup {es : List Expr} {x1} {pos : Pos} {t : MA} (h : JA C w X es t) : JE C w X (.Tuple es x1 pos) (mTup t) := PE.imp (pe_tup h) fun σ H Q ⟨F, l, P, g0, r, h, f⟩ => by
  refine ⟨F, l, _, g0, r, h, fun xs vs F1 H1 h1 s1 r1 => ⟨by rw [← r1.length]; exact sz_of h1.1, fun p hp => ?_⟩⟩
  have s2 := Step.new (o := .tup vs) s1.gd hp
  exact f.at (s1.trans g0 s2) h1.2 (rep_tup (SqT.of upd_same) (r1.ex s2.ex))
theorem je_lst {es : List Expr} {pos : Pos} {t : MA} (h : JA C w X es t) : JE C w X (.List es pos) (mLst t) := PE.imp (pe_lst h) fun σ H Q ⟨F, l, P, g0, r, h, f⟩ => by
  refine ⟨F, l, _, g0, r, h, fun xs vs F1 H1 h1 s1 r1 => ⟨by rw [← r1.length]; exact sz_of h1.1, fun p hp => ?_⟩⟩
  have s2 := Step.new (o := .lst vs) s1.gd hp
  exact f.at (s1.trans g0 s2) h1.2 (rep_lst upd_same (r1.ex s2.ex))
/-! ### calls of built-ins by values -/
def mCall (g : List D → (D → Cr) → Cr) (t : MA) : ME := fun l P => t l fun ds => g ds P
theorem tm_call {g : List D → (D → Cr) → Cr} {t : MA} {σ : L2.St} {Q : VK} (h : tM C w (mCall g t) σ H Q) : tCB (rC C w g) (tMA C w t) σ H Q := by
  obtain ⟨F, l, P, g0, r, h, f⟩ := h
  exact ⟨F, l, _, g0, r, h, fun xs vs F1 H1 h1 s1 r1 => ⟨F1, xs, P, s1.gd, r1, h1, f.go g0 s1⟩⟩
section
variable {x : Str} {p pos : Pos} {e : Expr} {es : List Expr} {t : MA} {id T : String} {g : List D → (D → Cr) → Cr}
theorem je_callB (hc : CallR X (.builtin id) (rC C w g)) (hg : Gl X x) (hm : X.mg x = none) (hv : bootBuiltins x = some (.builtin id)) (ha : JA C w X (e :: es) t) (hn : x ≠ "__name__" := by decide) (hdb : (x == ("__debug__" : Str)) = false := by decide)
    (he : starEach (e :: es) X.env = (false, eval e X.env) :: starEach es X.env := by rfl) (hpl : (backTo pos (starEach es X.env)).any (·.1) = false := by rfl) : JE C w X (.Call (.Name x p) (e :: es) [] pos) (mCall g t) := PE.imp (pe_callB hc hg hm hv ha hn hdb he hpl) fun _ _ _ h => tm_call h
theorem je_callTy (hc : CallR X (.type T) (rC C w g)) (hg : Gl X x) (hm : X.mg x = none) (hv : bootBuiltins x = some (.type T)) (ha : JA C w X (e :: es) t) (hn : x ≠ "__name__" := by decide) (hdb : (x == ("__debug__" : Str)) = false := by decide)
    (he : starEach (e :: es) X.env = (false, eval e X.env) :: starEach es X.env := by rfl) (hpl : (backTo pos (starEach es X.env)).any (·.1) = false := by rfl) : JE C w X (.Call (.Name x p) (e :: es) [] pos) (mCall g t) := PE.imp (pe_callTy hc hg hm hv ha hn hdb he hpl) fun _ _ _ h => tm_call h
theorem je_callF (hc : CallR X (.builtin id) (rC C w g)) (hg : Gl X x) (hm : X.mg x = some (.builtin id)) (ha : JA C w X (e :: es) t) (hdb : (x == ("__debug__" : Str)) = false := by decide)
    (he : starEach (e :: es) X.env = (false, eval e X.env) :: starEach es X.env := by rfl) (hpl : (backTo pos (starEach es X.env)).any (·.1) = false := by rfl) : JE C w X (.Call (.Name x p) (e :: es) [] pos) (mCall g t) := PE.imp (pe_callBfun hc hg hm ha hdb he hpl) fun _ _ _ h => tm_call h
end
/-! ### subscripts -/
theorem je_ix {a b : Expr} {pos : Pos} {g : D → D → (D → Cr) → Cr} {ma mb : ME} (hr : IxR X (rD C w g)) (ha : JE C w X a ma) (hb : JE C w X b mb) (hs : PlainIx b) : JE C w X (.Subscript a b pos) (mOp g ma mb) := PE.imp (pe_ix hr ha hb hs) fun _ _ _ h => tm_op h
end
end DJ

set_option Elab.async false
set_option linter.all false
set_option maxRecDepth 100000
set_option maxHeartbeats 1000000
/-! the operations over data -/
namespace DJ
open PySem PySem.Spec PyProof.Rows L2 GxR

/-- of at most n bits -/
def Bt (n : Nat) (x : Int) : Prop := x.natAbs < 2 ^ n
theorem Bt.mono {m n : Nat} {x : Int} (h : Bt m x) (l : m ≤ n) : Bt n x := Nat.lt_of_lt_of_le h (Nat.pow_le_pow_right (by decide) l)
theorem Bt.mul {m n : Nat} {x y : Int} (h : Bt m x) (k : Bt n y) : Bt (m + n) (x * y) := wide_lt h k
theorem Bt.neg {n : Nat} {x : Int} (h : Bt n x) : Bt n (-x) := by unfold Bt at *; rwa [Int.natAbs_neg]
theorem Bt.add {m n : Nat} {x y : Int} (h : Bt m x) (k : Bt n y) : Bt (max m n + 1) (x + y) := by
  have h1 : Bt (max m n) x := h.mono (Nat.le_max_left _ _)
  have h2 : Bt (max m n) y := k.mono (Nat.le_max_right _ _)
  unfold Bt at *
  rw [Nat.pow_succ]
  have := Int.natAbs_add_le x y
  omega
theorem Bt.sub {m n : Nat} {x y : Int} (h : Bt m x) (k : Bt n y) : Bt (max m n + 1) (x - y) := by
  have := h.add k.neg
  rwa [← Int.sub_eq_add_neg] at this
theorem Bt.le {n : Nat} {x y : Int} (h : Bt n y) (l : x.natAbs ≤ y.natAbs) : Bt n x := Nat.lt_of_le_of_lt l h
theorem Bt.log {n k : Nat} {x : Int} (h : Bt n x) (l : n ≤ k) (k0 : 0 < k) : x.natAbs.log2 < k := by
  have h1 : Bt k x := h.mono l
  exact PySem.Flt.log2_lt_of k0 h1

def gAdd : D → D → (D → Cr) → Cr
  | .int i, .int j, P => P (.int (i + j))
  | .tup xs, .tup ys, P => fun n => xs.length + ys.length ≤ 100000 ∧ P (.tup (xs ++ ys)) n
  | .lst xs, .lst ys, P => fun n => xs.length + ys.length ≤ 100000 ∧ P (.lst (xs ++ ys)) n
  | _, _, _ => fun _ => False
def gSub : D → D → (D → Cr) → Cr
  | .int i, .int j, P => P (.int (i - j))
  | _, _, _ => fun _ => False
def gMul : D → D → (D → Cr) → Cr
  | .int i, .int j, P => fun n => CMulW i j ∧ P (.int (i * j)) n
  | .lst xs, .int k, P => fun n => 0 ≤ k ∧ k ≤ 1000 ∧ xs.length ≤ 100 ∧ P (.lst (List.replicate k.toNat xs).flatten) n
  | _, _, _ => fun _ => False
def gFdiv : D → D → (D → Cr) → Cr
  | .int i, .int j, P => fun n => (j ≠ 0 ∧ j.natAbs.log2 < 9000) ∧ P (.int (i.fdiv j)) n
  | _, _, _ => fun _ => False
def gMod : D → D → (D → Cr) → Cr
  | .int i, .int j, P => fun n => j ≠ 0 ∧ P (.int (i.fmod j)) n
  | _, _, _ => fun _ => False
def gPow : D → D → (D → Cr) → Cr
  | .int i, .int j, P => fun n => (0 ≤ j ∧ ((i.natAbs.log2 : Nat) + 1 : Int) * j ≤ 1000000) ∧ P (.int (i ^ j.toNat)) n
  | _, _, _ => fun _ => False
def gNeg : D → (D → Cr) → Cr
  | .int i, P => P (.int (-i))
  | _, _ => fun _ => False
def gLt : D → D → (D → Cr) → Cr
  | .int i, .int j, P => P (.bl (decide (i < j)))
  | _, _, _ => fun _ => False
def gLe : D → D → (D → Cr) → Cr
  | .int i, .int j, P => P (.bl (decide (i ≤ j)))
  | _, _, _ => fun _ => False
def gGt : D → D → (D → Cr) → Cr
  | .int i, .int j, P => P (.bl (decide (j < i)))
  | _, _, _ => fun _ => False
def gGe : D → D → (D → Cr) → Cr
  | .int i, .int j, P => P (.bl (decide (j ≤ i)))
  | _, _, _ => fun _ => False
def isNon : D → Bool
  | .non => true
  | _ => false
def gIsN : D → D → (D → Cr) → Cr
  | x, .non, P => P (.bl (isNon x))
  | _, _, _ => fun _ => False
def gNotN : D → D → (D → Cr) → Cr
  | x, .non, P => P (.bl (!isNon x))
  | _, _, _ => fun _ => False
mutual
def D.plain : D → Bool
  | .non | .bl _ | .int _ | .str _ => true
  | .tup xs | .lst xs => plainL xs
  | _ => false
def plainL : List D → Bool
  | [] => true
  | d :: ds => D.plain d && plainL ds
end
mutual
def D.py : D → PyData
  | .non => .none | .bl b => .bool b | .int i => .int i | .str s => .str s
  | .tup xs => .tuple (pyL xs)
  | .lst xs => .list (pyL xs)
  | _ => .none
def pyL : List D → List PyData
  | [] => []
  | d :: ds => D.py d :: pyL ds
end
def okE (d : D) : Bool := d.plain && SeqAt.shaped d.py
def gEq : D → D → (D → Cr) → Cr
  | .int i, .int j, P => P (.bl (decide (i = j)))
  | .str i, .str j, P => P (.bl (decide (i = j)))
  | d, e, P => fun n => (okE d = true ∧ okE e = true) ∧ P (.bl (PyData.eqv d.py e.py)) n
def gNe : D → D → (D → Cr) → Cr
  | .int i, .int j, P => P (.bl (!decide (i = j)))
  | .str i, .str j, P => P (.bl (!decide (i = j)))
  | d, e, P => fun n => (okE d = true ∧ okE e = true) ∧ P (.bl (!PyData.eqv d.py e.py)) n
def flatD : D → Bool
  | .non | .bl _ | .int _ | .str _ => true
  | _ => false
def gIx : D → D → (D → Cr) → Cr
  | .tup xs, .int i, P => fun n => ∃ d, atI xs i = some d ∧ P d n
  | .lst xs, .int i, P => fun n => ∃ d, atI xs i = some d ∧ P d n
  | .scr xs, .int i, P => fun n => ∃ d, atI xs i = some d ∧ P d n
  | .well, .int i, P => fun n => (0 ≤ i ∧ i < 3) ∧ ∀ z : Int, (i = 2 → 0 ≤ z ∧ z ≤ n) → (i = 1 → 0 ≤ z ∧ z < 4294967296) → P (.int z) n
  | _, _, _ => fun _ => False
def cutD (xs : List D) (lo hi : Option Int) : List D := (xs.drop (HT.sIx xs.length 0 lo)).take (HT.sIx xs.length xs.length hi - HT.sIx xs.length 0 lo)
def gSl : D → Option Int → Option Int → (D → Cr) → Cr
  | .tup xs, lo, hi, P => P (.tup (cutD xs lo hi))
  | .lst xs, lo, hi, P => P (.lst (cutD xs lo hi))
  | .scr xs, lo, hi, P => P (.lst (cutD xs lo hi))
  | _, _, _, _ => fun _ => False

section
variable {C : Ct} {w : Option Addr} {X : Cx} {F F' : Fz} {H H' : Hp}
theorem opI_of {f : Value → Value → Sem Value} {Cc : Int → Int → Prop} {h : Int → Int → V} {hd : Int → Int → D} {g : D → D → (D → Cr) → Cr} (ho : OpR X f (rI Cc h)) (hh : ∀ i j (G : Hp), Rep C w G (hd i j) (h i j))
    (hg : ∀ d e P n, g d e P n → ∃ i j, d = .int i ∧ e = .int j ∧ Cc i j ∧ P (hd i j) n) : OpR X f (rD C w g) := OpR.imp ho fun x y H Q ⟨F, d, e, P, g0, r1, r2, hq, f⟩ => by
  obtain ⟨i, j, rfl, rfl, c, p⟩ := hg d e P _ hq
  exact ⟨i, j, rep_int' r1, rep_int' r2, c, f.here g0 p (hh i j F)⟩
theorem opI0_of {f : Value → Value → Sem Value} {h : Int → Int → V} {hd : Int → Int → D} {g : D → D → (D → Cr) → Cr} (ho : OpR X f (rI0 h)) (hh : ∀ i j (G : Hp), Rep C w G (hd i j) (h i j))
    (hg : ∀ d e P n, g d e P n → ∃ i j, d = .int i ∧ e = .int j ∧ P (hd i j) n) : OpR X f (rD C w g) := OpR.imp ho fun x y H Q ⟨F, d, e, P, g0, r1, r2, hq, f⟩ => by
  obtain ⟨i, j, rfl, rfl, p⟩ := hg d e P _ hq
  exact ⟨i, j, rep_int' r1, rep_int' r2, f.here g0 p (hh i j F)⟩
theorem d_sub : OpR X (binaryOp .Sub) (rD C w gSub) := opI0_of (hd := fun i j => .int (i - j)) op_sub (fun _ _ _ => rep_int) fun d e P n h => by
  cases d <;> cases e <;> first | exact ⟨_, _, rfl, rfl, h⟩ | exact h.elim
theorem d_mod : OpR X (binaryOp .Mod) (rD C w gMod) := opI_of (hd := fun i j => .int (i.fmod j)) op_modN (fun _ _ _ => rep_int) fun d e P n h => by
  cases d <;> cases e <;> first | exact ⟨_, _, rfl, rfl, h.1, h.2⟩ | exact h.elim
theorem op_fdivZ : OpR X (binaryOp .FloorDiv) (rI (fun _ j => j ≠ 0 ∧ j.natAbs.log2 < 9000) fun i j => .int (i.fdiv j)) := opI fun i j _ _ _ _ _ hc q => floordiv_int hc.1 q (.inl (PyProof.noPylong_of_log2 hc.2))
theorem d_fdiv : OpR X (binaryOp .FloorDiv) (rD C w gFdiv) := opI_of (hd := fun i j => .int (i.fdiv j)) op_fdivZ (fun _ _ _ => rep_int) fun d e P n h => by
  cases d <;> cases e <;> first | exact ⟨_, _, rfl, rfl, h.1, h.2⟩ | exact h.elim
theorem op_powZ : OpR X (binaryOp .Pow) (rI (fun i j => 0 ≤ j ∧ ((i.natAbs.log2 : Nat) + 1 : Int) * j ≤ 1000000) fun i j => .int (i ^ j.toNat)) := opI fun i j _ _ _ _ _ hc q => pow_int hc.1 (by
  have h1 : (Builtin.Int.intBits i : Int) ≤ (i.natAbs.log2 : Nat) + 1 := by
    unfold Builtin.Int.intBits
    split <;> omega
  exact Int.le_trans (Int.mul_le_mul_of_nonneg_right h1 hc.1) (Int.le_trans hc.2 (by decide))) q
theorem d_pow : OpR X (binaryOp .Pow) (rD C w gPow) := opI_of (hd := fun i j => .int (i ^ j.toNat)) op_powZ (fun _ _ _ => rep_int) fun d e P n h => by
  cases d <;> cases e <;> first | exact ⟨_, _, rfl, rfl, h.1, h.2⟩ | exact h.elim
theorem d_lt : OpR X (compareOp .Lt) (rD C w gLt) := opI0_of (hd := fun i j => .bl (decide (i < j))) op_lt (fun _ _ _ => rep_bl) fun d e P n h => by
  cases d <;> cases e <;> first | exact ⟨_, _, rfl, rfl, h⟩ | exact h.elim
theorem d_le : OpR X (compareOp .LtE) (rD C w gLe) := opI0_of (hd := fun i j => .bl (decide (i ≤ j))) op_le (fun _ _ _ => rep_bl) fun d e P n h => by
  cases d <;> cases e <;> first | exact ⟨_, _, rfl, rfl, h⟩ | exact h.elim
theorem d_gt : OpR X (compareOp .Gt) (rD C w gGt) := opI0_of (hd := fun i j => .bl (decide (j < i))) op_gt (fun _ _ _ => rep_bl) fun d e P n h => by
  cases d <;> cases e <;> first | exact ⟨_, _, rfl, rfl, h⟩ | exact h.elim
theorem d_ge : OpR X (compareOp .GtE) (rD C w gGe) := opI0_of (hd := fun i j => .bl (decide (j ≤ i))) op_ge (fun _ _ _ => rep_bl) fun d e P n h => by
  cases d <;> cases e <;> first | exact ⟨_, _, rfl, rfl, h⟩ | exact h.elim
theorem d_neg : UnR X (unaryOp .USub) (rU1 C w gNeg) := UnR.imp un_neg fun x H Q ⟨F, d, P, g0, r1, hq, f⟩ => by
  cases d <;> first | exact hq.elim | skip
  rename_i i
  exact ⟨i, rep_int' r1, f.here g0 hq rep_int⟩
theorem rep_isNon {d : D} {v : V} (r : Rep C w F d v) : decide (v = .non) = isNon d := by
  cases d <;> unfold Rep at r <;> first
    | (subst r; rfl)
    | (obtain ⟨a, vs, rfl, _⟩ := r; rfl)
    | (obtain ⟨a, kvs, vs, rfl, _⟩ := r; rfl)
    | (obtain ⟨a, _, rfl⟩ := r; rfl)
theorem d_isN : OpR X (compareOp .Is) (rD C w gIsN) := OpR.imp op_isN fun x y H Q ⟨F, d, e, P, g0, r1, r2, hq, f⟩ => by
  cases e <;> first | exact hq.elim | skip
  exact ⟨rep_non' r2, by rw [rep_isNon r1]; exact f.here g0 hq rep_bl⟩
theorem d_notN : OpR X (compareOp .IsNot) (rD C w gNotN) := OpR.imp op_notN fun x y H Q ⟨F, d, e, P, g0, r1, r2, hq, f⟩ => by
  cases e <;> first | exact hq.elim | skip
  exact ⟨rep_non' r2, by rw [rep_isNon r1]; exact f.here g0 hq rep_bl⟩
theorem d_mul : OpR X (binaryOp .Mult) (rD C w gMul) := by
  intro pins s σ H x y v u Q I rx ry ⟨F, d, e, P, g0, r1, r2, hq, f⟩
  cases d <;> cases e <;> first | exact hq.elim | skip
  · rename_i i j
    exact op_mulW pins s σ H x y v u Q I rx ry ⟨i, j, rep_int' r1, rep_int' r2, hq.1, f.here g0 hq.2 rep_int⟩
  · rename_i xs k
    obtain ⟨a, vs, rfl, hs, hl⟩ := rep_lst' r1
    obtain ⟨k0, k1, hlen, hq⟩ := hq
    refine op_rep pins s σ H _ y v u Q I rx ry ⟨a, k, vs, rfl, rep_int' r2, g0.sub _ _ hs, by omega, by omega, ?_, fun p hp => ?_⟩
    · rw [← hl.length]
      exact sz_of (Nat.le_trans (Nat.mul_le_mul hlen (show k.toNat ≤ 1000 by omega)) (by decide))
    · have s2 := Step.new (o := .lst (List.replicate k.toNat vs).flatten) g0 hp
      refine f.at s2 hq (rep_lst upd_same ?_)
      have key : ∀ n : Nat, RepL C w (F.upd p (.lst (List.replicate k.toNat vs).flatten)) (List.replicate n xs).flatten (List.replicate n vs).flatten := by
        intro n
        induction n with
        | zero => exact RepL.nil
        | succ n ih => rw [List.replicate_succ, List.replicate_succ, List.flatten_cons, List.flatten_cons]; exact RepL.append (hl.ex s2.ex) ih
      exact key _
theorem RepL.nil_iff {ds : List D} {vs : List V} (h : RepL C w F ds vs) : ds = [] ↔ vs = [] := by
  have := h.length
  rw [← List.length_eq_zero_iff, ← List.length_eq_zero_iff, this]
theorem d_add (hK : C.K = X.K) : OpR X (binaryOp .Add) (rD C w gAdd) := by
  intro pins s σ H x y v u Q I rx ry ⟨F, d, e, P, g0, r1, r2, hq, f⟩
  cases d <;> cases e <;> first | exact hq.elim | skip
  · rename_i i j
    exact op_add pins s σ H x y v u Q I rx ry ⟨i, j, rep_int' r1, rep_int' r2, f.here g0 hq rep_int⟩
  · rename_i xs ys
    obtain ⟨a, vs, rfl, hs, hl⟩ := rep_tup' r1
    obtain ⟨b, us, rfl, ht, hm⟩ := rep_tup' r2
    obtain ⟨hlen, hq⟩ := hq
    rw [hK] at hs ht
    refine op_catA pins s σ H _ _ v u Q I rx ry ⟨a, b, vs, us, rfl, rfl, Ex.t g0.sub hs, Ex.t g0.sub ht, ?_, fun e1 => ?_, fun e1 e2 => ?_, fun e1 e2 p hp => ?_⟩
    · rw [← hl.length, ← hm.length]; exact sz_of hlen
    · have e3 := hl.nil_iff.mpr e1
      refine f.here g0 hq ?_
      rw [e3, List.nil_append]
      exact r2
    · have e3 := hm.nil_iff.mpr e2
      refine f.here g0 hq ?_
      rw [e3, List.append_nil]
      exact r1
    · have s2 := Step.new (o := .tup (vs ++ us)) g0 hp
      exact f.at s2 hq (rep_tup (SqT.of upd_same) (RepL.append (hl.ex s2.ex) (hm.ex s2.ex)))
  · rename_i xs ys
    obtain ⟨a, vs, rfl, hs, hl⟩ := rep_lst' r1
    obtain ⟨b, us, rfl, ht, hm⟩ := rep_lst' r2
    obtain ⟨hlen, hq⟩ := hq
    refine op_cat pins s σ H _ _ v u Q I rx ry ⟨a, b, vs, us, rfl, rfl, g0.sub _ _ hs, g0.sub _ _ ht, ?_, fun p hp => ?_⟩
    · rw [← hl.length, ← hm.length]; exact sz_of hlen
    · have s2 := Step.new (o := .lst (vs ++ us)) g0 hp
      exact f.at s2 hq (rep_lst upd_same (RepL.append (hl.ex s2.ex) (hm.ex s2.ex)))
/-! ### == -/
mutual
theorem rep_dp (hK : C.K = X.K) (g0 : Gd C w F H) : ∀ {d : D} {v : V}, d.plain = true → Rep C w F d v → Dp X.K H v d.py
  | .non, _, _, r => by rw [rep_non' r]; unfold D.py; exact .non
  | .bl b, _, _, r => by rw [rep_bl' r]; unfold D.py; exact .bl b
  | .int i, _, _, r => by rw [rep_int' r]; unfold D.py; exact .int i
  | .str i, _, _, r => by rw [rep_str' r]; unfold D.py; exact .str i
  | .tup xs, _, p, r => by
    obtain ⟨a, vs, rfl, hs, hl⟩ := rep_tup' r
    unfold D.plain at p; unfold D.py
    rw [hK] at hs
    exact .tup (Ex.t g0.sub hs) (rep_dpL hK g0 p hl)
  | .lst xs, _, p, r => by
    obtain ⟨a, vs, rfl, hs, hl⟩ := rep_lst' r
    unfold D.plain at p; unfold D.py
    exact .lst (SqL.of (g0.sub _ _ hs)) (rep_dpL hK g0 p hl)
  | .dic _ _, _, p, _ => by unfold D.plain at p; cases p
  | .scr _, _, p, _ => by unfold D.plain at p; cases p
  | .well, _, p, _ => by unfold D.plain at p; cases p
  | .ty _, _, p, _ => by unfold D.plain at p; cases p
  | .adr _, _, p, _ => by unfold D.plain at p; cases p
theorem rep_dpL (hK : C.K = X.K) (g0 : Gd C w F H) : ∀ {ds : List D} {vs : List V}, plainL ds = true → RepL C w F ds vs → DpAll X.K H vs (pyL ds)
  | [], _, _, r => by rw [r.inv0]; unfold pyL; exact .nil
  | d :: ds, _, p, r => by
    obtain ⟨v, t, rfl, h1, h2⟩ := r.inv
    unfold plainL at p
    rw [Bool.and_eq_true] at p
    unfold pyL
    exact .cons (rep_dp hK g0 p.1 h1) (rep_dpL hK g0 p.2 h2)
end
theorem gEq_cases {d e : D} {P : D → Cr} {n : Nat} (h : gEq d e P n) : (∃ i j, d = .int i ∧ e = .int j ∧ P (.bl (decide (i = j))) n) ∨ (∃ i j, d = .str i ∧ e = .str j ∧ P (.bl (decide (i = j))) n) ∨ ((okE d = true ∧ okE e = true) ∧ P (.bl (PyData.eqv d.py e.py)) n) := by
  cases d <;> cases e <;> first | exact .inl ⟨_, _, rfl, rfl, h⟩ | exact .inr (.inl ⟨_, _, rfl, rfl, h⟩) | exact .inr (.inr h)
theorem gNe_cases {d e : D} {P : D → Cr} {n : Nat} (h : gNe d e P n) : (∃ i j, d = .int i ∧ e = .int j ∧ P (.bl (!decide (i = j))) n) ∨ (∃ i j, d = .str i ∧ e = .str j ∧ P (.bl (!decide (i = j))) n) ∨ ((okE d = true ∧ okE e = true) ∧ P (.bl (!PyData.eqv d.py e.py)) n) := by
  cases d <;> cases e <;> first | exact .inl ⟨_, _, rfl, rfl, h⟩ | exact .inr (.inl ⟨_, _, rfl, rfl, h⟩) | exact .inr (.inr h)
theorem d_eq (hK : C.K = X.K) (hu : X.A.units + 64 < cLine) : OpR X (compareOp .Eq) (rD C w gEq) := by
  intro pins s σ H x y v u Q I rx ry ⟨F, d, e, P, g0, r1, r2, hq, f⟩
  rcases gEq_cases hq with ⟨i, j, rfl, rfl, p⟩ | ⟨i, j, rfl, rfl, p⟩ | ⟨⟨o1, o2⟩, p⟩
  · obtain rfl := rep_int' r1
    obtain rfl := rep_int' r2
    refine op_eq pins s σ H _ _ v u Q I rx ry ⟨rfl, ?_⟩
    rw [dec_int, Bool.beq_eq_decide_eq]
    exact f.here g0 p rep_bl
  · obtain rfl := rep_str' r1
    obtain rfl := rep_str' r2
    refine op_eq pins s σ H _ _ v u Q I rx ry ⟨rfl, ?_⟩
    have e : (decide (V.str i = V.str j)) = decide (i = j) := by simp
    rw [e]
    exact f.here g0 p rep_bl
  · unfold okE at o1 o2
    rw [Bool.and_eq_true] at o1 o2
    exact op_eqD hu pins s σ H x y v u Q I rx ry ⟨d.py, e.py, rep_dp hK g0 o1.1 r1, rep_dp hK g0 o2.1 r2, o1.2, o2.2, f.here g0 p rep_bl⟩
theorem d_ne (hK : C.K = X.K) (hu : X.A.units + 64 < cLine) : OpR X (compareOp .NotEq) (rD C w gNe) := by
  intro pins s σ H x y v u Q I rx ry ⟨F, d, e, P, g0, r1, r2, hq, f⟩
  rcases gNe_cases hq with ⟨i, j, rfl, rfl, p⟩ | ⟨i, j, rfl, rfl, p⟩ | ⟨⟨o1, o2⟩, p⟩
  · obtain rfl := rep_int' r1
    obtain rfl := rep_int' r2
    refine op_ne pins s σ H _ _ v u Q I rx ry ⟨rfl, ?_⟩
    rw [dec_int, Bool.beq_eq_decide_eq]
    exact f.here g0 p rep_bl
  · obtain rfl := rep_str' r1
    obtain rfl := rep_str' r2
    refine op_ne pins s σ H _ _ v u Q I rx ry ⟨rfl, ?_⟩
    have e : (decide (V.str i = V.str j)) = decide (i = j) := by simp
    rw [e]
    exact f.here g0 p rep_bl
  · unfold okE at o1 o2
    rw [Bool.and_eq_true] at o1 o2
    exact op_neD hu pins s σ H x y v u Q I rx ry ⟨d.py, e.py, rep_dp hK g0 o1.1 r1, rep_dp hK g0 o2.1 r2, o1.2, o2.2, f.here g0 p rep_bl⟩
/-! ### index, slices -/
theorem RepL.at {ds : List D} {vs : List V} {i : Int} {d : D} (h : RepL C w F ds vs) (e : atI ds i = some d) : ∃ v, atI vs i = some v ∧ Rep C w F d v := by
  unfold atI at e ⊢
  rw [← h.length]
  cases hx : ixN ds.length i with
  | none => rw [hx] at e; cases e
  | some j => rw [hx] at e; exact h.get e
theorem d_ix (hK : C.K = X.K) : IxR X (rD C w gIx) := by
  intro a b pins s σ H x y v u Q I rx ry ⟨F, d, e, P, g0, r1, r2, hq, f⟩ hs
  cases d <;> cases e <;> first | exact hq.elim | skip
  · rename_i xs i
    obtain ⟨p, vs, rfl, h1, h2⟩ := rep_tup' r1
    obtain ⟨d, e1, hq⟩ := hq
    obtain ⟨z, e2, rz⟩ := h2.at e1
    rw [hK] at h1
    exact ix_tup a b pins s σ H _ _ v u Q I rx ry ⟨p, vs, i, z, rfl, rep_int' r2, Ex.t g0.sub h1, e2, f.here g0 hq rz⟩ hs
  · rename_i xs i
    obtain ⟨p, vs, rfl, h1, h2⟩ := rep_lst' r1
    obtain ⟨d, e1, hq⟩ := hq
    obtain ⟨z, e2, rz⟩ := h2.at e1
    exact ix_list a b pins s σ H _ _ v u Q I rx ry ⟨p, vs, i, z, rfl, rep_int' r2, SqL.of (g0.sub _ _ h1), e2, f.here g0 hq rz⟩ hs
  · rename_i xs i
    obtain ⟨p, vs, rfl, h1, h2⟩ := rep_scr' r1
    obtain ⟨d, e1, hq⟩ := hq
    obtain ⟨z, e2, rz⟩ := h2.at e1
    rw [hK] at h1
    exact ix_list a b pins s σ H _ _ v u Q I rx ry ⟨p, vs, i, z, rfl, rep_int' r2, Ex.l g0.sub h1, e2, f.here g0 hq rz⟩ hs
  · rename_i i
    unfold Rep at r1
    obtain ⟨p, hw, rfl⟩ := r1
    obtain ⟨_, _, x, y, z, e, b_y, bz⟩ := g0.well p hw
    obtain ⟨⟨b1, b2⟩, hq⟩ := hq
    have key : ∀ (t : Int), atI [V.int x, V.int y, V.int z] i = some (.int t) → (i = 2 → 0 ≤ t ∧ t ≤ F.n) → (i = 1 → 0 ≤ t ∧ t < 4294967296) → wpAny (model X.prog X.w) X.A (subscriptTail a b v u) (EP X pins σ Q) X.xe s := fun t et ht hy =>
      ix_list a b pins s σ H _ _ v u Q I rx ry ⟨p, _, i, _, rfl, rep_int' r2, SqL.of e, et, f.here g0 (hq t ht hy) rep_int⟩ hs
    have : i = 0 ∨ i = 1 ∨ i = 2 := by omega
    rcases this with rfl | rfl | rfl
    · exact key x rfl (fun h => absurd h (by decide)) (fun h => absurd h (by decide))
    · exact key y rfl (fun h => absurd h (by decide)) (fun _ => b_y)
    · exact key z rfl (fun _ => bz) (fun h => absurd h (by decide))
end
end DJ

set_option Elab.async false
set_option linter.all false
set_option maxRecDepth 100000
set_option maxHeartbeats 1000000
/-! slices, in, calls of built-ins over data -/
namespace DJ
open PySem PySem.Spec PyProof.Rows L2 GxR

abbrev MO := Sl → (Option Int → Cr) → Cr
def gInt : D → (Int → Cr) → Cr
  | .int i, P => P i
  | _, _ => fun _ => False
theorem gInt_inv {d : D} {P : Int → Cr} {n : Nat} (h : gInt d P n) : ∃ i, d = .int i ∧ P i n := by cases d <;> first | exact ⟨_, rfl, h⟩ | exact h.elim
def mONone : MO := fun _ P => P none
def mOSome (m : ME) : MO := fun l P => m l fun d => gInt d fun i => P (some i)
def mSl (a : ME) (lo hi : MO) : ME := fun l P => a l fun x => lo l fun i => hi l fun j => gSl x i j P
def FinO (C : Ct) (w : Option Addr) (F : Fz) (H : Hp) (P : Option Int → Cr) (Q : Option Int → Hp → Prop) : Prop := ∀ o F' H', P o F'.n → Step C w F H F' H' → Q o H'
def tMO (C : Ct) (w : Option Addr) (m : MO) : TO := fun σ H Q => ∃ F l P, Gd C w F H ∧ RepS C w F H l σ ∧ m l P F.n ∧ FinO C w F H P Q
abbrev JO (C : Ct) (w : Option Addr) (X : Cx) (e : Option Expr) (m : MO) : Prop := PO X e (tMO C w m)
section
variable {C : Ct} {w : Option Addr} {X : Cx} {F F' : Fz} {H H' : Hp}
theorem PO.imp {e : Option Expr} {t t' : TO} (h : PO X e t) (hi : ∀ σ H Q, t' σ H Q → t σ H Q) : PO X e t' := ⟨fun pins s σ H Q I hw => h.run pins s σ H Q I (hi σ H Q hw)⟩
theorem jo_none : JO C w X none mONone := PO.imp po_none fun σ H Q ⟨F, l, P, g0, r, h, f⟩ => f none F H h (Step.refl g0)
theorem jo_some {e : Expr} {m : ME} (h : JE C w X e m) : JO C w X (some e) (mOSome m) := PO.imp (po_some h) fun σ H Q ⟨F, l, P, g0, r, h, f⟩ => by
  refine ⟨F, l, _, g0, r, h, fun x v F1 H1 h1 s1 r1 => ?_⟩
  obtain ⟨i, rfl, q⟩ := gInt_inv h1
  exact ⟨i, rep_int' r1, f _ F1 H1 q s1⟩
def rSlD (C : Ct) (w : Option Addr) : V → Option Int → Option Int → Hp → VK → Prop := fun x lo hi H Q => ∃ F d P, Gd C w F H ∧ Rep C w F d x ∧ gSl d lo hi P F.n ∧ Fin C w F H P Q
theorem cut_rep {ds : List D} {vs : List V} (h : RepL C w F ds vs) (lo hi : Option Int) : RepL C w F (cutD ds lo hi) (cutV vs lo hi) := by
  unfold cutD cutV
  rw [h.length]
  exact RepL.take _ (RepL.drop _ h)
theorem cut_whole {α : Type} {n : Nat} {xs : List α} (hl : xs.length = n) {a b : Nat} (h1 : a = 0) (h2 : b = n) : (xs.drop a).take (b - a) = xs := by
  subst h1 h2
  rw [List.drop_zero, Nat.sub_zero, ← hl, List.take_length]
theorem sl_D (hK : C.K = X.K) : SlR X (rSlD C w) := by
  intro pins s σ H x v vl vu lo hi sl Q I rx hs pl pu ⟨F, d, P, g0, r1, hq, f⟩
  cases d <;> first | exact hq.elim | skip
  · rename_i xs
    obtain ⟨a, vs, rfl, h1, h2⟩ := rep_tup' r1
    have h1' := h1
    rw [hK] at h1
    refine sl_tupA pins s σ H _ v vl vu lo hi sl Q I rx hs pl pu ⟨a, vs, rfl, Ex.t g0.sub h1, fun e => ?_, fun e p hp => ?_⟩
    · refine f.here g0 hq (rep_tup h1' ?_)
      have hc := cut_rep h2 lo hi
      have e2 : cutV vs lo hi = vs := by unfold cutV; exact cut_whole rfl e.1 e.2
      rw [e2] at hc
      exact hc
    · have s2 := Step.new (o := .tup (cutV vs lo hi)) g0 hp
      exact f.at s2 hq (rep_tup (SqT.of upd_same) (cut_rep (h2.ex s2.ex) lo hi))
  · rename_i xs
    obtain ⟨a, vs, rfl, h1, h2⟩ := rep_lst' r1
    refine sl_list pins s σ H _ v vl vu lo hi sl Q I rx hs pl pu ⟨a, vs, rfl, SqL.of (g0.sub _ _ h1), fun p hp => ?_⟩
    have s2 := Step.new (o := .lst (cutV vs lo hi)) g0 hp
    exact f.at s2 hq (rep_lst upd_same (cut_rep (h2.ex s2.ex) lo hi))
  · rename_i xs
    obtain ⟨a, vs, rfl, h1, h2⟩ := rep_scr' r1
    rw [hK] at h1
    refine sl_list pins s σ H _ v vl vu lo hi sl Q I rx hs pl pu ⟨a, vs, rfl, Ex.l g0.sub h1, fun p hp => ?_⟩
    have s2 := Step.new (o := .lst (cutV vs lo hi)) g0 hp
    exact f.at s2 hq (rep_lst upd_same (cut_rep (h2.ex s2.ex) lo hi))
theorem je_slice {e : Expr} {lo hi : Option Expr} {pos p2 : Pos} {m : ME} {ml mh : MO} (hK : C.K = X.K) (he : JE C w X e m) (hl : JO C w X lo ml) (hu : JO C w X hi mh) : JE C w X (.Subscript e (.Slice lo hi none p2) pos) (mSl m ml mh) := PE.imp (pe_slice (sl_D hK) he hl hu) fun σ H Q ⟨F, l, P, g0, r, h, f⟩ => by
  refine ⟨F, l, _, g0, r, h, fun x v F1 H1 h1 s1 r1 => ?_⟩
  refine ⟨F1, l, _, s1.gd, r.step s1, h1, fun i F2 H2 h2 s2 => ?_⟩
  refine ⟨F2, l, _, s2.gd, (r.step s1).step s2, h2, fun j F3 H3 h3 s3 => ?_⟩
  exact ⟨F3, x, P, s3.gd, (r1.ex s2.ex).ex s3.ex, h3, f.go g0 ((s1.trans g0 s2).trans g0 s3)⟩

/-! ### in -/
def eqD : D → D → Bool
  | .non, .non => true
  | .bl a, .bl b => a == b
  | .bl a, .int b => (if a then 1 else 0) == b
  | .int a, .bl b => a == (if b then 1 else 0)
  | .int a, .int b => a == b
  | .str a, .str b => a == b
  | _, _ => false
def inD (x : D) (xs : List D) : Bool := xs.any fun y => eqD y x
def gIn (neg : Bool) : D → D → (D → Cr) → Cr
  | x, .tup xs, P => fun n => (flatD x = true ∧ xs.all flatD = true) ∧ P (.bl (if neg then !inD x xs else inD x xs)) n
  | x, .lst xs, P => fun n => (flatD x = true ∧ xs.all flatD = true) ∧ P (.bl (if neg then !inD x xs else inD x xs)) n
  | _, _, _ => fun _ => False
theorem flat_rep {d : D} {v : V} (f : flatD d = true) (r : Rep C w F d v) : flatV v = true := by
  cases d <;> first | (cases f; done) | (first | (rw [rep_non' r]; rfl) | (rw [rep_bl' r]; rfl) | (rw [rep_int' r]; rfl) | (rw [rep_str' r]; rfl))
theorem eq_rep {d e : D} {v u : V} (fd : flatD d = true) (fe : flatD e = true) (r : Rep C w F d v) (q : Rep C w F e u) : eqV v u = eqD d e := by
  cases d <;> (try (cases fd; done)) <;> cases e <;> (try (cases fe; done)) <;>
    (first | (rw [rep_non' r]) | (rw [rep_bl' r]) | (rw [rep_int' r]) | (rw [rep_str' r])) <;>
    (first | (rw [rep_non' q]) | (rw [rep_bl' q]) | (rw [rep_int' q]) | (rw [rep_str' q])) <;> rfl
theorem flat_repL : ∀ {ds : List D} {vs : List V}, ds.all flatD = true → RepL C w F ds vs → vs.all flatV = true
  | [], _, _, r => by rw [r.inv0]; rfl
  | d :: ds, _, h, r => by
    obtain ⟨v, t, rfl, h1, h2⟩ := r.inv
    rw [List.all_cons, Bool.and_eq_true] at h ⊢
    exact ⟨flat_rep h.1 h1, flat_repL h.2 h2⟩
theorem in_rep {x : D} {u : V} (fx : flatD x = true) (rx : Rep C w F x u) : ∀ {ds : List D} {vs : List V}, ds.all flatD = true → RepL C w F ds vs → inV u vs = inD x ds
  | [], _, _, r => by rw [r.inv0]; rfl
  | d :: ds, _, h, r => by
    obtain ⟨v, t, rfl, h1, h2⟩ := r.inv
    rw [List.all_cons, Bool.and_eq_true] at h
    have ih := in_rep fx rx h.2 h2
    unfold inV inD at ih ⊢
    rw [List.any_cons, List.any_cons, eq_rep h.1 fx h1 rx, ih]
theorem d_in (hK : C.K = X.K) : OpR X (compareOp .In) (rD C w (gIn false)) := by
  intro pins s σ H x y v u Q I rx ry ⟨F, d, e, P, g0, r1, r2, hq, f⟩
  cases e <;> first | exact hq.elim | skip
  · rename_i xs
    obtain ⟨a, vs, rfl, h1, h2⟩ := rep_tup' r2
    obtain ⟨⟨q1, q2⟩, hq⟩ := hq
    rw [hK] at h1
    refine op_in_seq pins s σ H x _ v u Q I rx ry ⟨a, vs, rfl, .inr (Ex.t g0.sub h1), flat_rep q1 r1, flat_repL q2 h2, ?_⟩
    rw [in_rep q1 r1 q2 h2]
    exact f.here g0 hq rep_bl
  · rename_i xs
    obtain ⟨a, vs, rfl, h1, h2⟩ := rep_lst' r2
    obtain ⟨⟨q1, q2⟩, hq⟩ := hq
    refine op_in_seq pins s σ H x _ v u Q I rx ry ⟨a, vs, rfl, .inl (SqL.of (g0.sub _ _ h1)), flat_rep q1 r1, flat_repL q2 h2, ?_⟩
    rw [in_rep q1 r1 q2 h2]
    exact f.here g0 hq rep_bl
theorem d_notIn (hK : C.K = X.K) : OpR X (compareOp .NotIn) (rD C w (gIn true)) := by
  intro pins s σ H x y v u Q I rx ry ⟨F, d, e, P, g0, r1, r2, hq, f⟩
  cases e <;> first | exact hq.elim | skip
  · rename_i xs
    obtain ⟨a, vs, rfl, h1, h2⟩ := rep_tup' r2
    obtain ⟨⟨q1, q2⟩, hq⟩ := hq
    rw [hK] at h1
    refine op_notIn_seq pins s σ H x _ v u Q I rx ry ⟨a, vs, rfl, .inr (Ex.t g0.sub h1), flat_rep q1 r1, flat_repL q2 h2, ?_⟩
    rw [in_rep q1 r1 q2 h2]
    exact f.here g0 hq rep_bl
  · rename_i xs
    obtain ⟨a, vs, rfl, h1, h2⟩ := rep_lst' r2
    obtain ⟨⟨q1, q2⟩, hq⟩ := hq
    refine op_notIn_seq pins s σ H x _ v u Q I rx ry ⟨a, vs, rfl, .inl (SqL.of (g0.sub _ _ h1)), flat_rep q1 r1, flat_repL q2 h2, ?_⟩
    rw [in_rep q1 r1 q2 h2]
    exact f.here g0 hq rep_bl

/-! ### calls -/
def g1 (h : D → (D → Cr) → Cr) : List D → (D → Cr) → Cr
  | [d], P => h d P
  | _, _ => fun _ => False
def g2 (h : D → D → (D → Cr) → Cr) : List D → (D → Cr) → Cr
  | [d, e], P => h d e P
  | _, _ => fun _ => False
def g3 (h : D → D → D → (D → Cr) → Cr) : List D → (D → Cr) → Cr
  | [d, e, f], P => h d e f P
  | _, _ => fun _ => False
theorem g1_inv {h : D → (D → Cr) → Cr} {ds : List D} {P : D → Cr} {n : Nat} (q : g1 h ds P n) : ∃ d, ds = [d] ∧ h d P n := by
  unfold g1 at q; split at q
  · exact ⟨_, rfl, q⟩
  · exact q.elim
theorem g2_inv {h : D → D → (D → Cr) → Cr} {ds : List D} {P : D → Cr} {n : Nat} (q : g2 h ds P n) : ∃ d e, ds = [d, e] ∧ h d e P n := by
  unfold g2 at q; split at q
  · exact ⟨_, _, rfl, q⟩
  · exact q.elim
theorem g3_inv {h : D → D → D → (D → Cr) → Cr} {ds : List D} {P : D → Cr} {n : Nat} (q : g3 h ds P n) : ∃ d e f, ds = [d, e, f] ∧ h d e f P n := by
  unfold g3 at q; split at q
  · exact ⟨_, _, _, rfl, q⟩
  · exact q.elim
theorem repL1 {d : D} {vs : List V} (h : RepL C w F [d] vs) : ∃ v, vs = [v] ∧ Rep C w F d v := by
  obtain ⟨v, r, rfl, h1, h2⟩ := h.inv
  rw [h2.inv0]
  exact ⟨v, rfl, h1⟩
theorem repL2 {d e : D} {vs : List V} (h : RepL C w F [d, e] vs) : ∃ v u, vs = [v, u] ∧ Rep C w F d v ∧ Rep C w F e u := by
  obtain ⟨v, r, rfl, h1, h2⟩ := h.inv
  obtain ⟨u, rfl, h3⟩ := repL1 h2
  exact ⟨v, u, rfl, h1, h3⟩
theorem repL3 {d e f : D} {vs : List V} (h : RepL C w F [d, e, f] vs) : ∃ v u z, vs = [v, u, z] ∧ Rep C w F d v ∧ Rep C w F e u ∧ Rep C w F f z := by
  obtain ⟨v, r, rfl, h1, h2⟩ := h.inv
  obtain ⟨u, z, rfl, h3, h4⟩ := repL2 h2
  exact ⟨v, u, z, rfl, h1, h3, h4⟩
theorem call1 {f : Value} {r : List V → Hp → VK → Prop} {h : D → (D → Cr) → Cr} (hc : CallR X f r)
    (hi : ∀ (F : Fz) H d v P Q, Gd C w F H → Rep C w F d v → h d P F.n → Fin C w F H P Q → r [v] H Q) : CallR X f (rC C w (g1 h)) := CallR.imp hc fun xs H Q ⟨F, ds, P, g0, rl, hq, f⟩ => by
  obtain ⟨d, rfl, q⟩ := g1_inv hq
  obtain ⟨v, rfl, r⟩ := repL1 rl
  exact hi F H d v P Q g0 r q f
theorem call2 {f : Value} {r : List V → Hp → VK → Prop} {h : D → D → (D → Cr) → Cr} (hc : CallR X f r)
    (hi : ∀ (F : Fz) H d e v u P Q, Gd C w F H → Rep C w F d v → Rep C w F e u → h d e P F.n → Fin C w F H P Q → r [v, u] H Q) : CallR X f (rC C w (g2 h)) := CallR.imp hc fun xs H Q ⟨F, ds, P, g0, rl, hq, f⟩ => by
  obtain ⟨d, e, rfl, q⟩ := g2_inv hq
  obtain ⟨v, u, rfl, r, r'⟩ := repL2 rl
  exact hi F H d e v u P Q g0 r r' q f
theorem call3 {f : Value} {r : List V → Hp → VK → Prop} {h : D → D → D → (D → Cr) → Cr} (hc : CallR X f r)
    (hi : ∀ (F : Fz) H d e g v u z P Q, Gd C w F H → Rep C w F d v → Rep C w F e u → Rep C w F g z → h d e g P F.n → Fin C w F H P Q → r [v, u, z] H Q) : CallR X f (rC C w (g3 h)) := CallR.imp hc fun xs H Q ⟨F, ds, P, g0, rl, hq, f⟩ => by
  obtain ⟨d, e, g, rfl, q⟩ := g3_inv hq
  obtain ⟨v, u, z, rfl, r, r', r''⟩ := repL3 rl
  exact hi F H d e g v u z P Q g0 r r' r'' q f
def gLen : D → (D → Cr) → Cr
  | .tup xs, P => P (.int xs.length)
  | .lst xs, P => P (.int xs.length)
  | .scr xs, P => P (.int xs.length)
  | _, _ => fun _ => False
theorem d_len (hK : C.K = X.K) : CallR X (.builtin "len") (rC C w (g1 gLen)) := call1 call_len_seq fun F H d v P Q g0 r hq f => by
  cases d <;> first | exact hq.elim | skip
  · obtain ⟨a, vs, rfl, h1, h2⟩ := rep_tup' r
    rw [hK] at h1
    refine ⟨a, vs, rfl, .inr (Ex.t g0.sub h1), ?_⟩
    rw [← h2.length]; exact f.here g0 hq rep_int
  · obtain ⟨a, vs, rfl, h1, h2⟩ := rep_lst' r
    refine ⟨a, vs, rfl, .inl (SqL.of (g0.sub _ _ h1)), ?_⟩
    rw [← h2.length]; exact f.here g0 hq rep_int
  · obtain ⟨a, vs, rfl, h1, h2⟩ := rep_scr' r
    rw [hK] at h1
    refine ⟨a, vs, rfl, .inl (Ex.l g0.sub h1), ?_⟩
    rw [← h2.length]; exact f.here g0 hq rep_int
def gAbs : D → (D → Cr) → Cr
  | .int i, P => P (.int (if i < 0 then -i else i))
  | _, _ => fun _ => False
theorem d_abs : CallR X (.builtin "abs") (rC C w (g1 gAbs)) := call1 call_abs fun F H d v P Q g0 r hq f => by
  cases d <;> first | exact hq.elim | skip
  exact ⟨_, by rw [rep_int' r], f.here g0 hq rep_int⟩
def gIntC : D → (D → Cr) → Cr
  | .int i, P => P (.int i)
  | _, _ => fun _ => False
theorem d_int : CallR X (.type "int") (rC C w (g1 gIntC)) := call1 call_int1 fun F H d v P Q g0 r hq f => by
  cases d <;> first | exact hq.elim | skip
  exact .inl ⟨_, by rw [rep_int' r], f.here g0 hq rep_int⟩
def gMax2 : D → D → (D → Cr) → Cr
  | .int i, .int j, P => P (.int (max i j))
  | _, _, _ => fun _ => False
def gMin2 : D → D → (D → Cr) → Cr
  | .int i, .int j, P => P (.int (min i j))
  | _, _, _ => fun _ => False
theorem d_max2 (hc : X.calm = true) : CallR X (.builtin "max") (rC C w (g2 gMax2)) := call2 (call_max2 hc) fun F H d e v u P Q g0 r r2 hq f => by
  cases d <;> cases e <;> first | exact hq.elim | skip
  rename_i i j
  refine ⟨i, j, by rw [rep_int' r, rep_int' r2], ?_⟩
  have e : (if j > i then j else i) = max i j := by split <;> omega
  rw [e]
  exact f.here g0 hq rep_int
theorem d_min2 (hc : X.calm = true) : CallR X (.builtin "min") (rC C w (g2 gMin2)) := call2 (call_min2 hc) fun F H d e v u P Q g0 r r2 hq f => by
  cases d <;> cases e <;> first | exact hq.elim | skip
  rename_i i j
  refine ⟨i, j, by rw [rep_int' r, rep_int' r2], ?_⟩
  have e : (if j < i then j else i) = min i j := by split <;> omega
  rw [e]
  exact f.here g0 hq rep_int
def gList : D → (D → Cr) → Cr
  | .tup xs, P => P (.lst xs)
  | .lst xs, P => P (.lst xs)
  | .scr xs, P => P (.lst xs)
  | _, _ => fun _ => False
theorem d_list (hK : C.K = X.K) : CallR X (.type "list") (rC C w (g1 gList)) := call1 call_list_of fun F H d v P Q g0 r hq f => by
  cases d <;> first | exact hq.elim | skip
  · obtain ⟨a, vs, rfl, h1, h2⟩ := rep_tup' r
    rw [hK] at h1
    refine ⟨a, vs, rfl, .inr (Ex.t g0.sub h1), fun p hp => ?_⟩
    have s2 := Step.new (o := .lst vs) g0 hp
    exact f.at s2 hq (rep_lst upd_same (h2.ex s2.ex))
  · obtain ⟨a, vs, rfl, h1, h2⟩ := rep_lst' r
    refine ⟨a, vs, rfl, .inl (SqL.of (g0.sub _ _ h1)), fun p hp => ?_⟩
    have s2 := Step.new (o := .lst vs) g0 hp
    exact f.at s2 hq (rep_lst upd_same (h2.ex s2.ex))
  · obtain ⟨a, vs, rfl, h1, h2⟩ := rep_scr' r
    rw [hK] at h1
    refine ⟨a, vs, rfl, .inl (Ex.l g0.sub h1), fun p hp => ?_⟩
    have s2 := Step.new (o := .lst vs) g0 hp
    exact f.at s2 hq (rep_lst upd_same (h2.ex s2.ex))
def gTuple : D → (D → Cr) → Cr
  | .tup xs, P => P (.tup xs)
  | .lst xs, P => P (.tup xs)
  | _, _ => fun _ => False
theorem d_tuple (hK : C.K = X.K) : CallR X (.type "tuple") (rC C w (g1 gTuple)) := call1 call_tuple_of fun F H d v P Q g0 r hq f => by
  cases d <;> first | exact hq.elim | skip
  · have r0 := r
    obtain ⟨a, vs, rfl, h1, h2⟩ := rep_tup' r
    rw [hK] at h1
    exact ⟨a, vs, rfl, .inr ⟨Ex.t g0.sub h1, f.here g0 hq r0⟩⟩
  · obtain ⟨a, vs, rfl, h1, h2⟩ := rep_lst' r
    refine ⟨a, vs, rfl, .inl ⟨SqL.of (g0.sub _ _ h1), fun p hp => ?_⟩⟩
    have s2 := Step.new (o := .tup vs) g0 hp
    exact f.at s2 hq (rep_tup (SqT.of upd_same) (h2.ex s2.ex))
theorem rep_bls : ∀ {bs : List Bool} {vs : List V}, RepL C w F (bs.map D.bl) vs → vs = bs.map V.bl
  | [], _, r => by rw [List.map_nil] at r; rw [r.inv0]; rfl
  | b :: bs, _, r => by
    rw [List.map_cons] at r
    obtain ⟨v, t, rfl, h1, h2⟩ := r.inv
    rw [rep_bl' h1, rep_bls h2]; rfl
theorem rep_ints : ∀ {ns : List Int} {vs : List V}, RepL C w F (ns.map D.int) vs → vs = ns.map V.int
  | [], _, r => by rw [List.map_nil] at r; rw [r.inv0]; rfl
  | b :: bs, _, r => by
    rw [List.map_cons] at r
    obtain ⟨v, t, rfl, h1, h2⟩ := r.inv
    rw [rep_int' h1, rep_ints h2]; rfl
def gAll : D → (D → Cr) → Cr
  | .lst xs, P => fun n => ∃ bs : List Bool, xs = bs.map D.bl ∧ P (.bl (bs.all id)) n
  | _, _ => fun _ => False
def gAny : D → (D → Cr) → Cr
  | .lst xs, P => fun n => ∃ bs : List Bool, xs = bs.map D.bl ∧ P (.bl (bs.any id)) n
  | _, _ => fun _ => False
theorem d_all (hc : X.calm = true) : CallR X (.builtin "all") (rC C w (g1 gAll)) := call1 (cr_all hc) fun F H d v P Q g0 r hq f => by
  cases d <;> first | exact hq.elim | skip
  obtain ⟨a, vs, rfl, h1, h2⟩ := rep_lst' r
  obtain ⟨bs, rfl, p⟩ := hq
  refine ⟨a, bs, rfl, SqL.of ?_, f.here g0 p rep_bl⟩
  rw [g0.sub _ _ h1, rep_bls h2]
theorem d_any (hc : X.calm = true) : CallR X (.builtin "any") (rC C w (g1 gAny)) := call1 (cr_any hc) fun F H d v P Q g0 r hq f => by
  cases d <;> first | exact hq.elim | skip
  obtain ⟨a, vs, rfl, h1, h2⟩ := rep_lst' r
  obtain ⟨bs, rfl, p⟩ := hq
  refine ⟨a, bs, rfl, SqL.of ?_, f.here g0 p rep_bl⟩
  rw [g0.sub _ _ h1, rep_bls h2]
/-- the greatest, the least of a list of ints -/
def gMaxL : D → (D → Cr) → Cr
  | .lst xs, P => fun n => ∃ ns : List Int, xs = ns.map D.int ∧ 0 < ns.length ∧ ∀ m, m ∈ ns → (∀ y ∈ ns, y ≤ m) → P (.int m) n
  | _, _ => fun _ => False
def gMinL : D → (D → Cr) → Cr
  | .lst xs, P => fun n => ∃ ns : List Int, xs = ns.map D.int ∧ 0 < ns.length ∧ ∀ m, m ∈ ns → (∀ y ∈ ns, m ≤ y) → P (.int m) n
  | _, _ => fun _ => False
theorem d_maxL (hc : X.calm = true) : CallR X (.builtin "max") (rC C w (g1 gMaxL)) := call1 (cr_max hc) fun F H d v P Q g0 r hq f => by
  cases d <;> first | exact hq.elim | skip
  obtain ⟨a, vs, rfl, h1, h2⟩ := rep_lst' r
  obtain ⟨ns, rfl, p1, p2⟩ := hq
  refine ⟨a, ns, rfl, SqL.of ?_, p1, fun m hm hy => f.here g0 (p2 m hm hy) rep_int⟩
  rw [g0.sub _ _ h1, rep_ints h2]
theorem d_minL (hc : X.calm = true) : CallR X (.builtin "min") (rC C w (g1 gMinL)) := call1 (cr_min hc) fun F H d v P Q g0 r hq f => by
  cases d <;> first | exact hq.elim | skip
  obtain ⟨a, vs, rfl, h1, h2⟩ := rep_lst' r
  obtain ⟨ns, rfl, p1, p2⟩ := hq
  refine ⟨a, ns, rfl, SqL.of ?_, p1, fun m hm hy => f.here g0 (p2 m hm hy) rep_int⟩
  rw [g0.sub _ _ h1, rep_ints h2]
end
end DJ

set_option Elab.async false
set_option linter.all false
set_option maxRecDepth 100000
set_option maxHeartbeats 1000000
/-! isinstance, math over data -/
namespace DJ
open PySem PySem.Spec PyProof.Rows L2 GxR
def D.typ : D → String
  | .non => "NoneType" | .bl _ => "bool" | .int _ => "int" | .str _ => "str" | .tup _ => "tuple" | .lst _ => "list" | .scr _ => "list" | .dic _ _ => "dict" | _ => ""
def isSub (t n : String) : Bool := t == n || (t == "bool" && n == "int")
abbrev theTys : List String := ["NoneType", "bool", "int", "str", "tuple", "list", "dict"]
abbrev askTys : List String := ["int", "bool", "tuple", "list", "str", "dict"]
theorem kitB_all : ∀ t ∈ theTys, ∀ n ∈ askTys, kitB t n = some (isSub t n) := by decide +kernel
def gIsi : D → D → (D → Cr) → Cr
  | x, .ty n, P => fun c => (n ∈ askTys ∧ x.typ ∈ theTys) ∧ P (.bl (isSub x.typ n)) c
  | _, _, _ => fun _ => False
section
variable {C : Ct} {w : Option Addr} {X : Cx} {F F' : Fz} {H H' : Hp}
theorem tyx_of (hK : C.K = X.K) (g0 : Gd C w F H) {d : D} {v : V} (h : d.typ ∈ theTys) (r : Rep C w F d v) : TyX X.K H v (.type d.typ) := by
  cases d
  · rw [rep_non' r]; exact .base .non
  · rw [rep_bl' r]; exact .base (.bl _)
  · rw [rep_int' r]; exact .base (.int _)
  · rw [rep_str' r]; exact .base (.str _)
  · obtain ⟨a, vs, rfl, h1, h2⟩ := rep_tup' r
    rw [hK] at h1
    rcases h1 with (h1 | ⟨o, h1⟩) | ⟨o, its, n, h1, h3, _⟩
    · exact .base (.tup (g0.sub _ _ h1))
    · exact .fTuple (g0.sub _ _ h1)
    · exact .kTuple h1 h3
  · obtain ⟨a, vs, rfl, h1, h2⟩ := rep_lst' r
    exact .base (.lst (g0.sub _ _ h1))
  · unfold Rep at r
    obtain ⟨a, kvs, vs, rfl, h1, _⟩ := r
    exact .base (.dK (g0.sub _ _ h1))
  · obtain ⟨a, vs, rfl, h1, h2⟩ := rep_scr' r
    rw [hK] at h1
    rcases h1 with (h1 | ⟨o, h1⟩) | ⟨o, its, n, h1, h3, _⟩
    · exact .base (.lst (g0.sub _ _ h1))
    · exact .base (.frz (g0.sub _ _ h1))
    · exact .kList h1 h3
  all_goals (exact absurd h (show ¬ ("" ∈ theTys) by decide))
theorem d_isi (hK : C.K = X.K) : CallR X (.builtin "isinstance") (rC C w (g2 gIsi)) := call2 call_isi fun F H d e v u P Q g0 r r2 hq f => by
  cases e <;> first | exact hq.elim | skip
  rename_i n
  obtain ⟨⟨h1, h2⟩, p⟩ := hq
  refine ⟨v, u, _, .type n, isSub d.typ n, rfl, ?_, tyx_of hK g0 h2 r, kit_ty (kitB_all _ h2 _ h1), f.here g0 p rep_bl⟩
  unfold Rep at r2
  rw [r2]
  exact .ty n
/-! ### math -/
def gGcd2 : D → D → (D → Cr) → Cr
  | .int i, .int j, P => P (.int ((Nat.gcd i.natAbs j.natAbs : Nat) : Int))
  | _, _, _ => fun _ => False
theorem d_gcd2 : CallR X (.builtin "math.gcd") (rC C w (g2 gGcd2)) := call2 cr_gcd fun F H d e v u P Q g0 r r2 hq f => by
  cases d <;> cases e <;> first | exact hq.elim | skip
  exact ⟨_, _, by rw [rep_int' r, rep_int' r2], f.here g0 hq rep_int⟩
open PySem.W PySem.Calls in
theorem run_gcd3 (a : Int) (t : Tok) (b : Int) (u : Tok) (c : Int) (z : Tok) :
    Gives (Builtin.«math.gcd» ⟨[.int a t, .int b u, .int c z], []⟩) (.int ((((Nat.gcd 0 a.natAbs).gcd b.natAbs).gcd c.natAbs : Nat) : Int)) :=
  .of_wp fun M A E s Q h => by obtain ⟨hp, g, d, tk, os⟩ := s; wp_walk; exact ⟨_, rfl, h⟩
theorem args_gcd3 (a b c : Value) : argsOk "math.gcd" ⟨[a, b, c], []⟩ := by unfold argsOk; kernel_rfl
def gGcd3 : D → D → D → (D → Cr) → Cr
  | .int i, .int j, .int k, P => P (.int ((Nat.gcd (Nat.gcd i.natAbs j.natAbs) k.natAbs : Nat) : Int))
  | _, _, _, _ => fun _ => False
def rGcd3 : List V → Hp → VK → Prop := fun vs H Q => ∃ a b c : Int, vs = [.int a, .int b, .int c] ∧ Q (.int ((Nat.gcd (Nat.gcd a.natAbs b.natAbs) c.natAbs : Nat) : Int)) H
theorem vals3 {x y z : V} {us : List Value} (r : Vals [x, y, z] us) : ∃ a b c, us = [a, b, c] ∧ RelV x a ∧ RelV y b ∧ RelV z c := by
  cases r with
  | cons r1 r => cases r with
    | cons r2 r => cases r with
      | cons r3 r => cases r; exact ⟨_, _, _, rfl, r1, r2, r3⟩
theorem cr_gcd3 : CallR X (.builtin "math.gcd") rGcd3 := by
  intro pins s σ H vs us Q I r h
  obtain ⟨a, b, c, rfl, q⟩ := h
  obtain ⟨x, y, z, rfl, ⟨t1, rfl⟩, ⟨t2, rfl⟩, ⟨t3, rfl⟩⟩ := vals3 r
  have g := run_gcd3 a t1 b t2 c t3
  rw [Nat.gcd_zero_left] at g
  exact call_function_meets PySem.W.MGF.kind_gcd PySem.W.MGF.plain_gcd PySem.W.MGF.entry_gcd (args_gcd3 _ _ _) g.meets ⟨.int _, H, I.tok _, ⟨_, rfl⟩, q⟩
theorem d_gcd3 : CallR X (.builtin "math.gcd") (rC C w (g3 gGcd3)) := call3 cr_gcd3 fun F H d e g v u z P Q g0 r r2 r3 hq f => by
  cases d <;> cases e <;> cases g <;> first | exact hq.elim | skip
  exact ⟨_, _, _, by rw [rep_int' r, rep_int' r2, rep_int' r3], f.here g0 hq rep_int⟩
def gLcm : D → D → (D → Cr) → Cr
  | .int i, .int j, P => fun c => (Bt 6000 i ∧ Bt 6000 j) ∧ P (.int ((Nat.lcm i.natAbs j.natAbs : Nat) : Int)) c
  | _, _, _ => fun _ => False
def rLcm : List V → Hp → VK → Prop := fun vs H Q => ∃ a b : Int, vs = [.int a, .int b] ∧ (Bt 6000 a ∧ Bt 6000 b) ∧ Q (.int ((Nat.lcm a.natAbs b.natAbs : Nat) : Int)) H
theorem cr_lcm : CallR X (.builtin "math.lcm") rLcm := by
  intro pins s σ H vs us Q I r h
  obtain ⟨a, b, rfl, ⟨h1, h2⟩, q⟩ := h
  obtain ⟨x, y, rfl, ⟨t1, rfl⟩, ⟨t2, rfl⟩⟩ := vals2 r
  have l1 : (max 1 a.natAbs).log2 < 6001 := PySem.Flt.log2_lt_of (by decide) (by
    have : (1 : Nat) < 2 ^ 6001 := Nat.one_lt_two_pow (by decide)
    have h3 : a.natAbs < 2 ^ 6001 := Nat.lt_of_lt_of_le h1 (Nat.pow_le_pow_right (by decide) (by decide))
    exact Nat.max_lt.mpr ⟨this, h3⟩)
  have l2 : (max a.natAbs b.natAbs).log2 < 6000 := PySem.Flt.log2_lt_of (by decide) (Nat.max_lt.mpr ⟨h1, h2⟩)
  have e1 : (Nat.lcm 1 a.natAbs).lcm b.natAbs = Nat.lcm a.natAbs b.natAbs := by rw [Nat.lcm_one_left]
  have hsz : ((((Nat.lcm 1 a.natAbs).lcm b.natAbs : Nat) : Int)).natAbs.log2 < bitsLine := by
    rw [e1, Int.natAbs_natCast]
    have h3 : Nat.lcm a.natAbs b.natAbs ≤ a.natAbs * b.natAbs := by
      rw [Nat.lcm]; exact Nat.div_le_self _ _
    have h4 : a.natAbs * b.natAbs < 2 ^ 12000 := by
      have := Nat.mul_lt_mul'' h1 h2
      rwa [← Nat.pow_add] at this
    have h5 := PySem.Flt.log2_lt_of (k := 12000) (by decide) (Nat.lt_of_le_of_lt h3 h4)
    exact Nat.lt_trans h5 (by decide)
  have g := PySem.W.mg_run_lcm a t1 b t2 (by omega) (by omega) hsz
  rw [e1] at g
  exact call_function_meets PySem.W.MGF.kind_lcm PySem.W.MGF.plain_lcm PySem.W.MGF.entry_lcm (PySem.W.MGF.args_lcm _ _) g.meets ⟨.int _, H, I.tok _, ⟨_, rfl⟩, q⟩
theorem d_lcm : CallR X (.builtin "math.lcm") (rC C w (g2 gLcm)) := call2 cr_lcm fun F H d e v u P Q g0 r r2 hq f => by
  cases d <;> cases e <;> first | exact hq.elim | skip
  exact ⟨_, _, by rw [rep_int' r, rep_int' r2], hq.1, f.here g0 hq.2 rep_int⟩
def gIsqrt : D → (D → Cr) → Cr
  | .int i, P => fun c => (0 ≤ i ∧ Bt 12000 i) ∧ P (.int ((Float64.isqrt i.toNat : Nat) : Int)) c
  | _, _ => fun _ => False
def rIsqrt : List V → Hp → VK → Prop := fun vs H Q => ∃ a : Int, vs = [.int a] ∧ (0 ≤ a ∧ Bt 12000 a) ∧ Q (.int ((Float64.isqrt a.toNat : Nat) : Int)) H
theorem cr_isqrt : CallR X (.builtin "math.isqrt") rIsqrt := by
  intro pins s σ H vs us Q I r h
  obtain ⟨a, rfl, ⟨h1, h2⟩, q⟩ := h
  obtain ⟨x, rfl, ⟨t1, rfl⟩⟩ := vals1 r
  have l1 : a.toNat.log2 < 12000 := PySem.Flt.log2_lt_of (by decide) (by unfold Bt at h2; omega)
  have g := PySem.W.mg_run_isqrt a t1 (by omega) (by omega) (by omega)
  exact call_function_meets PySem.W.MGF.kind_isqrt PySem.W.MGF.plain_isqrt PySem.W.MGF.entry_isqrt (PySem.W.MGF.args_isqrt _) g.meets ⟨.int _, H, I.tok _, ⟨_, rfl⟩, q⟩
theorem d_isqrt : CallR X (.builtin "math.isqrt") (rC C w (g1 gIsqrt)) := call1 cr_isqrt fun F H d v P Q g0 r hq f => by
  cases d <;> first | exact hq.elim | skip
  exact ⟨_, by rw [rep_int' r], hq.1, f.here g0 hq.2 rep_int⟩
end
end DJ

set_option Elab.async false
set_option linter.all false
set_option maxRecDepth 100000
set_option maxHeartbeats 1000000
/-! calls of own defs, targets, what is walked -/
namespace DJ
open PySem PySem.Spec PyProof.Rows L2 GxR

/-- a def's promise over data -/
abbrev Spec := List D → (D → Cr) → Cr
def spD (C : Ct) (S : Spec) : Sp := fun vs H Q _ => ∃ w F ds P, Gd C w F H ∧ RepL C w F ds vs ∧ S ds P F.n ∧ Fin C w F H P Q
section
variable {C : Ct} {w : Option Addr} {X : Cx} {F F' : Fz} {H H' : Hp}
theorem je_call {x : Str} {p pos : Pos} {e : Expr} {es : List Expr} {t : MA} {k : Nat} {f : Addr} {fd : FuncData} {ps : List Str} {S : Spec} (G : FnOk X.prog X.w X.K X.mg X.base CX0 k f fd ps (spD C S)) (hr : Room k X.A) (hg : Gl X x) (hm : X.mg x = some (.ref f)) (hk : PySem.W.keepIn X.K (.ref f) = true)
    (hb : Binds X.K fd ps []) (ha : JA C w X (e :: es) t) (hdb : (x == ("__debug__" : Str)) = false := by decide) (he : starEach (e :: es) X.env = (false, eval e X.env) :: starEach es X.env := by rfl) (hpl : (backTo pos (starEach es X.env)).any (·.1) = false := by rfl) :
    JE C w X (.Call (.Name x p) (e :: es) [] pos) (mCall S t) := PE.imp (pe_call G hr hg hm hk hb .nil pass0 ha hdb he hpl) fun σ H Q ⟨F, l, P, g0, r, h, f⟩ => by
  refine ⟨F, l, _, g0, r, h, fun xs vs F1 H1 h1 s1 r1 => ?_⟩
  show spD C S (vs ++ []) H1 Q E0
  rw [List.append_nil]
  exact ⟨w, F1, xs, P, s1.gd, r1, h1, f.go g0 s1⟩
theorem je_call0 {x : Str} {p pos : Pos} {k : Nat} {f : Addr} {fd : FuncData} {ps : List Str} {S : Spec} (G : FnOk X.prog X.w X.K X.mg X.base CX0 k f fd ps (spD C S)) (hr : Room k X.A) (hg : Gl X x) (hm : X.mg x = some (.ref f)) (hk : PySem.W.keepIn X.K (.ref f) = true)
    (hb : Binds X.K fd ps []) (hdb : (x == ("__debug__" : Str)) = false := by decide) : JE C w X (.Call (.Name x p) [] [] pos) (mCall S mNil) := PE.imp (pe_call0 G hr hg hm hk hb .nil pass0 hdb) fun σ H Q ⟨F, l, P, g0, r, h, f⟩ => by
  exact ⟨w, F, [], P, g0, RepL.nil, h, f⟩

/-! ### targets -/
abbrev MG := D → Sl → (Sl → Cr) → Cr
abbrev MGs := List D → Sl → (Sl → Cr) → Cr
/-- σ' is σ but for the slots gs -/
def Off (gs : List Nat) (σ σ' : L2.St) : Prop := σ'.length = σ.length ∧ ∀ i : Nat, i ∉ gs → σ'[i]? = σ[i]?
theorem Off.refl (gs : List Nat) (σ : L2.St) : Off gs σ σ := ⟨rfl, fun _ _ => rfl⟩
theorem Off.trans {gs hs : List Nat} {σ σ' σ'' : L2.St} (a : Off gs σ σ') (b : Off hs σ' σ'') : Off (gs ++ hs) σ σ'' := ⟨b.1.trans a.1, fun i h => by
  rw [b.2 i fun z => h (List.mem_append_right _ z), a.2 i fun z => h (List.mem_append_left _ z)]⟩
theorem Off.set (σ : L2.St) (i : Nat) (v : Option V) : Off [i] σ (σ.set i v) := ⟨List.length_set .., fun j h => List.getElem?_set_ne fun e => h (by rw [e]; exact List.mem_singleton.mpr rfl)⟩
theorem wipe_at : ∀ {vs : List Nat} {σ : L2.St} {i : Nat}, i ∈ vs → i < σ.length → (L2.wipe σ vs)[i]? = some none
  | v :: vs, σ, i, h, hl => by
    unfold L2.wipe
    by_cases e : v = i
    · subst e; exact List.getElem?_set_self (by rw [L2.wipe_length]; exact hl)
    · rw [List.getElem?_set_ne e]
      rcases List.mem_cons.mp h with z | z
      · exact absurd z.symm e
      · exact wipe_at z hl
theorem wipe_off : ∀ {vs : List Nat} {σ : L2.St} {i : Nat}, i ∉ vs → (L2.wipe σ vs)[i]? = σ[i]?
  | [], _, _, _ => rfl
  | v :: vs, σ, i, h => by
    unfold L2.wipe
    rw [List.getElem?_set_ne fun e => h (by rw [e]; exact List.mem_cons_self)]
    exact wipe_off fun z => h (List.mem_cons_of_mem _ z)
theorem Off.wipe {gs vs : List Nat} {σ σ' : L2.St} (o : Off gs σ σ') (h : ∀ i ∈ gs, i ∈ vs) : L2.wipe σ' vs = L2.wipe σ vs := by
  refine List.ext_getElem? fun i => ?_
  by_cases hi : i ∈ vs
  · by_cases hl : i < σ.length
    · rw [wipe_at hi hl, wipe_at hi (by rw [o.1]; exact hl)]
    · rw [List.getElem?_eq_none (by rw [L2.wipe_length, o.1]; omega), List.getElem?_eq_none (by rw [L2.wipe_length]; omega)]
  · rw [wipe_off hi, wipe_off hi]
    exact o.2 i fun z => hi (h i z)
theorem wipe_wipe (σ : L2.St) (vs : List Nat) : L2.wipe (L2.wipe σ vs) vs = L2.wipe σ vs := by
  refine List.ext_getElem? fun i => ?_
  by_cases hi : i ∈ vs
  · by_cases hl : i < σ.length
    · rw [wipe_at hi hl, wipe_at hi (by rw [L2.wipe_length]; exact hl)]
    · rw [List.getElem?_eq_none (by rw [L2.wipe_length, L2.wipe_length]; omega), List.getElem?_eq_none (by rw [L2.wipe_length]; omega)]
  · rw [wipe_off hi]
/-- one's own lists in l' are those of l -/
def OffO (l : Sl) (σ : L2.St) (l' : Sl) (σ' : L2.St) : Prop := ∀ (i : Nat) (xs : List D) (a : Addr), l'[i]? = some (some (SV.own xs)) → σ'[i]? = some (some (.ref a)) → ∃ ys, l[i]? = some (some (SV.own ys)) ∧ σ[i]? = some (some (.ref a))
theorem OffO.refl (l : Sl) (σ : L2.St) : OffO l σ l σ := fun _ xs _ h1 h2 => ⟨xs, h1, h2⟩
theorem OffO.trans {l l' l'' : Sl} {σ σ' σ'' : L2.St} (a : OffO l σ l' σ') (b : OffO l' σ' l'' σ'') : OffO l σ l'' σ'' := fun i xs ad h1 h2 => by
  obtain ⟨ys, h3, h4⟩ := b i xs ad h1 h2
  exact a i ys ad h3 h4
theorem OffO.set (l : Sl) (σ : L2.St) (i : Nat) (d : D) (v : V) : OffO l σ (l.set i (some (SV.val d))) (σ.set i (some v)) := fun j xs a h1 h2 => by
  rcases getElem?_set' h1 with ⟨_, z⟩ | ⟨ne, z⟩
  · cases z
  · rw [List.getElem?_set_ne (Ne.symm ne)] at h2
    exact ⟨xs, z, h2⟩
def FinG (C : Ct) (w : Option Addr) (F : Fz) (H : Hp) (gs : List Nat) (l : Sl) (σ : L2.St) (P : Sl → Cr) (Q : L2.St → Hp → Prop) : Prop := ∀ l' σ' F' H', P l' F'.n → Step C w F H F' H' → RepS C w F' H' l' σ' → Off gs σ σ' → OffO l σ l' σ' → Q σ' H'
def tMG (C : Ct) (w : Option Addr) (gs : List Nat) (m : MG) : TG := fun v σ H Q => ∃ F l d P, Gd C w F H ∧ RepS C w F H l σ ∧ Rep C w F d v ∧ m d l P F.n ∧ FinG C w F H gs l σ P Q
def tMGs (C : Ct) (w : Option Addr) (gs : List Nat) (m : MGs) : TGs := fun vs σ H Q => ∃ F l ds P, Gd C w F H ∧ RepS C w F H l σ ∧ RepL C w F ds vs ∧ m ds l P F.n ∧ FinG C w F H gs l σ P Q
abbrev JG (C : Ct) (w : Option Addr) (X : Cx) (tg : Expr) (gs : List Nat) (m : MG) : Prop := PG X tg (tMG C w gs m)
abbrev JGs (C : Ct) (w : Option Addr) (X : Cx) (tg : List Expr) (gs : List Nat) (m : MGs) : Prop := PGs X tg (tMGs C w gs m)
theorem PG.imp {e : Expr} {t t' : TG} (h : PG X e t) (hi : ∀ v σ H Q, t' v σ H Q → t v σ H Q) : PG X e t' := ⟨fun pins s σ H v u Q I r hw => h.run pins s σ H v u Q I r (hi v σ H Q hw)⟩
theorem PGs.imp {e : List Expr} {t t' : TGs} (h : PGs X e t) (hi : ∀ v σ H Q, t' v σ H Q → t v σ H Q) : PGs X e t' := ⟨fun pins s σ H v u Q I r hw => h.run pins s σ H v u Q I r (hi v σ H Q hw)⟩
def gSet (i : Nat) : MG := fun d l P => P (l.set i (some (SV.val d)))
theorem jg_of {e : Expr} {i : Nat} (h : PG X e (gName i)) : JG C w X e [i] (gSet i) := PG.imp h fun v σ H Q ⟨F, l, d, P, g0, r, rd, h, f⟩ => f _ _ F H h (Step.refl g0) (r.set i rd) (Off.set σ i _) (OffO.set l σ i d v)
def gNilD : MGs := fun ds l P n => ds = [] ∧ P l n
def gConsD (m : MG) (t : MGs) : MGs := fun ds l P n => ∃ d r, ds = d :: r ∧ m d l (fun l' => t r l' P) n
theorem jgs_nil : JGs C w X [] [] gNilD := PGs.imp pgs_nil fun v σ H Q ⟨F, l, d, P, g0, r, rd, h, f⟩ => by
  obtain ⟨rfl, h⟩ := h
  exact ⟨rd.inv0, f _ _ F H h (Step.refl g0) r (Off.refl _ σ) (OffO.refl l σ)⟩
theorem jgs_cons {e : Expr} {es : List Expr} {gs hs' : List Nat} {m : MG} {t : MGs} (h1 : JG C w X e gs m) (h2 : JGs C w X es hs' t) (hs : (assignEach (e :: es) X.env).map (·.2) = assign e X.env :: (assignEach es X.env).map (·.2) := by rfl) : JGs C w X (e :: es) (gs ++ hs') (gConsD m t) := PGs.imp (pgs_cons h1 h2 hs) fun v σ H Q ⟨F, l, ds, P, g0, r, rd, h, f⟩ => by
  obtain ⟨d, rs, rfl, h⟩ := h
  obtain ⟨v, vs, rfl, r1, r2⟩ := rd.inv
  refine ⟨v, vs, rfl, F, l, d, _, g0, r, r1, h, fun l' σ' F' H' p s1 q o1 o1' => ?_⟩
  exact ⟨F', l', rs, P, s1.gd, q, r2.ex s1.ex, p, fun l2 σ2 F2 H2 p2 s2 r2 o2 o2' => f l2 σ2 F2 H2 p2 (s1.trans g0 s2) r2 (o1.trans o2) (o1'.trans o2')⟩
def gTupD (n : Nat) (t : MGs) : MG := fun d l P c => ∃ ds, d = .tup ds ∧ ds.length = n ∧ t ds l P c
theorem jg_tup {es : List Expr} {k : Nat} {pos : Pos} {gs : List Nat} {t : MGs} {n : Nat} (hK : C.K = X.K) (hc : X.calm = true) (h : JGs C w X es gs t) (hn : (assignEach es X.env).length = n := by rfl) (hst : (assignEach es X.env).findIdx? (·.1) = none := by rfl) : JG C w X (.Tuple es k pos) gs (gTupD n t) := PG.imp (pg_tup (n := n) hc h hn hst) fun v σ H Q ⟨F, l, d, P, g0, r, rd, h, f⟩ => by
  obtain ⟨ds, rfl, e, h⟩ := h
  obtain ⟨a, vs, rfl, h1, h2⟩ := rep_tup' rd
  rw [hK] at h1
  exact ⟨a, vs, rfl, Ex.t g0.sub h1, by rw [← h2.length]; exact e, F, l, ds, P, g0, r, h2, h, f⟩
end
end DJ

set_option Elab.async false
set_option linter.all false
set_option maxRecDepth 100000
set_option maxHeartbeats 1000000
/-! what is walked; comprehensions, generator expressions over data -/
namespace DJ
open PySem PySem.Spec PyProof.Rows L2 GxR GX

abbrev MI := Sl → (List D → Cr) → Cr
/-- J walks things that stand for ds -/
def WalkD (C : Ct) (w : Option Addr) (J : It) (F : Fz) (ds : List D) : Prop := ∀ (i : Nat) (F' : Fz) H', Gd C w F' H' → Ex F F' →
  (∀ d, ds[i]? = some d → J.go i H' ∧ ∀ x H'', J.yld i H' x H'' → ∃ F'' : Fz, F''.n = F'.n ∧ Step C w F' H' F'' H'' ∧ Rep C w F'' d x) ∧ (ds.length ≤ i → J.stop i H')
def FinI (C : Ct) (w : Option Addr) (F : Fz) (H : Hp) (P : List D → Cr) (R : It → Hp → Prop) : Prop := ∀ ds J F' H', P ds F'.n → Step C w F H F' H' → WalkD C w J F' ds → R J H'
def tMI (C : Ct) (w : Option Addr) (m : MI) : TI := fun σ H R => ∃ F l P, Gd C w F H ∧ RepS C w F H l σ ∧ m l P F.n ∧ FinI C w F H P R
abbrev JI (C : Ct) (w : Option Addr) (X : Cx) (tg e : Expr) (m : MI) : Prop := PI X tg e (tMI C w m)
theorem PI.imp {X : Cx} {tg e : Expr} {t t' : TI} (h : PI X tg e t) (hi : ∀ σ H Q, t' σ H Q → t σ H Q) : PI X tg e t' := ⟨fun pins s σ H Q I hw => h.run pins s σ H Q I (hi σ H Q hw)⟩
section
variable {C : Ct} {w : Option Addr} {X : Cx} {F F' : Fz} {H H' : Hp}
theorem FinI.at {P : List D → Cr} {R : It → Hp → Prop} {ds : List D} {J : It} (f : FinI C w F H P R) (s : Step C w F H F' H') (p : P ds F'.n) (k : WalkD C w J F' ds) : R J H' := f ds J F' H' p s k
theorem WalkD.ex {J : It} {ds : List D} (h : WalkD C w J F ds) (s : Ex F F') : WalkD C w J F' ds := fun i F2 H2 g t => h i F2 H2 g (s.trans t)
theorem walk_tup {a : Addr} {ds : List D} {vs : List V} (h : SqT C.K F a vs) (r : RepL C w F ds vs) : WalkD C w (Itt C.K a) F ds := fun i F' H' g s => by
  have h2 : SqT C.K H' a vs := Ex.t g.sub (Ex.t s h)
  refine ⟨fun d e => ?_, fun hl => ⟨vs, h2, by rw [← r.length]; exact hl⟩⟩
  obtain ⟨v, e1, r1⟩ := r.get e
  refine ⟨⟨vs, v, h2, e1⟩, fun x H'' y => ?_⟩
  obtain ⟨rfl, y⟩ := y
  have := y vs h2
  rw [e1] at this; cases this
  exact ⟨F', rfl, Step.refl g, r1.ex s⟩
theorem walk_lst {a : Addr} {ds : List D} {vs : List V} (h : SqL C.K F a vs) (r : RepL C w F ds vs) : WalkD C w (Itl C.K a) F ds := fun i F' H' g s => by
  have h2 : SqL C.K H' a vs := Ex.l g.sub (Ex.l s h)
  refine ⟨fun d e => ?_, fun hl => ⟨vs, h2, by rw [← r.length]; exact hl⟩⟩
  obtain ⟨v, e1, r1⟩ := r.get e
  refine ⟨⟨vs, v, h2, e1⟩, fun x H'' y => ?_⟩
  obtain ⟨rfl, y⟩ := y
  have := y vs h2
  rw [e1] at this; cases this
  exact ⟨F', rfl, Step.refl g, r1.ex s⟩
/-- a list or a tuple -/
def iSeq (K : PySem.W.Frag) (tl : TE) : TI := fun σ H R => tl σ H fun x H1 => ∃ a, x = .ref a ∧ (((∃ xs, SqL K H1 a xs) ∧ R (Itl K a) H1) ∨ ((∃ xs, SqT K H1 a xs) ∧ R (Itt K a) H1))
theorem pi_seq {tg l : Expr} {tl : TE} (hl : PE X l tl) : PI X tg l (iSeq X.K tl) := by
  refine ⟨fun pins s σ H R I h => ?_⟩
  refine thn (hl.run pins s σ H _ I h) fun v s1 ⟨x, H1, I1, r1, q1⟩ => ?_
  obtain ⟨a, e, q1⟩ := q1
  subst e
  cases r1
  rcases q1 with ⟨⟨xs, hq⟩, q⟩ | ⟨⟨xs, hq⟩, q⟩
  · obtain ⟨its, rv, p, hz⟩ := I1.list hq
    refine wpAny_pyIter_list p.isList ?_
    refine ⟨s1.heap.objs.size, [s1.heap.objs.size], _, _, H1, rfl, I1.kept (t' := s1.toks) fun b o e => Heap.get?_push_of_some _ e, turn_list a _, ⟨_, Heap.get?_push_size _ rfl, rfl, rfl⟩, fun b hb => ?_, q⟩
    have e : b = s1.heap.objs.size := by simpa using hb
    subst e
    exact I1.fpOk (Nat.le_refl _) (I1.hok.fresh (Nat.le_refl _))
  · obtain ⟨its, rv, p, hz⟩ := I1.tuple hq
    refine wpAny_pyIter_tuple (show s1.heap.IsTuple a its.toArray from p) ?_
    refine ⟨s1.heap.objs.size, [s1.heap.objs.size], _, _, H1, rfl, I1.kept (t' := s1.toks) fun b o e => Heap.get?_push_of_some _ e, turn_tuple a _, ⟨_, Heap.get?_push_size _ rfl, rfl, rfl⟩, fun b hb => ?_, q⟩
    have e : b = s1.heap.objs.size := by simpa using hb
    subst e
    exact I1.fpOk (Nat.le_refl _) (I1.hok.fresh (Nat.le_refl _))
def gSeq : D → (List D → Cr) → Cr
  | .tup xs, P => P xs
  | .lst xs, P => P xs
  | .scr xs, P => P xs
  | _, _ => fun _ => False
def mSeqI (m : ME) : MI := fun l P => m l fun d => gSeq d P
theorem ji_seq {tg e : Expr} {m : ME} (hK : C.K = X.K) (h : JE C w X e m) : JI C w X tg e (mSeqI m) := PI.imp (pi_seq h) fun σ H R ⟨F, l, P, g0, r, h, f⟩ => by
  refine ⟨F, l, _, g0, r, h, fun d v F1 H1 h1 s1 r1 => ?_⟩
  cases d <;> first | exact h1.elim | skip
  · obtain ⟨a, vs, rfl, q1, q2⟩ := rep_tup' r1
    refine ⟨a, rfl, .inr ⟨⟨vs, ?_⟩, ?_⟩⟩
    · rw [← hK]; exact Ex.t s1.gd.sub q1
    · rw [← hK]; exact f.at s1 h1 (walk_tup q1 q2)
  · obtain ⟨a, vs, rfl, q1, q2⟩ := rep_lst' r1
    refine ⟨a, rfl, .inl ⟨⟨vs, SqL.of (s1.gd.sub _ _ q1)⟩, ?_⟩⟩
    rw [← hK]; exact f.at s1 h1 (walk_lst (SqL.of q1) q2)
  · obtain ⟨a, vs, rfl, q1, q2⟩ := rep_scr' r1
    refine ⟨a, rfl, .inl ⟨⟨vs, ?_⟩, ?_⟩⟩
    · rw [← hK]; exact Ex.l s1.gd.sub q1
    · rw [← hK]; exact f.at s1 h1 (walk_lst q1 q2)
/-! ### ranges -/
def rangeD (lo : Int) (n : Nat) : List D := (List.range n).map fun i => D.int (lo + (i : Nat))
theorem walk_rng (lo : Int) (n : Nat) : WalkD C w (Itr lo n) F (rangeD lo n) := fun i F' H' g s => by
  refine ⟨fun d e => ?_, fun hl => by unfold rangeD at hl; rw [List.length_map, List.length_range] at hl; exact hl⟩
  unfold rangeD at e
  rw [List.getElem?_map] at e
  by_cases hi : i < n
  · rw [List.getElem?_range hi] at e
    cases e
    refine ⟨hi, fun x H'' y => ?_⟩
    obtain ⟨rfl, rfl⟩ := y
    exact ⟨F', rfl, Step.refl g, rep_int⟩
  · rw [List.getElem?_eq_none (by simpa using hi)] at e
    cases e
def gRng1 : D → (List D → Cr) → Cr
  | .int j, P => fun n => (-(2 ^ 62) ≤ j ∧ j < 2 ^ 62) ∧ P (rangeD 0 j.toNat) n
  | _, _ => fun _ => False
def gRng2 : D → D → (List D → Cr) → Cr
  | .int i, .int j, P => fun n => (-(2 ^ 62) ≤ i ∧ i < 2 ^ 62 ∧ -(2 ^ 62) ≤ j ∧ j < 2 ^ 62) ∧ P (rangeD i (j - i).toNat) n
  | _, _, _ => fun _ => False
def mRng1 (m : ME) : MI := fun l P => m l fun d => gRng1 d P
def mRng2 (m n : ME) : MI := fun l P => m l fun d => n l fun e => gRng2 d e P
theorem ji_range1 {tg a : Expr} {p pos : Pos} {m : ME} (hg : Gl X "range") (hm : X.mg "range" = none) (h : JE C w X a m) (hs : starEach [a] X.env = [(false, eval a X.env)] := by rfl) : JI C w X tg (.Call (.Name "range" p) [a] [] pos) (mRng1 m) := PI.imp (pi_range1 hg hm (pa_cons h pa_nil hs) hs) fun σ H R ⟨F, l, P, g0, r, h, f⟩ => by
  show tM C w m σ H fun x H1 => _
  refine ⟨F, l, _, g0, r, h, fun d v F1 H1 h1 s1 r1 => ?_⟩
  cases d <;> first | exact h1.elim | skip
  obtain ⟨⟨b1, b2⟩, h1⟩ := h1
  exact ⟨_, by rw [rep_int' r1], b1, b2, f.at s1 h1 (walk_rng 0 _)⟩
theorem ji_range2 {tg a b : Expr} {p pos : Pos} {m n : ME} (hg : Gl X "range") (hm : X.mg "range" = none) (h : JE C w X a m) (h' : JE C w X b n) (hs : starEach [a, b] X.env = [(false, eval a X.env), (false, eval b X.env)] := by rfl) (hs2 : starEach [b] X.env = [(false, eval b X.env)] := by rfl) : JI C w X tg (.Call (.Name "range" p) [a, b] [] pos) (mRng2 m n) := PI.imp (pi_range2 hg hm (pa_cons h (pa_cons h' pa_nil hs2) (by rw [hs, hs2])) hs hs2) fun σ H R ⟨F, l, P, g0, r, h, f⟩ => by
  show tM C w m σ H fun x H1 => tM C w n σ H1 fun y H2 => _
  refine ⟨F, l, _, g0, r, h, fun d v F1 H1 h1 s1 r1 => ⟨F1, l, _, s1.gd, r.step s1, h1, fun e u F2 H2 h2 s2 r2 => ?_⟩⟩
  cases d <;> cases e <;> first | exact h2.elim | skip
  obtain ⟨b, h2⟩ := h2
  exact ⟨_, _, by rw [rep_int' r1, rep_int' r2], b, f.at (s1.trans g0 s2) h2 (walk_rng _ _)⟩

/-! ### comprehensions -/
def wipeS (l : Sl) : List Nat → Sl
  | [] => l
  | v :: vs => (wipeS l vs).set v none
theorem RepS.wipe (r : RepS C w F H l σ) : ∀ vs : List Nat, RepS C w F H (wipeS l vs) (L2.wipe σ vs)
  | [] => r
  | v :: vs => by
    have ih := RepS.wipe r vs
    unfold wipeS L2.wipe
    refine ⟨by rw [List.length_set, List.length_set]; exact ih.len, fun i d h => ?_, fun i xs h => ?_, fun i j xs ys a h1 h2 h3 h4 => ?_⟩
    · rcases getElem?_set' h with ⟨_, z⟩ | ⟨ne, z⟩
      · cases z
      · obtain ⟨u, e1, e2⟩ := ih.val i d z
        exact ⟨u, by rw [List.getElem?_set_ne (Ne.symm ne)]; exact e1, e2⟩
    · rcases getElem?_set' h with ⟨_, z⟩ | ⟨ne, z⟩
      · cases z
      · obtain ⟨a, us, e1, e2⟩ := ih.own i xs z
        exact ⟨a, us, by rw [List.getElem?_set_ne (Ne.symm ne)]; exact e1, e2⟩
    · rcases getElem?_set' h1 with ⟨_, z⟩ | ⟨n1, z1⟩
      · cases z
      · rcases getElem?_set' h2 with ⟨_, z⟩ | ⟨n2, z2⟩
        · cases z
        · rw [List.getElem?_set_ne (Ne.symm n1)] at h3
          rw [List.getElem?_set_ne (Ne.symm n2)] at h4
          exact ih.one i j xs ys a z1 z2 h3 h4
end
end DJ

set_option Elab.async false
set_option linter.all false
set_option maxRecDepth 100000
set_option maxHeartbeats 1000000
/-! comprehensions, generator expressions over data -/
namespace DJ
open PySem PySem.Spec PyProof.Rows L2 GxR GX

/-- one turn of a comprehension, then the rest -/
def turnD (l0 : Sl) (mg : MG) (mt : MT) (me : ME) (d : D) (yes : D → Cr) (no : Cr) : Cr := mg d l0 fun l2 => mt l2 fun b => if b = true then me l2 yes else no
def mColl (l0 : Sl) (mg : MG) (mt : MT) (me : ME) : List D → (List D → Cr) → Cr
  | [], P => P []
  | d :: ds, P => turnD l0 mg mt me d (fun y => mColl l0 mg mt me ds fun ys => P (y :: ys)) (mColl l0 mg mt me ds P)
def mAllL (l0 : Sl) (mg : MG) (mt : MT) (me : ME) : List D → (D → Cr) → Cr
  | [], P => P (.bl true)
  | d :: ds, P => turnD l0 mg mt me d (fun y => gB y fun k => if k = true then mAllL l0 mg mt me ds P else P (.bl false)) (mAllL l0 mg mt me ds P)
def mAnyL (l0 : Sl) (mg : MG) (mt : MT) (me : ME) : List D → (D → Cr) → Cr
  | [], P => P (.bl false)
  | d :: ds, P => turnD l0 mg mt me d (fun y => gB y fun k => if k = true then P (.bl true) else mAnyL l0 mg mt me ds P) (mAnyL l0 mg mt me ds P)
def mLc (mi : MI) (mg : MG) (mt : MT) (me : ME) (vs : List Nat) : ME := fun l P => mi l fun ds n => ds.length ≤ 50000 ∧ mColl (wipeS l vs) mg mt me ds (fun ys => P (.lst ys)) n
def mTupG (mi : MI) (mg : MG) (mt : MT) (me : ME) (vs : List Nat) : ME := fun l P => mi l fun ds n => ds.length ≤ 50000 ∧ mColl (wipeS l vs) mg mt me ds (fun ys => P (.tup ys)) n
def mAllG (mi : MI) (mg : MG) (mt : MT) (me : ME) (vs : List Nat) : ME := fun l P => mi l fun ds => mAllL (wipeS l vs) mg mt me ds P
def mAnyG (mi : MI) (mg : MG) (mt : MT) (me : ME) (vs : List Nat) : ME := fun l P => mi l fun ds => mAnyL (wipeS l vs) mg mt me ds P
def mYes : MT := fun _ P => P true
section
variable {C : Ct} {w : Option Addr} {X : Cx} {F F' : Fz} {H H' : Hp} {l0 : Sl} {σ0 : L2.St} {mg : MG} {mt : MT} {me : ME} {vs : List Nat}
/-- a turn in the heap: the slots that the target stores are the wiped ones -/
theorem turn_ok {gs : List Nat} (g0 : Gd C w F H) (r0 : RepS C w F H l0 (L2.wipe σ0 vs)) (hgs : ∀ i ∈ gs, i ∈ vs) {d : D} {x : V} (rx : Rep C w F d x) {yes : D → Cr} {no : Cr} (h : turnD l0 mg mt me d yes no F.n)
    {Qy : V → Hp → Prop} {Qn : Hp → Prop} (hy : ∀ y v (F' : Fz) H', yes y F'.n → Step C w F H F' H' → Rep C w F' y v → Qy v H') (hn : ∀ (F' : Fz) H', no F'.n → Step C w F H F' H' → Qn H') :
    tMG C w gs mg x (L2.wipe σ0 vs) H fun σ2 H2 => L2.wipe σ2 vs = L2.wipe σ0 vs ∧ tMT C w mt σ2 H2 fun b H3 => if b = true then tM C w me σ2 H3 Qy else Qn H3 := by
  refine ⟨F, l0, d, _, g0, r0, rx, h, fun l2 σ2 F2 H2 h2 s2 r2 o2 _ => ⟨by rw [o2.wipe hgs, wipe_wipe], F2, l2, _, s2.gd, r2, h2, fun b F3 H3 h3 s3 => ?_⟩⟩
  cases b with
  | true =>
    rw [if_pos rfl] at h3 ⊢
    refine ⟨F3, l2, _, s3.gd, r2.step s3, h3, fun y v F4 H4 h4 s4 r4 => hy y v F4 H4 h4 ((s2.trans g0 s3).trans g0 s4) r4⟩
  | false =>
    rw [if_neg Bool.false_ne_true] at h3 ⊢
    exact hn F3 H3 h3 (s2.trans g0 s3)


theorem tm_lc {vs : List Nat} {gs : List Nat} {mi : MI} {σ : L2.St} {Q : VK} (hgs : ∀ i ∈ gs, i ∈ vs) (hw : tM C w (mLc mi mg mt me vs) σ H Q) : tLc (tMI C w mi) (tMG C w gs mg) (tMT C w mt) (tM C w me) vs σ H Q := by
  obtain ⟨F, l, P, g0, r, h, f⟩ := hw
  refine ⟨F, l, _, g0, r, h, fun ds J F1 H1 ⟨hlen, h1⟩ s1 wk D hD => ?_⟩
  obtain ⟨fD, wD, tD⟩ := s1.gd.fresh hD
  refine ⟨fun i m H' => m = ds.length - i ∧ i ≤ ds.length ∧ ∃ (F' : Fz) (acc : List DJ.D) (us : List V), Step C w F1 H1 F' H' ∧ F' D = none ∧ H' D = some (.lst us) ∧ RepL C w F' acc us ∧ acc.length ≤ i ∧ mColl (wipeS l vs) mg mt me (ds.drop i) (fun ys => P (.lst (acc ++ ys))) F'.n,
    ⟨_, rfl, Nat.zero_le _, F1, [], [], (Step.refl s1.gd).own hD wD tD fD, fD, upd_same, RepL.nil, Nat.le_refl _, h1⟩, ?_⟩
  rintro i m H2 ⟨rfl, hi2, F2, acc, us, t12, fD2, hD2, ra, hal, hm⟩
  by_cases hlt : i < ds.length
  · obtain ⟨d, e⟩ : ∃ d, ds[i]? = some d := ⟨ds[i], by simp [hlt]⟩
    obtain ⟨go, yl⟩ := (wk i F2 H2 t12.gd t12.ex).1 d e
    refine .inr ⟨go, fun H' => ∃ (F' : Fz) (acc : List DJ.D) (us : List V), Step C w F1 H1 F' H' ∧ F' D = none ∧ H' D = some (.lst us) ∧ RepL C w F' acc us ∧ acc.length ≤ i + 1 ∧ mColl (wipeS l vs) mg mt me (ds.drop (i + 1)) (fun ys => P (.lst (acc ++ ys))) F'.n,
      fun H' q => ⟨ds.length - (i + 1), by omega, rfl, hlt, q⟩, fun x H3 y => ?_⟩
    obtain ⟨F3, en, t3, rx⟩ := yl x H3 y
    have t13 := t12.trans s1.gd t3
    have dr : ds.drop i = d :: ds.drop (i + 1) := by
      rw [List.drop_eq_getElem_cons hlt]
      have : ds[i] = d := by simpa [hlt] using e
      rw [this]
    rw [dr, ← en] at hm
    have hD3 : H3 D = some (.lst us) := t3.kp D _ hD2 wD tD
    have fD3 : F3 D = none := t3.nf D (by rw [hD2]; simp) fD2
    refine turn_ok t3.gd ((r.step (s1.trans g0 t13)).wipe _) hgs rx hm (fun y v F4 H4 h4 t4 r4 => ?_) (fun F4 H4 h4 t4 => ?_)
    · have hD4 : H4 D = some (.lst us) := t4.kp D _ hD3 wD tD
      have fD4 : F4 D = none := t4.nf D (by rw [hD3]; simp) fD3
      refine ⟨us, hD4, ?_, F4, acc ++ [y], us ++ [v], (t13.trans s1.gd t4).own hD wD tD fD4, fD4, upd_same, RepL.append ((ra.ex t3.ex).ex t4.ex) (RepL.cons r4 RepL.nil), by rw [List.length_append]; simp; omega, ?_⟩
      · rw [← ra.length]; exact sz_lt (by omega)
      · have e6 : (fun ys => P (.lst (acc ++ (y :: ys)))) = fun ys => P (.lst ((acc ++ [y]) ++ ys)) := funext fun ys => by rw [List.append_assoc]; rfl
        rw [← e6]
        exact h4
    · exact ⟨F4, acc, us, t13.trans s1.gd t4, t4.nf D (by rw [hD3]; simp) fD3, t4.kp D _ hD3 wD tD, (ra.ex t3.ex).ex t4.ex, by omega, h4⟩
  · refine .inl ⟨(wk i F2 H2 t12.gd t12.ex).2 (by omega), ?_⟩
    rw [List.drop_eq_nil_of_le (by omega)] at hm
    have hm : P (.lst (acc ++ [])) F2.n := hm
    rw [List.append_nil] at hm
    have t5 := t12.freeze hD wD tD fD2 hD2
    exact f.at (s1.trans g0 t5) hm (rep_lst upd_same (ra.ex (Ex.new fD2)))
/-- [e for t in i if c] -/
theorem je_lc {elt tg iter : Expr} {ifs : List Expr} {scope : Scope} {own : List (Str × Nat)} {pos : Pos} {gs : List Nat} {mi : MI} (hc : X.calm = true) (hN : X.N.Nodup) (hi : JI C w X tg iter mi) (ok : BlkOk X.N X.env.scope scope own)
    (hgs : ∀ i ∈ gs, i ∈ own.map (·.2))
    (hg : ∀ (s : Shared) (H : Hp) (Cc : Addr) (cl : List (Str × Addr)) (fp : List Addr), JG C w (X.blk s H scope (compEnvC scope cl Cc X.env) fp) tg gs mg) (ht : ∀ (s : Shared) (H : Hp) (Cc : Addr) (cl : List (Str × Addr)) (fp : List Addr), PTs (X.blk s H scope (compEnvC scope cl Cc X.env) fp) ifs (tMT C w mt))
    (he : ∀ (s : Shared) (H : Hp) (Cc : Addr) (cl : List (Str × Addr)) (fp : List Addr), JE C w (X.blk s H scope (compEnvC scope cl Cc X.env) fp) elt me) (hs : ∀ x, foldedSetIterable iter X.env x = pure x := by intro _; rfl) :
    JE C w X (.ListComp elt [⟨tg, iter, ifs, 0⟩] scope pos) (mLc mi mg mt me (own.map (·.2))) := PE.imp (pe_lc hc hN hi ok hg ht he hs) fun σ H Q h => tm_lc hgs h
/-! ### generator expressions -/
structure JParts (C : Ct) (w : Option Addr) (X : Cx) (k : Nat) (scope : Scope) (tg elt : Expr) (ifs : List Expr) (gs : List Nat) (mg : MG) (mt : MT) (me : ME) : Prop where
  ps : GParts X k scope tg elt ifs (tMG C w gs mg) (tMT C w mt) (tM C w me)
theorem all_turns {J : It} {ds : List D} {P : D → Cr} {Q : VK} {gs : List Nat} {F1 : Fz} {H1 : Hp} {l : Sl} {σ : L2.St} (g1 : Gd C w F1 H1) (r1 : RepS C w F1 H1 l σ) (hgs : ∀ i ∈ gs, i ∈ vs) (wk : WalkD C w J F1 ds) (h : mAllL (wipeS l vs) mg mt me ds P F1.n) (f : Fin C w F1 H1 P Q) :
    ∃ W : Nat → Nat → Hp → Prop, (∃ m, W 0 m H1) ∧ Turns J (tMG C w gs mg) (tMT C w mt) (tM C w me) (L2.wipe σ vs) vs (fun H => Q (.bl true) H) (fun y H N => ∃ k, y = .bl k ∧ if k = true then N H else Q (.bl false) H) W := by
  refine ⟨fun i m H' => m = ds.length - i ∧ i ≤ ds.length ∧ ∃ F' : Fz, Step C w F1 H1 F' H' ∧ mAllL (wipeS l vs) mg mt me (ds.drop i) P F'.n, ⟨_, rfl, Nat.zero_le _, F1, Step.refl g1, h⟩, ?_⟩
  rintro i m H2 ⟨rfl, hi2, F2, t12, hm⟩
  by_cases hlt : i < ds.length
  · obtain ⟨d, e⟩ : ∃ d, ds[i]? = some d := ⟨ds[i], by simp [hlt]⟩
    obtain ⟨go, yl⟩ := (wk i F2 H2 t12.gd t12.ex).1 d e
    refine .inr ⟨go, fun H' => ∃ F' : Fz, Step C w F1 H1 F' H' ∧ mAllL (wipeS l vs) mg mt me (ds.drop (i + 1)) P F'.n, fun H' q => ⟨ds.length - (i + 1), by omega, rfl, hlt, q⟩, fun x H3 y => ?_⟩
    obtain ⟨F3, en, t3, rx⟩ := yl x H3 y
    have t13 := t12.trans g1 t3
    have dr : ds.drop i = d :: ds.drop (i + 1) := by
      rw [List.drop_eq_getElem_cons hlt]
      have : ds[i] = d := by simpa [hlt] using e
      rw [this]
    rw [dr, ← en] at hm
    refine turn_ok t3.gd ((r1.step t13).wipe _) hgs rx hm (fun y v F4 H4 h4 t4 r4 => ?_) (fun F4 H4 h4 t4 => ⟨F4, t13.trans g1 t4, h4⟩)
    obtain ⟨k, rfl, q⟩ := gB_inv h4
    refine ⟨k, rep_bl' r4, ?_⟩
    cases k with
    | true => exact ⟨F4, t13.trans g1 t4, by simpa using q⟩
    | false => exact f _ _ F4 H4 (by simpa using q) (t13.trans g1 t4) rep_bl
  · refine .inl ⟨(wk i F2 H2 t12.gd t12.ex).2 (by omega), ?_⟩
    rw [List.drop_eq_nil_of_le (by omega)] at hm
    exact f _ _ F2 H2 hm t12 rep_bl
theorem any_turns {J : It} {ds : List D} {P : D → Cr} {Q : VK} {gs : List Nat} {F1 : Fz} {H1 : Hp} {l : Sl} {σ : L2.St} (g1 : Gd C w F1 H1) (r1 : RepS C w F1 H1 l σ) (hgs : ∀ i ∈ gs, i ∈ vs) (wk : WalkD C w J F1 ds) (h : mAnyL (wipeS l vs) mg mt me ds P F1.n) (f : Fin C w F1 H1 P Q) :
    ∃ W : Nat → Nat → Hp → Prop, (∃ m, W 0 m H1) ∧ Turns J (tMG C w gs mg) (tMT C w mt) (tM C w me) (L2.wipe σ vs) vs (fun H => Q (.bl false) H) (fun y H N => ∃ k, y = .bl k ∧ if k = true then Q (.bl true) H else N H) W := by
  refine ⟨fun i m H' => m = ds.length - i ∧ i ≤ ds.length ∧ ∃ F' : Fz, Step C w F1 H1 F' H' ∧ mAnyL (wipeS l vs) mg mt me (ds.drop i) P F'.n, ⟨_, rfl, Nat.zero_le _, F1, Step.refl g1, h⟩, ?_⟩
  rintro i m H2 ⟨rfl, hi2, F2, t12, hm⟩
  by_cases hlt : i < ds.length
  · obtain ⟨d, e⟩ : ∃ d, ds[i]? = some d := ⟨ds[i], by simp [hlt]⟩
    obtain ⟨go, yl⟩ := (wk i F2 H2 t12.gd t12.ex).1 d e
    refine .inr ⟨go, fun H' => ∃ F' : Fz, Step C w F1 H1 F' H' ∧ mAnyL (wipeS l vs) mg mt me (ds.drop (i + 1)) P F'.n, fun H' q => ⟨ds.length - (i + 1), by omega, rfl, hlt, q⟩, fun x H3 y => ?_⟩
    obtain ⟨F3, en, t3, rx⟩ := yl x H3 y
    have t13 := t12.trans g1 t3
    have dr : ds.drop i = d :: ds.drop (i + 1) := by
      rw [List.drop_eq_getElem_cons hlt]
      have : ds[i] = d := by simpa [hlt] using e
      rw [this]
    rw [dr, ← en] at hm
    refine turn_ok t3.gd ((r1.step t13).wipe _) hgs rx hm (fun y v F4 H4 h4 t4 r4 => ?_) (fun F4 H4 h4 t4 => ⟨F4, t13.trans g1 t4, h4⟩)
    obtain ⟨k, rfl, q⟩ := gB_inv h4
    refine ⟨k, rep_bl' r4, ?_⟩
    cases k with
    | true => exact f _ _ F4 H4 (by simpa using q) (t13.trans g1 t4) rep_bl
    | false => exact ⟨F4, t13.trans g1 t4, by simpa using q⟩
  · refine .inl ⟨(wk i F2 H2 t12.gd t12.ex).2 (by omega), ?_⟩
    rw [List.drop_eq_nil_of_le (by omega)] at hm
    exact f _ _ F2 H2 hm t12 rep_bl
theorem tup_turns {J : It} {ds : List D} {P : D → Cr} {Q : VK} {gs : List Nat} {F1 : Fz} {H1 : Hp} {l : Sl} {σ : L2.St} {S : Addr} (g1 : Gd C w F1 H1) (r1 : RepS C w F1 H1 l σ) (hgs : ∀ i ∈ gs, i ∈ vs) (wk : WalkD C w J F1 ds) (hlen : ds.length ≤ 50000) (h : mColl (wipeS l vs) mg mt me ds (fun ys => P (.tup ys)) F1.n) (f : Fin C w F1 H1 P Q) (hD : H1 S = none) :
    ∃ W : Nat → Nat → Hp → Prop, (∃ m, W 0 m (upd H1 S (.lst []))) ∧ Turns J (tMG C w gs mg) (tMT C w mt) (tM C w me) (L2.wipe σ vs) vs (stopL S fun acc H => ∀ p, H p = none → Q (.ref p) (upd H p (.tup acc))) (yesL S) W := by
  obtain ⟨fD, wD, tD⟩ := g1.fresh hD
  refine ⟨fun i m H' => m = ds.length - i ∧ i ≤ ds.length ∧ ∃ (F' : Fz) (acc : List DJ.D) (us : List V), Step C w F1 H1 F' H' ∧ F' S = none ∧ H' S = some (.lst us) ∧ RepL C w F' acc us ∧ acc.length ≤ i ∧ mColl (wipeS l vs) mg mt me (ds.drop i) (fun ys => P (.tup (acc ++ ys))) F'.n,
    ⟨_, rfl, Nat.zero_le _, F1, [], [], (Step.refl g1).own hD wD tD fD, fD, upd_same, RepL.nil, Nat.le_refl _, h⟩, ?_⟩
  rintro i m H2 ⟨rfl, hi2, F2, acc, us, t12, fD2, hD2, ra, hal, hm⟩
  by_cases hlt : i < ds.length
  · obtain ⟨d, e⟩ : ∃ d, ds[i]? = some d := ⟨ds[i], by simp [hlt]⟩
    obtain ⟨go, yl⟩ := (wk i F2 H2 t12.gd t12.ex).1 d e
    refine .inr ⟨go, fun H' => ∃ (F' : Fz) (acc : List DJ.D) (us : List V), Step C w F1 H1 F' H' ∧ F' S = none ∧ H' S = some (.lst us) ∧ RepL C w F' acc us ∧ acc.length ≤ i + 1 ∧ mColl (wipeS l vs) mg mt me (ds.drop (i + 1)) (fun ys => P (.tup (acc ++ ys))) F'.n,
      fun H' q => ⟨ds.length - (i + 1), by omega, rfl, hlt, q⟩, fun x H3 y => ?_⟩
    obtain ⟨F3, en, t3, rx⟩ := yl x H3 y
    have t13 := t12.trans g1 t3
    have dr : ds.drop i = d :: ds.drop (i + 1) := by
      rw [List.drop_eq_getElem_cons hlt]
      have : ds[i] = d := by simpa [hlt] using e
      rw [this]
    rw [dr, ← en] at hm
    have hD3 : H3 S = some (.lst us) := t3.kp S _ hD2 wD tD
    have fD3 : F3 S = none := t3.nf S (by rw [hD2]; simp) fD2
    refine turn_ok t3.gd ((r1.step t13).wipe _) hgs rx hm (fun y v F4 H4 h4 t4 r4 => ?_) (fun F4 H4 h4 t4 => ?_)
    · have hD4 : H4 S = some (.lst us) := t4.kp S _ hD3 wD tD
      have fD4 : F4 S = none := t4.nf S (by rw [hD3]; simp) fD3
      refine ⟨us, hD4, ?_, F4, acc ++ [y], us ++ [v], (t13.trans g1 t4).own hD wD tD fD4, fD4, upd_same, RepL.append ((ra.ex t3.ex).ex t4.ex) (RepL.cons r4 RepL.nil), by rw [List.length_append]; simp; omega, ?_⟩
      · rw [← ra.length]; exact sz_lt (by omega)
      · have e6 : (fun ys => P (.tup (acc ++ (y :: ys)))) = fun ys => P (.tup ((acc ++ [y]) ++ ys)) := funext fun ys => by rw [List.append_assoc]; rfl
        rw [← e6]
        exact h4
    · exact ⟨F4, acc, us, t13.trans g1 t4, t4.nf S (by rw [hD3]; simp) fD3, t4.kp S _ hD3 wD tD, (ra.ex t3.ex).ex t4.ex, by omega, h4⟩
  · refine .inl ⟨(wk i F2 H2 t12.gd t12.ex).2 (by omega), us, hD2, fun p hp => ?_⟩
    rw [List.drop_eq_nil_of_le (by omega)] at hm
    have hm : P (.tup (acc ++ [])) F2.n := hm
    rw [List.append_nil] at hm
    have t5 := Step.new (o := .tup us) t12.gd hp
    exact f.at (t12.trans g1 t5) hm (rep_tup (SqT.of upd_same) (ra.ex t5.ex))
section
variable {c P : Addr} {elt tg iter : Expr} {ifs : List Expr} {scope : Scope} {own : List (Str × Nat)} {p pos gpos : Pos} {mi : MI} {k : Nat} {gs : List Nat}
theorem je_allG (hr : Room (k + 1) X.A) (hg : Gl X "all") (hm : X.mg "all" = none) (hc : X.calm = true) (hN : X.N.Nodup) (hP : P ∈ C.Tb) (TB : TabB X.base X.mg c P) (hcode : X.env.code = .ref c) (hi : JI C w X tg iter mi) (ok : GBlk X.N X.env.scope scope own) (hgs : ∀ i ∈ gs, i ∈ own.map (·.2)) (G : GParts X k scope tg elt ifs (tMG C w gs mg) (tMT C w mt) (tM C w me))
    (hb : bootBuiltins "all" = some (.builtin "all") := by decide +kernel) (hs : ∀ v, genFold iter X.env v = pure v := by intro _; rfl)
    (he : starEach [.GeneratorExp elt [⟨tg, iter, ifs, 0⟩] scope gpos] X.env = (false, eval (.GeneratorExp elt [⟨tg, iter, ifs, 0⟩] scope gpos) X.env) :: starEach [] X.env := by rfl) :
    JE C w X (.Call (.Name "all" p) [.GeneratorExp elt [⟨tg, iter, ifs, 0⟩] scope gpos] [] pos) (mAllG mi mg mt me (own.map (·.2))) := PE.imp (pe_allG hr hg hm hc hN TB hcode hi ok G hb hs he) fun σ H Q ⟨F, l, Pd, g0, r, h, f⟩ => by
  refine ⟨F, l, _, g0, r, h, fun ds J F1 H1 h1 s1 wk => ⟨(s1.gd.tabs P hP).2, fun H2 tb => ?_⟩⟩
  have s2 := Step.tab s1.gd hP tb
  exact all_turns s2.gd ((r.step s1).step s2) hgs (wk.ex s2.ex) h1 (f.go g0 (s1.trans g0 s2))
theorem je_anyG (hr : Room (k + 1) X.A) (hg : Gl X "any") (hm : X.mg "any" = none) (hc : X.calm = true) (hN : X.N.Nodup) (hP : P ∈ C.Tb) (TB : TabB X.base X.mg c P) (hcode : X.env.code = .ref c) (hi : JI C w X tg iter mi) (ok : GBlk X.N X.env.scope scope own) (hgs : ∀ i ∈ gs, i ∈ own.map (·.2)) (G : GParts X k scope tg elt ifs (tMG C w gs mg) (tMT C w mt) (tM C w me))
    (hs : ∀ v, genFold iter X.env v = pure v := by intro _; rfl)
    (he : starEach [.GeneratorExp elt [⟨tg, iter, ifs, 0⟩] scope gpos] X.env = (false, eval (.GeneratorExp elt [⟨tg, iter, ifs, 0⟩] scope gpos) X.env) :: starEach [] X.env := by rfl) :
    JE C w X (.Call (.Name "any" p) [.GeneratorExp elt [⟨tg, iter, ifs, 0⟩] scope gpos] [] pos) (mAnyG mi mg mt me (own.map (·.2))) := PE.imp (pe_anyG hr hg hm hc hN TB hcode hi ok G hs he) fun σ H Q ⟨F, l, Pd, g0, r, h, f⟩ => by
  refine ⟨F, l, _, g0, r, h, fun ds J F1 H1 h1 s1 wk => ⟨(s1.gd.tabs P hP).2, fun H2 tb => ?_⟩⟩
  have s2 := Step.tab s1.gd hP tb
  exact any_turns s2.gd ((r.step s1).step s2) hgs (wk.ex s2.ex) h1 (f.go g0 (s1.trans g0 s2))
theorem je_tupG (hr : Room (k + 1) X.A) (hg : Gl X "tuple") (hm : X.mg "tuple" = none) (hc : X.calm = true) (hN : X.N.Nodup) (hP : P ∈ C.Tb) (TB : TabB X.base X.mg c P) (hcode : X.env.code = .ref c) (hi : JI C w X tg iter mi) (ok : GBlk X.N X.env.scope scope own) (hgs : ∀ i ∈ gs, i ∈ own.map (·.2)) (G : GParts X k scope tg elt ifs (tMG C w gs mg) (tMT C w mt) (tM C w me))
    (hb : bootBuiltins "tuple" = some (.type "tuple") := by decide +kernel) (hs : ∀ v, genFold iter X.env v = pure v := by intro _; rfl)
    (he : starEach [.GeneratorExp elt [⟨tg, iter, ifs, 0⟩] scope gpos] X.env = (false, eval (.GeneratorExp elt [⟨tg, iter, ifs, 0⟩] scope gpos) X.env) :: starEach [] X.env := by rfl) :
    JE C w X (.Call (.Name "tuple" p) [.GeneratorExp elt [⟨tg, iter, ifs, 0⟩] scope gpos] [] pos) (mTupG mi mg mt me (own.map (·.2))) := PE.imp (pe_tupG hr hg hm hc hN TB hcode hi ok G hb hs he) fun σ H Q ⟨F, l, Pd, g0, r, h, f⟩ => by
  refine ⟨F, l, _, g0, r, h, fun ds J F1 H1 ⟨hlen, h1⟩ s1 wk => ⟨(s1.gd.tabs P hP).2, fun H2 tb S hS => ?_⟩⟩
  have s2 := Step.tab s1.gd hP tb
  exact tup_turns s2.gd ((r.step s1).step s2) hgs (wk.ex s2.ex) hlen h1 (f.go g0 (s1.trans g0 s2)) hS
end
end
end DJ

set_option Elab.async false
set_option linter.all false
set_option maxRecDepth 100000
set_option maxHeartbeats 1000000
/-! statements over data; a def by its body -/
namespace DJ
open PySem PySem.Spec PyProof.Rows L2 GxR GX

/-- what is wanted behind a statement -/
structure DE where
  nx : Sl → Cr
  rt : D → Cr
  bk : Sl → Cr := fun _ _ => False
  ct : Sl → Cr := fun _ _ => False
  /-- a new list is handed back that nobody else knows -/
  rl : List D → Cr := fun _ _ => False
abbrev MS := DE → Sl → Cr
/-- one's own lists are younger than the call -/
def Own (H0 : Hp) (l : Sl) (σ : L2.St) : Prop := ∀ (i : Nat) (xs : List D) (a : Addr), l[i]? = some (some (SV.own xs)) → σ[i]? = some (some (.ref a)) → H0 a = none
/-- a state amid a call that began at F0, H0 -/
structure At (C : Ct) (w : Option Addr) (F0 : Fz) (H0 Fb : Hp) (F : Fz) (H : Hp) (l : Sl) (σ : L2.St) : Prop where
  s : Step C w F0 H0 F H
  e : Ex Fb F
  r : RepS C w F H l σ
  o : Own H0 l σ
structure FinS (C : Ct) (w : Option Addr) (F0 : Fz) (H0 Fb : Hp) (P : DE) (Q : Ends) : Prop where
  nx : ∀ l' σ' (F' : Fz) H', P.nx l' F'.n → At C w F0 H0 Fb F' H' l' σ' → Q.nx σ' H'
  rt : Fin C w F0 H0 P.rt Q.rt
  bk : ∀ l' σ' (F' : Fz) H', P.bk l' F'.n → At C w F0 H0 Fb F' H' l' σ' → Q.bk σ' H'
  ct : ∀ l' σ' (F' : Fz) H', P.ct l' F'.n → At C w F0 H0 Fb F' H' l' σ' → Q.ct σ' H'
  rl : ∀ ds vs p (F' : Fz) H', P.rl ds F'.n → Step C w F0 H0 F' H' → H0 p = none → F' p = none → w ≠ some p → p ∉ C.Tb → H' p = some (.lst vs) → RepL C w F' ds vs → Q.rt (.ref p) H'
def tMS (C : Ct) (w : Option Addr) (F0 : Fz) (H0 Fb : Hp) (m : MS) : TS := fun D σ H => ∃ F l P, Gd C w F0 H0 ∧ At C w F0 H0 Fb F H l σ ∧ m P l F.n ∧ FinS C w F0 H0 Fb P D
abbrev JS (C : Ct) (w : Option Addr) (X : Cx) (st : Stmt) (m : MS) : Prop := ∀ F0 H0 Fb, PS X st (tMS C w F0 H0 Fb m)
abbrev JSs (C : Ct) (w : Option Addr) (X : Cx) (st : List Stmt) (m : MS) : Prop := ∀ F0 H0 Fb, PSs X st (tMS C w F0 H0 Fb m)
theorem PS.imp {X : Cx} {e : Stmt} {t t' : TS} (h : PS X e t) (hi : ∀ D σ H, t' D σ H → t D σ H) : PS X e t' := ⟨fun pins s σ H D I hw => h.run pins s σ H D I (hi D σ H hw)⟩
theorem PSs.imp {X : Cx} {e : List Stmt} {t t' : TS} (h : PSs X e t) (hi : ∀ D σ H, t' D σ H → t D σ H) : PSs X e t' := ⟨fun pins s σ H D I hw => h.run pins s σ H D I (hi D σ H hw)⟩
section
variable {C : Ct} {w : Option Addr} {X : Cx} {F0 F F' : Fz} {H0 Fb H H' : Hp} {st : Stmt} {rest : List Stmt} {l : Sl} {σ : L2.St}
theorem At.step (a : At C w F0 H0 Fb F H l σ) (g : Gd C w F0 H0) (s : Step C w F H F' H') : At C w F0 H0 Fb F' H' l σ := ⟨a.s.trans g s, a.e.trans s.ex, a.r.step s, a.o⟩
theorem At.set (a : At C w F0 H0 Fb F H l σ) (i : Nat) {d : D} {v : V} (h : Rep C w F d v) : At C w F0 H0 Fb F H (l.set i (some (SV.val d))) (σ.set i (some v)) := ⟨a.s, a.e, a.r.set i h, fun j xs b h1 h2 => by
  rcases getElem?_set' h1 with ⟨_, z⟩ | ⟨ne, z⟩
  · cases z
  · rw [List.getElem?_set_ne (Ne.symm ne)] at h2
    exact a.o j xs b z h2⟩
theorem fin_of {P : D → Cr} {Q : VK} (a : At C w F0 H0 Fb F H l σ) (g : Gd C w F0 H0) (f : Fin C w F0 H0 P Q) : Fin C w F H P Q := f.go g a.s
def mNx : MS := fun D l => D.nx l
/-- a statement, then the rest: Mid between them (chosen by who shows it; m's own wish is one) -/
def mSeq (m n : MS) : MS := fun D l => m { D with nx := fun l' => n D l' } l
def mCut (m n : MS) : MS := fun D l c => ∃ Mid : Sl → Cr, m { D with nx := Mid } l c ∧ ∀ l' c', Mid l' c' → n D l' c'
theorem jss_nil : JSs C w X [] mNx := fun F0 H0 Fb => PSs.imp pss_nil fun D σ H ⟨F, l, P, g0, r, h, f⟩ => f.nx l σ F H h r
theorem jss_cons {m n : MS} (h1 : JS C w X st m) (h2 : JSs C w X rest n) : JSs C w X (st :: rest) (mSeq m n) := fun F0 H0 Fb => PSs.imp (pss_cons (h1 F0 H0 Fb) (h2 F0 H0 Fb)) fun D σ H ⟨F, l, P, g0, r, h, f⟩ =>
  ⟨F, l, { P with nx := fun l' => n P l' }, g0, r, h, fun l' σ' F' H' p r1 => ⟨F', l', P, g0, r1, p, f⟩, f.rt, f.bk, f.ct, f.rl⟩
theorem jss_cut {m n : MS} (h1 : JS C w X st m) (h2 : JSs C w X rest n) : JSs C w X (st :: rest) (mCut m n) := fun F0 H0 Fb => PSs.imp (pss_cons (h1 F0 H0 Fb) (h2 F0 H0 Fb)) fun D σ H ⟨F, l, P, g0, r, ⟨Mid, h, k⟩, f⟩ =>
  ⟨F, l, { P with nx := Mid }, g0, r, h, fun l' σ' F' H' p r1 => ⟨F', l', P, g0, r1, k l' _ p, f⟩, f.rt, f.bk, f.ct, f.rl⟩
theorem jss_one {m : MS} (h1 : JS C w X st m) : JSs C w X [st] m := fun F0 H0 Fb => pss_one (h1 F0 H0 Fb)
def mPass : MS := fun D l => D.nx l
theorem js_pass {pos : Pos} : JS C w X (.Pass pos) mPass := fun F0 H0 Fb => PS.imp ps_pass fun D σ H ⟨F, l, P, g0, r, h, f⟩ => f.nx l σ F H h r
def mBrk : MS := fun D l => D.bk l
def mCnt : MS := fun D l => D.ct l
theorem js_brk {pos : Pos} : JS C w X (.Break pos) mBrk := fun F0 H0 Fb => PS.imp ps_break fun D σ H ⟨F, l, P, g0, r, h, f⟩ => f.bk l σ F H h r
theorem js_cnt {pos : Pos} : JS C w X (.Continue pos) mCnt := fun F0 H0 Fb => PS.imp ps_continue fun D σ H ⟨F, l, P, g0, r, h, f⟩ => f.ct l σ F H h r
def mNever : MS := fun _ _ _ => False
theorem js_never : JS C w X st mNever := fun F0 H0 Fb => PS.imp ps_never fun D σ H ⟨F, l, P, g0, r, h, f⟩ => h.elim
def mExpr (m : ME) : MS := fun D l => m l fun _ => D.nx l
theorem js_expr {e : Expr} {pos : Pos} {m : ME} (he : JE C w X e m) (hs : swapsWith e none pos.line X.env = pure false := by rfl) : JS C w X (.Expr e pos) (mExpr m) := fun F0 H0 Fb => PS.imp (ps_expr he hs) fun D σ H ⟨F, l, P, g0, r, h, f⟩ =>
  ⟨F, l, _, r.s.gd, r.r, h, fun d v F1 H1 p s1 r1 => f.nx l σ F1 H1 p (r.step g0 s1)⟩
theorem js_doc {x : Str} {j pos pos'} : JS C w X (.Expr (.Constant (.str x) j pos) pos') mPass := fun F0 H0 Fb => PS.imp ps_doc fun D σ H ⟨F, l, P, g0, r, h, f⟩ => f.nx l σ F H h r
def mRet (m : ME) : MS := fun D l => m l D.rt
theorem js_ret {e : Expr} {pos : Pos} {m : ME} (he : JE C w X e m) : JS C w X (.Return (some e) pos) (mRet m) := fun F0 H0 Fb => PS.imp (ps_ret he) fun D σ H ⟨F, l, P, g0, r, h, f⟩ => ⟨F, l, _, r.s.gd, r.r, h, fin_of r g0 f.rt⟩
def mRetL (t : MA) : MS := fun D l => t l fun xs c => xs.length ≤ 50000 ∧ D.rl xs c
theorem js_retL {es : List Expr} {pos lpos : Pos} {t : MA} (he : JA C w X es t) : JS C w X (.Return (some (.List es lpos)) pos) (mRetL t) := fun F0 H0 Fb => PS.imp (ps_ret (pe_lst he)) fun D σ H ⟨F, l, P, g0, r, h, f⟩ => by
  refine ⟨F, l, _, r.s.gd, r.r, h, fun ds vs F1 H1 ⟨hl, p⟩ s1 r1 => ⟨by rw [← r1.length]; exact sz_of (by omega), fun p' hp => ?_⟩⟩
  have a1 := r.step g0 s1
  obtain ⟨q1, q2, q3⟩ := a1.s.gd.fresh hp
  have h0 : H0 p' = none := by
    cases e : H0 p' with
    | none => rfl
    | some o => exact absurd hp (a1.s.there g0 (by rw [e]; simp))
  exact f.rl ds vs p' F1 _ p (a1.s.trans g0 (Step.newO (o := .lst vs) a1.s.gd hp)) h0 q1 q2 q3 upd_same r1
def mRetN : MS := fun D _ => D.rt .non
theorem js_retN {pos : Pos} : JS C w X (.Return none pos) mRetN := fun F0 H0 Fb => PS.imp ps_retN fun D σ H ⟨F, l, P, g0, r, h, f⟩ => f.rt _ _ F H h r.s rep_non
def mIfS (c : MT) (a b : MS) : MS := fun D l => c l fun k => if k = true then a D l else b D l
theorem js_if {c : Expr} {a b : List Stmt} {pos : Pos} {mc : MT} {ma mb : MS} (hc : JT C w X c mc) (ha : JSs C w X a ma) (hb : JSs C w X b mb) : JS C w X (.If c a b pos) (mIfS mc ma mb) := fun F0 H0 Fb => PS.imp (ps_if hc (ha F0 H0 Fb) (hb F0 H0 Fb)) fun D σ H ⟨F, l, P, g0, r, h, f⟩ => by
  refine ⟨F, l, _, r.s.gd, r.r, h, fun k F1 H1 p s1 => ?_⟩
  cases k with
  | true => exact ⟨F1, l, P, g0, r.step g0 s1, by simpa using p, f⟩
  | false => exact ⟨F1, l, P, g0, r.step g0 s1, by simpa using p, f⟩
/-! ### stores -/
def mAsg (m : ME) (g : MG) : MS := fun D l => m l fun d => g d l D.nx
theorem js_set {i : Nat} {x : Str} {e : Expr} {pos pos' : Pos} {m : ME} (hN : X.N.Nodup) (hi : X.N[i]? = some x) (hx : Loc X.env.scope x) (he : JE C w X e m) (hs : swapsWith e (some (.Name x pos')) pos.line X.env = pure false := by rfl) (hf : X.fn x = true ∨ X.env.scope.names.lookup x = some .local := by first | exact .inl rfl | exact .inr rfl | assumption) :
    JS C w X (.Assign [.Name x pos'] e pos) (mAsg m (gSet i)) := fun F0 H0 Fb => PS.imp (ps_set hN hi hx he hs hf) fun D σ H ⟨F, l, P, g0, r, h, f⟩ =>
  ⟨F, l, _, r.s.gd, r.r, h, fun d v F1 H1 p s1 r1 => f.nx _ _ F1 H1 p ((r.step g0 s1).set i r1)⟩
theorem At.off (a : At C w F0 H0 Fb F H l σ) (g : Gd C w F0 H0) (s : Step C w F H F' H') {l' : Sl} {σ' : L2.St} (r : RepS C w F' H' l' σ') (o : OffO l σ l' σ') : At C w F0 H0 Fb F' H' l' σ' := ⟨a.s.trans g s, a.e.trans s.ex, r, fun i xs b h1 h2 => by
  obtain ⟨ys, h3, h4⟩ := o i xs b h1 h2
  exact a.o i ys b h3 h4⟩
theorem js_asg {tg e : Expr} {pos : Pos} {m : ME} {gs : List Nat} {g : MG} (he : JE C w X e m) (hg : JG C w X tg gs g) (hs : swapsWithSole [tg] e pos.line X.env = pure false := by rfl) (hw : swappedStores [tg] e X.env = pure none := by rfl)
    (h1 : (assignEach [tg] X.env).map (·.2) = [assign tg X.env] := by rfl) : JS C w X (.Assign [tg] e pos) (mAsg m g) := fun F0 H0 Fb => PS.imp (ps_asg he hg hs hw h1) fun D σ H ⟨F, l, P, g0, r, h, f⟩ =>
  ⟨F, l, _, r.s.gd, r.r, h, fun d v F1 H1 p s1 r1 => ⟨F1, l, d, P.nx, s1.gd, r.r.step s1, r1, p, fun l' σ' F2 H2 q s2 r2 _ o2 => f.nx l' σ' F2 H2 q ((r.step g0 s1).off g0 s2 r2 o2)⟩⟩
/-- a, b = e, f -/
def mPar (i j : Nat) (a b : ME) : MS := fun D l => a l fun d => b l fun e => D.nx ((l.set i (some (SV.val d))).set j (some (SV.val e)))
theorem js_par {i j : Nat} {x y : Str} {a b : Expr} {px py pt pos : Pos} {kt k2 pt2} {ma mb : ME} (hc : X.calm = true) (hN : X.N.Nodup) (hi : X.N[i]? = some x) (hj : X.N[j]? = some y) (hij : i ≠ j)
    (hx : X.env.scope.names.lookup x = some .local) (hy : X.env.scope.names.lookup y = some .local) (ha : JE C w X a ma) (hb : JE C w X b mb)
    (hw : swappedStores [.Tuple [.Name x px, .Name y py] kt pt] (.Tuple [a, b] k2 pt2) X.env = pure (some [x, y]))
    (hst : starEach [a, b] X.env = (false, eval a X.env) :: starEach [b] X.env := by rfl) (hst2 : starEach [b] X.env = (false, eval b X.env) :: starEach [] X.env := by rfl)
    (hs : swapsWithSole [.Tuple [.Name x px, .Name y py] kt pt] (.Tuple [a, b] k2 pt2) pos.line X.env = pure false := by rfl) :
    JS C w X (.Assign [.Tuple [.Name x px, .Name y py] kt pt] (.Tuple [a, b] k2 pt2) pos) (mPar i j ma mb) := fun F0 H0 Fb => PS.imp (ps_par hc hN hi hj hij hx hy (pa_cons ha (pa_cons hb pa_nil hst2) hst) hw hs) fun D σ H ⟨F, l, P, g0, r, h, f⟩ => by
  refine ⟨F, l, _, r.s.gd, r.r, h, fun d v F1 H1 p s1 r1 => ⟨F1, l, _, s1.gd, r.r.step s1, p, fun e u F2 H2 p2 s2 r2 => ?_⟩⟩
  exact ⟨v, u, rfl, f.nx _ _ F2 H2 p2 ((((r.step g0 s1).step g0 s2).set i (r1.ex s2.ex)).set j r2)⟩
def mPar3 (i j k : Nat) (a b c : ME) : MS := fun D l => a l fun d => b l fun e => c l fun g => D.nx (((l.set i (some (SV.val d))).set j (some (SV.val e))).set k (some (SV.val g)))
theorem js_par3 {i j k : Nat} {x y z : Str} {a b c : Expr} {px py pz pt pos : Pos} {kt k2 pt2} {ma mb mc : ME} (hc : X.calm = true) (hN : X.N.Nodup) (hi : X.N[i]? = some x) (hj : X.N[j]? = some y) (hl : X.N[k]? = some z) (hij : i ≠ j) (hil : i ≠ k) (hjl : j ≠ k)
    (hx : X.env.scope.names.lookup x = some .local) (hy : X.env.scope.names.lookup y = some .local) (hz : X.env.scope.names.lookup z = some .local) (ha : JE C w X a ma) (hb : JE C w X b mb) (hcc : JE C w X c mc)
    (hw : swappedStores [.Tuple [.Name x px, .Name y py, .Name z pz] kt pt] (.Tuple [a, b, c] k2 pt2) X.env = pure (some [x, y, z]))
    (hst : starEach [a, b, c] X.env = (false, eval a X.env) :: starEach [b, c] X.env := by rfl) (hst2 : starEach [b, c] X.env = (false, eval b X.env) :: starEach [c] X.env := by rfl) (hst3 : starEach [c] X.env = (false, eval c X.env) :: starEach [] X.env := by rfl)
    (hs : swapsWithSole [.Tuple [.Name x px, .Name y py, .Name z pz] kt pt] (.Tuple [a, b, c] k2 pt2) pos.line X.env = pure false := by rfl) :
    JS C w X (.Assign [.Tuple [.Name x px, .Name y py, .Name z pz] kt pt] (.Tuple [a, b, c] k2 pt2) pos) (mPar3 i j k ma mb mc) := fun F0 H0 Fb => PS.imp (ps_par3 hc hN hi hj hl hij hil hjl hx hy hz (pa_cons ha (pa_cons hb (pa_cons hcc pa_nil hst3) hst2) hst) hw hs) fun D σ H ⟨F, l, P, g0, r, h, f⟩ => by
  refine ⟨F, l, _, r.s.gd, r.r, h, fun d v F1 H1 p s1 r1 => ⟨F1, l, _, s1.gd, r.r.step s1, p, fun e u F2 H2 p2 s2 r2 => ⟨F2, l, _, s2.gd, (r.r.step s1).step s2, p2, fun g t F3 H3 p3 s3 r3 => ?_⟩⟩⟩
  exact ⟨v, u, t, rfl, f.nx _ _ F3 H3 p3 ((((((r.step g0 s1).step g0 s2).step g0 s3).set i ((r1.ex s2.ex).ex s3.ex)).set j (r2.ex s3.ex)).set k r3)⟩
/-- name = [.. for ..] -/
theorem js_setLc {i : Nat} {y : Str} {py : Pos} {e : Expr} {spos : Pos} {m : ME} (h : PS X (.Assign [.Name y py] e spos) (tAsg (tM C w m) (gName i))) : JS C w X (.Assign [.Name y py] e spos) (mAsg m (gSet i)) :=
  fun F0 H0 Fb => PS.imp h fun D σ H ⟨F, l, P, g0, r, h, f⟩ => ⟨F, l, _, r.s.gd, r.r, h, fun d v F1 H1 p s1 r1 => f.nx _ _ F1 H1 p ((r.step g0 s1).set i r1)⟩
/-- name += e -/
def mAug (i : Nat) (g : Int → Int → Int) (m : ME) : MS := fun D l c => ∃ a, l[i]? = some (some (SV.val (.int a))) ∧ m l (fun d => gInt d fun b => D.nx (l.set i (some (SV.val (.int (g a b)))))) c
theorem js_aug {i : Nat} {x : Str} {e : Expr} {op : Operator} {pos pos' : Pos} {g : Int → Int → Int} {m : ME} (hN : X.N.Nodup) (hi : X.N[i]? = some x) (hx : Loc X.env.scope x) (he : JE C w X e m) (ho : PIp X op (ipI g)) (hf : X.fn x = true ∨ X.env.scope.names.lookup x = some .local := by first | exact .inl rfl | exact .inr rfl | assumption) :
    JS C w X (.AugAssign (.Name x pos') op e pos) (mAug i g m) := fun F0 H0 Fb => PS.imp (ps_aug hN hi hx he ho hf) fun D σ H ⟨F, l, P, g0, r, ⟨a, ha, h⟩, f⟩ => by
  obtain ⟨v, e1, r1⟩ := r.r.val i _ ha
  refine ⟨v, e1, F, l, _, r.s.gd, r.r, h, fun d u F1 H1 p s1 r2 => ?_⟩
  obtain ⟨b, rfl, p⟩ := gInt_inv p
  exact ⟨a, b, rep_int' r1, rep_int' r2, f.nx _ _ F1 H1 p ((r.step g0 s1).set i rep_int)⟩

/-! ### loops -/
def mFor (mi : MI) (g : MG) (mb : MS) : MS := fun D l => mi l fun ds c => ∃ I : Nat → Sl → Cr, I 0 l c ∧ (∀ i d l' c', ds[i]? = some d → I i l' c' → g d l' (fun l2 => mb { nx := I (i + 1), ct := I (i + 1), bk := D.nx, rt := D.rt, rl := D.rl } l2) c') ∧ ∀ l' c', I ds.length l' c' → D.nx l' c'
theorem At.base {Fc : Hp} (a : At C w F0 H0 Fb F H l σ) (e : Ex Fc F) : At C w F0 H0 Fc F H l σ := ⟨a.s, e, a.r, a.o⟩
theorem js_for {tg iter : Expr} {body : List Stmt} {pos : Pos} {gs : List Nat} {mi : MI} {g : MG} {mb : MS} (hp : PassesOwn (model X.prog X.w) X.A X.env X.xe) (hc : X.calm = true) (hi : JI C w X tg iter mi) (hg : JG C w X tg gs g) (hb : JSs C w X body mb) (hs : ∀ x, foldedSetIterable iter X.env x = pure x := by intro _; rfl) :
    JS C w X (.For tg iter body [] pos) (mFor mi g mb) := fun F0 H0 Fb => ⟨fun pins s σ H D Iv hw => by
  obtain ⟨F, l, P, g0, r, h, f⟩ := hw
  -- the walk's own base is not known yet: the body is taken over every base
  have key : ∀ F1, Ex Fb F1 → PSs X body (tMS C w F0 H0 F1 mb) := fun F1 _ => hb F0 H0 F1
  let tb : TS := fun D σ H => ∃ F1, Ex Fb F1 ∧ tMS C w F0 H0 F1 mb D σ H
  have hb' : PSs X body tb := ⟨fun pins s σ H D I hw => by obtain ⟨F1, e1, q⟩ := hw; exact (key F1 e1).run pins s σ H D I q⟩
  refine (ps_for hp hc hi hg hb' hs).run pins s σ H D Iv ?_
  refine ⟨F, l, _, r.s.gd, r.r, h, fun ds J F1 H1 ⟨I, i0, ib, ie⟩ s1 wk => ?_⟩
  have eb : Ex Fb F1 := r.e.trans s1.ex
  refine ⟨fun i m σ' H' => m = ds.length - i ∧ i ≤ ds.length ∧ ∃ (F' : Fz) (l' : Sl), At C w F0 H0 F1 F' H' l' σ' ∧ I i l' F'.n, ⟨_, rfl, Nat.zero_le _, F1, l, (r.step g0 s1).base (Ex.refl F1), i0⟩, ?_⟩
  rintro i m σ2 H2 ⟨rfl, hi2, F2, l2, r2, h2⟩
  by_cases hlt : i < ds.length
  · obtain ⟨d, e⟩ : ∃ d, ds[i]? = some d := ⟨ds[i], by simp [hlt]⟩
    obtain ⟨go, yl⟩ := (wk i F2 H2 r2.s.gd r2.e).1 d e
    refine .inr ⟨go, fun σ' H' => ∃ (F' : Fz) (l' : Sl), At C w F0 H0 F1 F' H' l' σ' ∧ I (i + 1) l' F'.n, fun σ' H' q => ⟨ds.length - (i + 1), by omega, rfl, hlt, q⟩, fun x H3 y => ?_⟩
    obtain ⟨F3, en, t3, rx⟩ := yl x H3 y
    refine ⟨F3, l2, d, _, t3.gd, r2.r.step t3, rx, ib i d l2 _ e (by rw [en]; exact h2), fun l4 σ4 F4 H4 p4 t4 r4 _ o4 => ?_⟩
    exact ⟨F1, eb, F4, l4, _, g0, (r2.step g0 t3).off g0 t4 r4 o4, p4, fun l5 σ5 F5 H5 p5 a5 => ⟨F5, l5, a5, p5⟩, f.rt, fun l5 σ5 F5 H5 p5 a5 => f.nx l5 σ5 F5 H5 p5 (a5.base (eb.trans a5.e)), fun l5 σ5 F5 H5 p5 a5 => ⟨F5, l5, a5, p5⟩, f.rl⟩
  · have ei : i = ds.length := by omega
    refine .inl ⟨(wk i F2 H2 r2.s.gd r2.e).2 (by omega), f.nx l2 σ2 F2 H2 (ie l2 _ (by rw [← ei]; exact h2)) (r2.base (eb.trans r2.e))⟩⟩
def mWhile (c : MT) (mb : MS) : MS := fun D l u => ∃ W : Nat → Sl → Cr, (∃ m, W m l u) ∧ ∀ m l' u', W m l' u' → c l' (fun k => if k = true then mb { nx := fun l2 v => ∃ m', m' < m ∧ W m' l2 v, ct := fun l2 v => ∃ m', m' < m ∧ W m' l2 v, bk := D.nx, rt := D.rt, rl := D.rl } l' else D.nx l') u'
theorem js_while {c : Expr} {body : List Stmt} {pos : Pos} {mc : MT} {mb : MS} (hp : PassesOwn (model X.prog X.w) X.A X.env X.xe) (hc : JT C w X c mc) (hb : JSs C w X body mb) : JS C w X (.While c body [] pos) (mWhile mc mb) := fun F0 H0 Fb => PS.imp (ps_while hp hc (hb F0 H0 Fb)) fun D σ H ⟨F, l, P, g0, r, ⟨W, ⟨m0, w0⟩, tu⟩, f⟩ => by
  refine ⟨fun m σ' H' => ∃ (F' : Fz) (l' : Sl), At C w F0 H0 Fb F' H' l' σ' ∧ W m l' F'.n, ⟨m0, F, l, r, w0⟩, ?_⟩
  rintro m σ2 H2 ⟨F2, l2, r2, w2⟩
  refine ⟨F2, l2, _, r2.s.gd, r2.r, tu m l2 _ w2, fun k F3 H3 p3 t3 => ?_⟩
  cases k with
  | true =>
    rw [if_pos rfl] at p3
    refine iteT ?_
    refine ⟨fun σ' H' => ∃ m', m' < m ∧ ∃ (F' : Fz) (l' : Sl), At C w F0 H0 Fb F' H' l' σ' ∧ W m' l' F'.n, fun σ' H' q => q, F3, l2, _, g0, r2.step g0 t3, p3, fun l5 σ5 F5 H5 ⟨m', h1, h2⟩ a5 => ⟨m', h1, F5, l5, a5, h2⟩, f.rt, fun l5 σ5 F5 H5 p5 a5 => f.nx l5 σ5 F5 H5 p5 a5, fun l5 σ5 F5 H5 ⟨m', h1, h2⟩ a5 => ⟨m', h1, F5, l5, a5, h2⟩, f.rl⟩
  | false =>
    rw [if_neg Bool.false_ne_true] at p3
    refine iteF ?_
    exact f.nx l2 σ2 F3 H3 p3 (r2.step g0 t3)

/-! ### a def -/
def startS (N : List Str) (ds : List D) : Sl := ds.map (fun d => some (SV.val d)) ++ List.replicate (N.length - ds.length) none
theorem startS_own {N : List Str} {ds : List D} {i : Nat} {xs : List D} (h : (startS N ds)[i]? = some (some (SV.own xs))) : False := by
  unfold startS at h
  by_cases hi : i < ds.length
  · rw [List.getElem?_append_left (by simpa using hi), List.getElem?_map] at h
    cases e : ds[i]? with
    | none => rw [e] at h; cases h
    | some d' => rw [e] at h; cases h
  · rw [List.getElem?_append_right (by simpa using hi), List.getElem?_replicate] at h
    split at h <;> cases h
theorem rep_start {N : List Str} {ds : List D} {vs : List V} (r : RepL C w F ds vs) : RepS C w F H (startS N ds) (L2.start N vs) := by
  have hl := r.length
  refine ⟨?_, fun i d h => ?_, fun i xs h => (startS_own h).elim, fun i j xs ys a h => (startS_own h).elim⟩
  · unfold startS L2.start
    rw [List.length_append, List.length_append, List.length_map, List.length_map, List.length_replicate, List.length_replicate, hl]
  · unfold startS at h
    by_cases hi : i < ds.length
    · rw [List.getElem?_append_left (by simpa using hi), List.getElem?_map] at h
      cases e : ds[i]? with
      | none => rw [e] at h; cases h
      | some d' =>
        rw [e] at h; cases h
        obtain ⟨v, e1, r1⟩ := r.get e
        refine ⟨v, ?_, r1⟩
        unfold L2.start
        rw [List.getElem?_append_left (by rw [List.length_map]; omega), List.getElem?_map, e1]; rfl
    · rw [List.getElem?_append_right (by simpa using hi), List.getElem?_replicate] at h
      split at h <;> cases h
end
theorem fn_D {P : Program} {w' : World} {K : PySem.W.Frag} {mg : Str → Option Value} {base : Heap} {Tb : List Addr} {x qual : Str} {st : Stmt} {f : Addr} {fd : FuncData} {N ps : List Str} {k : Nat} {S : Spec} {m : MS} (Fn : Fun K x qual st f fd) (sc : FnScope N ps (defScope st))
    (hS : ∀ ds P n, S ds P n → ds.length = ps.length)
    (hb : ∀ (cdv : Value) (A : Around) (outer : List Env) (s : Shared) (H : Hp) (E : XK) (wl : Option Addr), Room k (A.deeper (envOfC qual (defScope st) s.heap.objs.size f cdv)) → JSs ⟨K, Tb⟩ wl (cxOf CX0 P w' K mg base N qual (defScope st) f cdv A outer s H E).nox (defBody st) m)
    (hm : ∀ ds Pd n, S ds Pd n → m { nx := fun _ => Pd .non, rt := Pd } (startS N ds) n) : FnOk P w' K mg base CX0 (k + 1) f fd ps (spD ⟨K, Tb⟩ S) := by
  refine Fn.ok sc (fun vs H Q E h => ?_) fun cdv A outer s H vs Q E hr h => ?_
  · obtain ⟨wl, F, ds, Pd, g0, r, hs, f⟩ := h
    rw [← r.length]; exact hS ds Pd _ hs
  · obtain ⟨wl, F, ds, Pd, g0, r, hs, fin⟩ := h
    refine ⟨_, hb cdv A outer s H E wl hr F H F, F, _, _, g0, ⟨Step.refl g0, Ex.refl F, rep_start r, fun i xs a h => (startS_own h).elim⟩, hm ds Pd _ hs, fun l' σ' F' H' p a1 => fin _ _ F' H' p a1.s rep_non, fin, fun _ _ _ _ p => p.elim, fun _ _ _ _ p => p.elim, fun _ _ _ _ _ p => p.elim⟩
/-- .. that hands back a new list -/
def spW (C : Ct) (S : List D → (List D → Cr) → Cr) : Sp := fun vs H Q _ => ∃ w F ds P, Gd C w F H ∧ RepL C w F ds vs ∧ S ds P F.n ∧
  ∀ es us p F' H', P es F'.n → Step C w F H F' H' → H p = none → F' p = none → w ≠ some p → p ∉ C.Tb → H' p = some (.lst us) → RepL C w F' es us → Q (.ref p) H'
theorem fn_W {P : Program} {w' : World} {K : PySem.W.Frag} {mg : Str → Option Value} {base : Heap} {Tb : List Addr} {x qual : Str} {st : Stmt} {f : Addr} {fd : FuncData} {N ps : List Str} {k : Nat} {S : List D → (List D → Cr) → Cr} {m : MS} (Fn : Fun K x qual st f fd) (sc : FnScope N ps (defScope st))
    (hS : ∀ ds P n, S ds P n → ds.length = ps.length)
    (hb : ∀ (cdv : Value) (A : Around) (outer : List Env) (s : Shared) (H : Hp) (E : XK) (wl : Option Addr), Room k (A.deeper (envOfC qual (defScope st) s.heap.objs.size f cdv)) → JSs ⟨K, Tb⟩ wl (cxOf CX0 P w' K mg base N qual (defScope st) f cdv A outer s H E).nox (defBody st) m)
    (hm : ∀ ds Pd n, S ds Pd n → m { nx := fun _ _ => False, rt := fun _ _ => False, rl := Pd } (startS N ds) n) : FnOk P w' K mg base CX0 (k + 1) f fd ps (spW ⟨K, Tb⟩ S) := by
  refine Fn.ok sc (fun vs H Q E h => ?_) fun cdv A outer s H vs Q E hr h => ?_
  · obtain ⟨wl, F, ds, Pd, g0, r, hs, f⟩ := h
    rw [← r.length]; exact hS ds Pd _ hs
  · obtain ⟨wl, F, ds, Pd, g0, r, hs, fin⟩ := h
    refine ⟨_, hb cdv A outer s H E wl hr F H F, F, _, _, g0, ⟨Step.refl g0, Ex.refl F, rep_start r, fun i xs a h => (startS_own h).elim⟩, hm ds Pd _ hs, fun _ _ _ _ p => p.elim, fun _ _ _ _ p => p.elim, fun _ _ _ _ p => p.elim, fun _ _ _ _ p => p.elim, fun es us p F' H' pe s h0 f0 w0 t0 hp r => fin es us p F' H' pe s h0 f0 w0 t0 hp r⟩
end DJ

set_option Elab.async false
set_option linter.all false
set_option maxRecDepth 100000
set_option maxHeartbeats 1000000
/-! lists that are being made; calls with keywords; a def as the head's Hook tells it -/
namespace DJ
open PySem PySem.Spec PyProof.Rows L2 GxR GX

section
variable {C : Ct} {w : Option Addr} {X : Cx} {F0 F F' : Fz} {H0 Fb H H' : Hp} {st : Stmt} {rest : List Stmt}
theorem RepS.setOwn {l : Sl} {σ : L2.St} (r : RepS C w F H l σ) (i : Nat) {a : Addr} {ds : List D} {vs : List V} (hf : F a = none) (hw : w ≠ some a) (ht : a ∉ C.Tb) (hH : H a = some (.lst vs)) (rl : RepL C w F ds vs)
    (hne : ∀ (j : Nat) (xs : List D), j ≠ i → l[j]? = some (some (SV.own xs)) → σ[j]? ≠ some (some (.ref a))) : RepS C w F H (l.set i (some (SV.own ds))) (σ.set i (some (.ref a))) where
  len := by rw [List.length_set, List.length_set]; exact r.len
  val := fun j e q => by
    rcases getElem?_set' q with ⟨_, z⟩ | ⟨ne, z⟩
    · cases z
    · obtain ⟨u, h1, h2⟩ := r.val j e z
      exact ⟨u, by rw [List.getElem?_set_ne (Ne.symm ne)]; exact h1, h2⟩
  own := fun j xs q => by
    rcases getElem?_set' q with ⟨e, z⟩ | ⟨ne, z⟩
    · cases z
      have hl : i < l.length := by
        have := (List.getElem?_eq_some_iff.mp q).1
        rw [e] at this
        simpa using this
      exact ⟨a, vs, by rw [e]; exact List.getElem?_set_self (by rw [← r.len]; exact hl), hf, hw, ht, hH, rl⟩
    · obtain ⟨b, us, h1, h2⟩ := r.own j xs z
      exact ⟨b, us, by rw [List.getElem?_set_ne (Ne.symm ne)]; exact h1, h2⟩
  one := fun j k xs ys b h1 h2 h3 h4 => by
    rcases getElem?_set' h1 with ⟨e1, z1⟩ | ⟨n1, z1⟩
    · rcases getElem?_set' h2 with ⟨e2, z2⟩ | ⟨n2, z2⟩
      · rw [e1, e2]
      · exfalso
        have hl : i < σ.length := by
          have := (List.getElem?_eq_some_iff.mp h1).1
          rw [e1] at this
          rw [← r.len]; simpa using this
        rw [e1, List.getElem?_set_self hl] at h3
        rw [List.getElem?_set_ne (Ne.symm n2)] at h4
        cases h3
        exact hne k ys n2 z2 h4
    · rcases getElem?_set' h2 with ⟨e2, z2⟩ | ⟨n2, z2⟩
      · exfalso
        have hl : i < σ.length := by
          have := (List.getElem?_eq_some_iff.mp h2).1
          rw [e2] at this
          rw [← r.len]; simpa using this
        rw [e2, List.getElem?_set_self hl] at h4
        rw [List.getElem?_set_ne (Ne.symm n1)] at h3
        cases h4
        exact hne j xs n1 z1 h3
      · rw [List.getElem?_set_ne (Ne.symm n1)] at h3
        rw [List.getElem?_set_ne (Ne.symm n2)] at h4
        exact r.one j k xs ys b z1 z2 h3 h4
/-- x = [..], a list that will be changed -/
def mOwn (i : Nat) (t : MA) : MS := fun D l => t l fun xs c => xs.length ≤ 50000 ∧ D.nx (l.set i (some (SV.own xs))) c
theorem js_own {i : Nat} {x : Str} {es : List Expr} {pos pos' lpos : Pos} {t : MA} (hN : X.N.Nodup) (hi : X.N[i]? = some x) (hx : Loc X.env.scope x) (he : JA C w X es t) (hs : swapsWith (.List es lpos) (some (.Name x pos')) pos.line X.env = pure false := by rfl) (hf : X.fn x = true ∨ X.env.scope.names.lookup x = some .local := by first | exact .inl rfl | exact .inr rfl | assumption) :
    JS C w X (.Assign [.Name x pos'] (.List es lpos) pos) (mOwn i t) := fun F0 H0 Fb => PS.imp (ps_set hN hi hx (pe_lst he) hs hf) fun D σ H ⟨F, l, P, g0, r, h, f⟩ => by
  refine ⟨F, l, _, r.s.gd, r.r, h, fun ds vs F1 H1 ⟨hl, p⟩ s1 r1 => ⟨by rw [← r1.length]; exact sz_of (by omega), fun p' hp => ?_⟩⟩
  have a1 := r.step g0 s1
  obtain ⟨q1, q2, q3⟩ := a1.s.gd.fresh hp
  have h0 : H0 p' = none := by
    cases e : H0 p' with
    | none => rfl
    | some o => exact absurd hp (a1.s.there g0 (by rw [e]; simp))
  have s2 := Step.newO (o := .lst vs) a1.s.gd hp
  have a2 := a1.step g0 s2
  have nap : ∀ (j : Nat) (xs : List DJ.D), l[j]? = some (some (SV.own xs)) → σ[j]? ≠ some (some (.ref p')) := fun j xs e e2 => by
    obtain ⟨a, us, z1, _, _, _, z2, _⟩ := a1.r.own j xs e
    rw [e2] at z1
    cases z1
    rw [hp] at z2; cases z2
  refine f.nx _ _ _ _ p ⟨a2.s, a2.e, a2.r.setOwn i q1 q2 q3 upd_same r1 fun j xs _ e => nap j xs e, fun j xs a e1 e2 => ?_⟩
  rcases getElem?_set' e1 with ⟨z, _⟩ | ⟨ne, z⟩
  · rw [z] at e2
    have hl2 : i < σ.length := by
      have := (List.getElem?_eq_some_iff.mp e1).1
      rw [z] at this
      rw [← r.r.len]; simpa using this
    rw [List.getElem?_set_self hl2] at e2
    cases e2; exact h0
  · rw [List.getElem?_set_ne (Ne.symm ne)] at e2
    exact r.o j xs a z e2
/-- x.append(e) -/
def mApp (i : Nat) (m : ME) : MS := fun D l c => ∃ xs, l[i]? = some (some (SV.own xs)) ∧ m l (fun d c => xs.length < 50000 ∧ D.nx (l.set i (some (SV.own (xs ++ [d])))) c) c
theorem own_again {l : Sl} {σ : L2.St} (r : RepS C w F H l σ) {i : Nat} {a : Addr} {xs ds : List D} {vs us : List V} (e : l[i]? = some (some (SV.own xs))) (ea : σ[i]? = some (some (.ref a))) (hf : F a = none) (hw : w ≠ some a) (ht : a ∉ C.Tb) (rl : RepL C w F ds us) : RepS C w F (upd H a (.lst us)) (l.set i (some (SV.own ds))) (σ.set i (some (.ref a))) := by
  have hne : ∀ (j : Nat) (ys : List D) (b : Addr), j ≠ i → l[j]? = some (some (SV.own ys)) → σ[j]? = some (some (.ref b)) → b ≠ a := fun j ys b ne h1 h2 z => by
    rw [z] at h2
    exact ne (r.one j i ys xs a h1 e h2 ea)
  have len : i < l.length := (List.getElem?_eq_some_iff.mp e).1
  refine ⟨by rw [List.length_set, List.length_set]; exact r.len, fun j d q => ?_, fun j ys q => ?_, fun j k ys zs b h1 h2 h3 h4 => ?_⟩
  · rcases getElem?_set' q with ⟨_, z⟩ | ⟨ne, z⟩
    · cases z
    · obtain ⟨u, h1, h2⟩ := r.val j d z
      exact ⟨u, by rw [List.getElem?_set_ne (Ne.symm ne)]; exact h1, h2⟩
  · rcases getElem?_set' q with ⟨e1, z⟩ | ⟨ne, z⟩
    · cases z
      exact ⟨a, us, by rw [e1]; exact List.getElem?_set_self (by rw [← r.len]; exact len), hf, hw, ht, upd_same, rl⟩
    · obtain ⟨b, ws, h1, h2, h3, h4, h5, h6⟩ := r.own j ys z
      exact ⟨b, ws, by rw [List.getElem?_set_ne (Ne.symm ne)]; exact h1, h2, h3, h4, by rw [upd_ne (hne j ys b ne z h1)]; exact h5, h6⟩
  · rcases getElem?_set' h1 with ⟨e1, z1⟩ | ⟨n1, z1⟩
    · rcases getElem?_set' h2 with ⟨e2, z2⟩ | ⟨n2, z2⟩
      · rw [e1, e2]
      · exfalso
        rw [e1, List.getElem?_set_self (by rw [← r.len]; exact len)] at h3
        rw [List.getElem?_set_ne (Ne.symm n2)] at h4
        cases h3
        exact hne k zs a n2 z2 h4 rfl
    · rcases getElem?_set' h2 with ⟨e2, z2⟩ | ⟨n2, z2⟩
      · exfalso
        rw [e2, List.getElem?_set_self (by rw [← r.len]; exact len)] at h4
        rw [List.getElem?_set_ne (Ne.symm n1)] at h3
        cases h4
        exact hne j ys a n1 z1 h3 rfl
      · rw [List.getElem?_set_ne (Ne.symm n1)] at h3
        rw [List.getElem?_set_ne (Ne.symm n2)] at h4
        exact r.one j k ys zs b z1 z2 h3 h4
theorem Gd.ownAt {p : Addr} {o : HO} (g : Gd C w F H) (wp : w ≠ some p) (tp : p ∉ C.Tb) (fp : F p = none) : Gd C w F (upd H p o) :=
  ⟨fun a u e => by rw [upd_ne (fun z => by rw [z, fp] at e; cases e)]; exact g.sub a u e,
    fun a e => by
      obtain ⟨z1, z2, x1, x2, x3, z3⟩ := g.well a e
      exact ⟨z1, z2, x1, x2, x3, by rw [upd_ne (fun z => wp (by rw [← z]; exact e))]; exact z3⟩,
    fun a e => by
      obtain ⟨z1, ps, z2, z3⟩ := g.tabs a e
      exact ⟨z1, ps, by rw [upd_ne (fun z => tp (by rw [← z]; exact e))]; exact z2, z3⟩⟩
/-- one's own list in slot i has changed -/
theorem At.own {l : Sl} {σ : L2.St} (a : At C w F0 H0 Fb F H l σ) {i : Nat} {p : Addr} {xs ds : List D} {vs us : List V} (e : l[i]? = some (some (SV.own xs))) (ea : σ[i]? = some (some (.ref p))) (hf : F p = none) (hw : w ≠ some p) (ht : p ∉ C.Tb) (rl : RepL C w F ds us) : At C w F0 H0 Fb F (upd H p (.lst us)) (l.set i (some (SV.own ds))) σ := by
  have hs : σ.set i (some (.ref p)) = σ := by
    refine List.ext_getElem? fun j => ?_
    by_cases z : i = j
    · subst z
      rw [List.getElem?_set_self (List.getElem?_eq_some_iff.mp ea).1, ea]
    · rw [List.getElem?_set_ne z]
  have r := own_again (vs := vs) a.r e ea hf hw ht rl
  rw [hs] at r
  refine ⟨a.s.own (a.o i xs p e ea) hw ht hf, a.e, r, fun j ys b h1 h2 => ?_⟩
  rcases getElem?_set' h1 with ⟨z, _⟩ | ⟨_, z⟩
  · rw [z, ea] at h2
    cases h2
    exact a.o i xs p e ea
  · exact a.o j ys b z h2
theorem js_app {i : Nat} {x : Str} {e : Expr} {pos pos' p2 p3 : Pos} {m : ME} (hv : PE X (.Name x pos') (tVar i)) (he : JE C w X e m)
    (hbase : attributeBase (.Name x pos') "append" X.env (eval (.Name x pos') X.env) = eval (.Name x pos') X.env := by rfl)
    (hfew : ((backTo p3 (starEach [e] X.env)).all (fun x => !x.1) && (backToKw p3 (keywordEach [] X.env)).all (fun x => x.1.isSome) && decide ([e].length + ([] : List Keyword).length + (if ([] : List Keyword).isEmpty then 0 else 1) < 30)) = true := by rfl)
    (hline : (p2.endLine == p3.line) = true := by rfl) (hst : starEach [e] X.env = (false, eval e X.env) :: starEach [] X.env := by rfl) (hplain : (backTo p3 (starEach [] X.env)).any (·.1) = false := by rfl)
    (hs : swapsWith (.Call (.Attribute (.Name x pos') "append" p2) [e] [] p3) none pos.line X.env = pure false := by rfl) :
    JS C w X (.Expr (.Call (.Attribute (.Name x pos') "append" p2) [e] [] p3) pos) (mApp i m) := fun F0 H0 Fb => PS.imp (ps_expr (pe_bm PySem.F.plainAttrs_list PySem.F.slot_list_append PySem.F.type_list_append mt_append hv (pa_cons he pa_nil hst) hbase hfew hline hst hplain) hs) fun D σ H ⟨F, l, P, g0, r, ⟨xs, ex, h⟩, f⟩ => by
  obtain ⟨a, vs, ea, f1, w1, t1, h1, r1⟩ := r.r.own i xs ex
  refine ⟨.ref a, ea, .inl ⟨rfl, vs, SqL.of h1⟩, F, l, _, r.s.gd, r.r, h, fun d v F1 H1 ⟨hl, p⟩ s1 rd => ?_⟩
  have a1 := r.step g0 s1
  have h2 : H1 a = some (.lst vs) := s1.kp a _ h1 w1 t1
  have f2 : F1 a = none := s1.nf a (by rw [h1]; simp) f1
  refine ⟨a, vs, v, rfl, rfl, h2, by rw [← r1.length]; exact sz_lt (by omega), ?_⟩
  exact f.nx _ _ _ _ p (a1.own (vs := vs) ex ea f2 w1 t1 (RepL.append (r1.ex s1.ex) (RepL.cons rd RepL.nil)))
/-- x[k] = e -/
def mSetO (i : Nat) (m mk : ME) : MS := fun D l c => ∃ xs, l[i]? = some (some (SV.own xs)) ∧ m l (fun d => mk l fun kd => gInt kd fun k c => ∃ j, ixN xs.length k = some j ∧ D.nx (l.set i (some (SV.own (xs.set j d)))) c) c
theorem js_setO {i : Nat} {x : Str} {e ke : Expr} {pos pos' p2 : Pos} {m mk : ME} (hv : PE X (.Name x pos') (tVar i)) (he : JE C w X e m) (hk : JE C w X ke mk) (hg : PG X (.Subscript (.Name x pos') ke p2) (L2.gSub (tVar i) (tM C w mk) rSetL))
    (hs : swapsWithSole [.Subscript (.Name x pos') ke p2] e pos.line X.env = pure false := by rfl) (hw : swappedStores [.Subscript (.Name x pos') ke p2] e X.env = pure none := by rfl)
    (h1 : (assignEach [.Subscript (.Name x pos') ke p2] X.env).map (·.2) = [assign (.Subscript (.Name x pos') ke p2) X.env] := by rfl) :
    JS C w X (.Assign [.Subscript (.Name x pos') ke p2] e pos) (mSetO i m mk) := fun F0 H0 Fb => PS.imp (ps_asg he hg hs hw h1) fun D σ H ⟨F, l, P, g0, r, ⟨xs, ex, h⟩, f⟩ => by
  refine ⟨F, l, _, r.s.gd, r.r, h, fun d v F1 H1 p s1 rd => ?_⟩
  have a1 := r.step g0 s1
  obtain ⟨a, vs, ea, f1, w1, t1, h1, r1⟩ := a1.r.own i xs ex
  refine ⟨.ref a, ea, F1, l, _, s1.gd, r.r.step s1, p, fun kd kv F2 H2 pk s2 rk => ?_⟩
  obtain ⟨k, rfl, j, hj, q⟩ := gInt_inv pk
  have a2 := a1.step g0 s2
  have h2 : H2 a = some (.lst vs) := s2.kp a _ h1 w1 t1
  have f2 : F2 a = none := s2.nf a (by rw [h1]; simp) f1
  refine ⟨a, vs, k, j, rfl, rep_int' rk, h2, by rw [← r1.length]; exact hj, ?_⟩
  exact f.nx _ _ _ _ q (a2.own (vs := vs) ex ea f2 w1 t1 (RepL.set j (rd.ex s2.ex) (r1.ex s2.ex)))
/-- from here on the list in slot i is a value -/
def mFrz (i : Nat) (m : MS) : MS := fun D l c => ∃ xs, l[i]? = some (some (SV.own xs)) ∧ m D (l.set i (some (SV.val (.lst xs)))) c
theorem tm_frz {i : Nat} {m : MS} {D : Ends} {σ : L2.St} (h : tMS C w F0 H0 Fb (mFrz i m) D σ H) : tMS C w F0 H0 Fb m D σ H := by
  obtain ⟨F, l, P, g0, r, ⟨xs, ex, h⟩, f⟩ := h
  obtain ⟨a, vs, ea, f1, w1, t1, h1, r1⟩ := r.r.own i xs ex
  have s2 := r.s.freeze (r.o i xs a ex ea) w1 t1 f1 h1
  have e2 : Ex F (F.upd a (.lst vs)) := Ex.new f1
  refine ⟨F.upd a (.lst vs), l.set i (some (SV.val (.lst xs))), P, g0, ⟨s2, r.e.trans e2, ⟨by rw [List.length_set]; exact r.r.len, fun j d q => ?_, fun j ys q => ?_, fun j k ys zs b q1 q2 => ?_⟩, fun j ys b q1 q2 => ?_⟩, h, f⟩
  · rcases getElem?_set' q with ⟨z, z2⟩ | ⟨_, z⟩
    · cases z2
      exact ⟨.ref a, by rw [z]; exact ea, rep_lst upd_same (r1.ex e2)⟩
    · obtain ⟨u, z1, z2⟩ := r.r.val j d z
      exact ⟨u, z1, z2.ex e2⟩
  · rcases getElem?_set' q with ⟨_, z⟩ | ⟨ne, z⟩
    · cases z
    · obtain ⟨b, us, z1, z2, z3, z4, z5, z6⟩ := r.r.own j ys z
      have nb : b ≠ a := fun e => ne (r.r.one j i ys xs a z ex (by rw [← e]; exact z1) ea)
      exact ⟨b, us, z1, by show upd F.f a (.lst vs) b = none; rw [upd_ne nb]; exact z2, z3, z4, z5, z6.ex e2⟩
  · rcases getElem?_set' q1 with ⟨_, z⟩ | ⟨_, z⟩
    · cases z
    · rcases getElem?_set' q2 with ⟨_, z'⟩ | ⟨_, z'⟩
      · cases z'
      · exact r.r.one j k ys zs b z z'
  · rcases getElem?_set' q1 with ⟨_, z⟩ | ⟨_, z⟩
    · cases z
    · exact r.o j ys b z q2
theorem jss_frz {i : Nat} {sts : List Stmt} {m : MS} (h : JSs C w X sts m) : JSs C w X sts (mFrz i m) := fun F0 H0 Fb => PSs.imp (h F0 H0 Fb) fun _ _ _ q => tm_frz q
theorem js_frz {i : Nat} {m : MS} (h : JS C w X st m) : JS C w X st (mFrz i m) := fun F0 H0 Fb => PS.imp (h F0 H0 Fb) fun _ _ _ q => tm_frz q
/-! ### calls with keywords -/
def pick {α : Type} (idx : List Nat) (xs : List α) : List α := idx.filterMap fun i => xs[i]?
theorem pick_vals {vs : List V} {us : List Value} (r : Vals vs us) : ∀ idx : List Nat, Vals (pick idx vs) (pick idx us)
  | [] => .nil
  | i :: idx => by
    unfold pick
    rw [List.filterMap_cons, List.filterMap_cons]
    cases e : vs[i]? with
    | none => rw [r.none_of e]; exact pick_vals r idx
    | some v =>
      obtain ⟨u, e1, r1⟩ := r.get e
      rw [e1]
      exact .cons r1 (pick_vals r idx)
theorem pick_rep {ds : List D} {vs : List V} (r : RepL C w F ds vs) : ∀ idx : List Nat, RepL C w F (pick idx ds) (pick idx vs)
  | [] => RepL.nil
  | i :: idx => by
    unfold pick
    rw [List.filterMap_cons, List.filterMap_cons]
    cases e : ds[i]? with
    | none =>
      have : vs[i]? = none := by rw [List.getElem?_eq_none_iff] at e ⊢; rw [← r.length]; exact e
      rw [this]; exact pick_rep r idx
    | some v =>
      obtain ⟨u, e1, r1⟩ := r.get e
      rw [e1]
      exact RepL.cons r1 (pick_rep r idx)
def mCallK (S : Spec) (idx : List Nat) (t tk : MA) : ME := fun l P => t l fun ds => tk l fun es => S (pick idx (ds ++ es)) P
abbrev JK (C : Ct) (w : Option Addr) (X : Cx) (kws : List Keyword) (m : MA) : Prop := PK X kws (tMA C w m)
theorem PK.imp {kws : List Keyword} {t t' : TA} (h : PK X kws t) (hi : ∀ σ H Q, t' σ H Q → t σ H Q) : PK X kws t' := ⟨fun p pins s σ H Q I hw => h.run p pins s σ H Q I (hi σ H Q hw)⟩
theorem jk_nil : JK C w X [] mNil := PK.imp pk_nil fun σ H Q ⟨F, l, P, g0, r, h, f⟩ => f [] [] F H h (Step.refl g0) RepL.nil
theorem jk_cons {nm : Option Str} {e : Expr} {kpos : Pos} {kws : List Keyword} {m : ME} {t : MA} (ha : JE C w X e m) (hr : JK C w X kws t) : JK C w X (⟨nm, e, kpos⟩ :: kws) (mCons m t) := PK.imp (pk_cons ha hr) fun σ H Q ⟨F, l, P, g0, r, h, f⟩ => by
  refine ⟨F, l, _, g0, r, h, fun x v F1 H1 h1 s1 r1 => ?_⟩
  refine ⟨F1, l, _, s1.gd, r.step s1, h1, fun xs vs F2 H2 h2 s2 r2 => ?_⟩
  exact f _ _ F2 H2 h2 (s1.trans g0 s2) (RepL.cons (r1.ex s2.ex) r2)
/-- how such a call binds -/
def KB (K : PySem.W.Frag) (fd : FuncData) (ps ks : List Str) (n : Nat) (idx : List Nat) : Prop := ∀ (s : Shared) (us ws : List Value), K.In s.heap → us.length = n → ws.length = ks.length → BindsTo s fd ⟨us, ks.zip ws⟩ (ps.zip (pick idx (us ++ ws)))
section
variable {x : Str} {p pos : Pos} {e : Expr} {es : List Expr} {kws : List Keyword} {t tk : MA} {k n : Nat} {f : Addr} {fd : FuncData} {ps ks : List Str} {idx : List Nat} {S : Spec}
theorem runK {pins : List (Addr × Obj)} {σ : L2.St} {s : Shared} {Q : VK} {us ws : List Value} {vs zs : List V} (G : FnOk X.prog X.w X.K X.mg X.base CX0 k f fd ps (spD C S)) (hr : Room k X.A) (hb : KB X.K fd ps ks n idx) (hn : us.length = n) (hw : ws.length = ks.length)
    (I : Inv X pins σ H s) (r : Vals vs us) (rz : Vals zs ws) (h : spD C S (pick idx (vs ++ zs)) H Q E0) : wpAny (model X.prog X.w) X.A (call (.ref f) us (ks.zip ws)) (EP X pins σ Q) X.xe s := by
  refine wpAny_call (codeAny_mono (G.run X.A X.stack s H ⟨us, ks.zip ws⟩ (pick idx (us ++ ws)) (pick idx (vs ++ zs)) Q E0 hr I.env0 (hb s us ws I.kIn hn hw) (pick_vals (r.append rz) idx) h) fun r s' hq => ?_)
  cases r with
  | error e => exact hq.elim
  | ok fl =>
    cases fl with
    | ret u => exact I.after hq
    | next => exact False.elim hq
    | brk => exact False.elim hq
    | cont => exact False.elim hq
theorem je_callK0 (G : FnOk X.prog X.w X.K X.mg X.base CX0 k f fd ps (spD C S)) (hr : Room k X.A) (hg : Gl X x) (hm : X.mg x = some (.ref f)) (hk : PySem.W.keepIn X.K (.ref f) = true) (hb : KB X.K fd ps ks 0 idx)
    (hkw : JK C w X kws tk) (hlen : ∀ l P c, tk l P c → tk l (fun ds c => ds.length = ks.length ∧ P ds c) c) (hall : (backToKw pos (keywordEach kws X.env)).all (·.1.isSome) = true := by rfl) (hks : (backToKw pos (keywordEach kws X.env)).filterMap (·.1) = ks := by rfl)
    (hdb : (x == ("__debug__" : Str)) = false := by decide) (hpl : ((backTo pos (starEach [] X.env)).any (·.1) || (backToKw pos (keywordEach kws X.env)).any (·.1.isNone)) = false := by rfl) :
    JE C w X (.Call (.Name x p) [] kws pos) (mCallK S idx mNil tk) := by
  refine ⟨fun pins s σ H Q I h => ?_⟩
  refine wpAny_Call_Name_kw (ld_glob I hg hm ?_ hdb)
  refine PySem.W.callWith_KW0 (h₀ := X.base) I.ok.mod.kin hk hall ?_ hpl
  obtain ⟨F, l, P, g0, r, h, f⟩ := h
  have h2 := hlen _ _ _ h
  refine thn (hkw.run pos pins s σ H (fun zs H1 => zs.length = ks.length ∧ spD C S (pick idx ([] ++ zs)) H1 Q E0) I ⟨F, l, _, g0, r, h2, fun es zs F1 H1 ⟨q1, q2⟩ s1 r1 => ⟨by rw [← r1.length]; exact q1, w, F1, _, P, s1.gd, pick_rep (RepL.append RepL.nil r1) idx, q2, f.go g0 s1⟩⟩) fun ws s2 ⟨zs, H2, I2, rz, hz, q2⟩ => ⟨I2.kIn, ?_⟩
  rw [hks]
  exact runK G hr hb rfl (by rw [← rz.length]; exact hz) I2 .nil rz q2
end
end
end DJ

set_option Elab.async false
set_option linter.all false
set_option maxRecDepth 100000
set_option maxHeartbeats 1000000
/-! the well of draws; the end -/
namespace DJ
open PySem PySem.Spec PyProof.Rows L2 GxR GX

section
variable {C : Ct} {w : Option Addr} {X : Cx} {F0 F F' : Fz} {H0 Fb H H' : Hp} {st : Stmt} {rest : List Stmt} {l : Sl} {σ : L2.St}
/-- the well's numbers may change -/
theorem Step.draw {a : Addr} {x y z : Int} {n : Nat} (g : Gd C w F H) (hw : w = some a) (hy : 0 ≤ y ∧ y < 4294967296) (h0 : 0 ≤ z) (hn : z ≤ n) : Step C w F H ⟨F.f, n⟩ (upd H a (.lst [.int x, .int y, .int z])) where
  gd := ⟨fun b u e => by
      have := (g.well a hw).1
      have e : F.f b = some u := e
      rw [upd_ne (fun z => by rw [z, this] at e; cases e)]; exact g.sub b u e,
    fun b e => by
      rw [hw] at e
      cases e
      obtain ⟨z1, z2, _⟩ := g.well a hw
      exact ⟨z1, z2, x, y, z, upd_same, hy, h0, hn⟩,
    fun b e => by
      obtain ⟨z1, ps, z2, z3⟩ := g.tabs b e
      exact ⟨z1, ps, by rw [upd_ne (fun q => (g.well a hw).2.1 (by rw [← q]; exact e))]; exact z2, z3⟩⟩
  ex := Ex.refl F.f
  kp := fun b u e h1 _ => by rw [upd_ne (fun q => h1 (by rw [q]; exact hw))]; exact e
  nf := fun _ _ h => h
def gDivmod : D → D → (D → Cr) → Cr
  | .int i, .int j, P => fun n => (0 < j ∧ j < 1073741824) ∧ P (.tup [.int (i / j), .int (i % j)]) n
  | _, _, _ => fun _ => False
theorem d_divmod : CallR X (.builtin "divmod") (rC C w (g2 gDivmod)) := call2 call_divmod fun F H d e v u P Q g0 r r2 hq f => by
  cases d <;> cases e <;> first | exact hq.elim | skip
  rename_i i j
  refine ⟨i, j, by rw [rep_int' r, rep_int' r2], hq.1, fun p hp => ?_⟩
  have s2 := Step.new (o := .tup [.int (i / j), .int (i % j)]) g0 hp
  exact f.at s2 hq.2 (rep_tup (SqT.of upd_same) (RepL.cons rep_int (RepL.cons rep_int RepL.nil)))
/-- well[k] as a target -/
def gWset (i : Nat) (mk : ME) : MG := fun d l P c => l[i]? = some (some (SV.val .well)) ∧ gInt d (fun v => mk l fun kd => gInt kd fun k c => (0 ≤ k ∧ k < 3) ∧ (k = 2 → 0 ≤ v) ∧ (k = 1 → 0 ≤ v ∧ v < 4294967296) ∧ P l (if k = 2 then max c v.toNat else c)) c
theorem jg_wset {i : Nat} {o ke : Expr} {pos : Pos} {mk : ME} (hg : PG X (.Subscript o ke pos) (L2.gSub (tVar i) (tM C w mk) rSetL)) : JG C w X (.Subscript o ke pos) [] (gWset i mk) := PG.imp hg fun v σ H Q ⟨F, l, d, P, g0, r, rd, ⟨hl, h⟩, f⟩ => by
  obtain ⟨n, rfl, h⟩ := gInt_inv h
  obtain ⟨u, e1, r1⟩ := r.val i _ hl
  refine ⟨u, e1, F, l, _, g0, r, h, fun kd kv F2 H2 pk s2 rk => ?_⟩
  obtain ⟨k, rfl, ⟨b1, b2⟩, b3, b4, q⟩ := gInt_inv pk
  unfold Rep at r1
  obtain ⟨a, hw, rfl⟩ := r1
  obtain ⟨_, _, x, y, z, e, b_y, bz0, bz1⟩ := s2.gd.well a hw
  have ev : v = .int n := rep_int' rd
  have go : ∀ (j : Nat) (x1 y1 z1 : Int), ixN 3 k = some j → [V.int x, V.int y, V.int z].set j v = [V.int x1, V.int y1, V.int z1] → (0 ≤ y1 ∧ y1 < 4294967296) → 0 ≤ z1 → z1 ≤ ((if k = 2 then max F2.n n.toNat else F2.n : Nat) : Int) →
      rSetL (.ref a) kv v H2 (fun H3 => Q σ H3) := fun j x1 y1 z1 hj hs hy h0 hn => by
    refine ⟨a, _, k, j, rfl, rep_int' rk, e, hj, ?_⟩
    rw [hs]
    have s3 := Step.draw (x := x1) (y := y1) (z := z1) (n := if k = 2 then max F2.n n.toNat else F2.n) s2.gd hw hy h0 hn
    exact f l σ ⟨F2.f, _⟩ _ q (s2.trans g0 s3) ((r.step s2).step s3) (Off.refl _ σ) (OffO.refl l σ)
  have : k = 0 ∨ k = 1 ∨ k = 2 := by omega
  rcases this with rfl | rfl | rfl
  · exact go 0 n y z rfl (by rw [ev]; rfl) b_y bz0 bz1
  · exact go 1 x n z rfl (by rw [ev]; rfl) (b4 rfl) bz0 bz1
  · have hn := b3 rfl
    refine go 2 x y n rfl (by rw [ev]; rfl) b_y hn ?_
    rw [if_pos rfl]
    omega
/-- f(g(..)), g's new list the well of f's draws -/
def mWell (S1 : List D → (List D → Cr) → Cr) (S2 : Spec) (t : MA) : ME := fun l P => t l fun ds => S1 ds fun es c => ∃ x y z : Int, es = [.int x, .int y, .int z] ∧ 0 ≤ z ∧ (0 ≤ y ∧ y < 4294967296) ∧ S2 [.well] (fun d _ => ∃ b, d = .bl b ∧ P (.bl b) c) z.toNat
theorem je_well {x1 x2 : Str} {p1 pos1 p2 pos2 : Pos} {e : Expr} {es : List Expr} {t : MA} {k1 k2 : Nat} {f1 f2 : Addr} {fd1 fd2 : FuncData} {ps1 ps2 : List Str} {S1 : List D → (List D → Cr) → Cr} {S2 : Spec}
    (G1 : FnOk X.prog X.w X.K X.mg X.base CX0 k1 f1 fd1 ps1 (spW C S1)) (hr1 : Room k1 X.A) (hg1 : Gl X x1) (hm1 : X.mg x1 = some (.ref f1)) (hk1 : PySem.W.keepIn X.K (.ref f1) = true) (hb1 : Binds X.K fd1 ps1 []) (ha : JA C none X (e :: es) t)
    (G2 : FnOk X.prog X.w X.K X.mg X.base CX0 k2 f2 fd2 ps2 (spD C S2)) (hr2 : Room k2 X.A) (hg2 : Gl X x2) (hm2 : X.mg x2 = some (.ref f2)) (hk2 : PySem.W.keepIn X.K (.ref f2) = true) (hb2 : Binds X.K fd2 ps2 [])
    (hdb1 : (x1 == ("__debug__" : Str)) = false := by decide) (hdb2 : (x2 == ("__debug__" : Str)) = false := by decide)
    (he : starEach (e :: es) X.env = (false, eval e X.env) :: starEach es X.env := by rfl) (hpl : (backTo pos1 (starEach es X.env)).any (·.1) = false := by rfl)
    (he2 : starEach [.Call (.Name x1 p1) (e :: es) [] pos1] X.env = (false, eval (.Call (.Name x1 p1) (e :: es) [] pos1) X.env) :: starEach [] X.env := by rfl) (hpl2 : (backTo pos2 (starEach [] X.env)).any (·.1) = false := by rfl) :
    JE C none X (.Call (.Name x2 p2) [.Call (.Name x1 p1) (e :: es) [] pos1] [] pos2) (mWell S1 S2 t) :=
  PE.imp (pe_call G2 hr2 hg2 hm2 hk2 hb2 .nil pass0 (pa_cons (pe_call G1 hr1 hg1 hm1 hk1 hb1 .nil pass0 ha hdb1 he hpl) pa_nil he2) hdb2 he2 hpl2) fun σ H Q ⟨F, l, P, g0, r, h, f⟩ => by
  show tMA C none t σ H fun vs H1 => spW C S1 (vs ++ []) H1 (fun v H2 => spD C S2 ([v] ++ []) H2 Q E0) E0
  refine ⟨F, l, _, g0, r, h, fun ds vs F1 H1 h1 s1 r1 => ?_⟩
  show spW C S1 (vs ++ []) H1 (fun v H2 => spD C S2 ([v] ++ []) H2 Q E0) E0
  rw [List.append_nil]
  refine ⟨none, F1, ds, _, s1.gd, r1, h1, fun es us p F2 H2 ⟨x, y, z, e1, hz, hy, q⟩ s2 hp fp wp tp e2 re => ?_⟩
  subst e1
  have eu : us = [.int x, .int y, .int z] := rep_ints (ns := [x, y, z]) re
  subst eu
  show spD C S2 [.ref p] H2 Q E0
  have s12 := s1.trans g0 s2
  have g2 : Gd C (some p) ⟨F2.f, z.toNat⟩ H2 := ⟨s2.gd.sub, fun a e => by cases e; exact ⟨fp, tp, x, y, z, e2, hy, hz, by show z ≤ ((z.toNat : Nat) : Int); omega⟩, s2.gd.tabs⟩
  refine ⟨some p, ⟨F2.f, z.toNat⟩, [.well], _, g2, RepL.cons (by unfold Rep; exact ⟨p, rfl, rfl⟩) RepL.nil, q, fun d v F3 H3 ⟨b, e3, q3⟩ s3 r3 => ?_⟩
  subst e3
  have fp3 : F3 p = none := s3.nf p (by rw [e2]; simp) fp
  have hH : H p = none := by
    cases e : H p with
    | none => rfl
    | some o => exact absurd hp (s1.there g0 (by rw [e]; simp))
  refine f _ v ⟨F3.f, F2.n⟩ H3 q3 ⟨⟨s3.gd.sub, (fun a e => by cases e), s3.gd.tabs⟩, s12.ex.trans s3.ex, fun a o e _ ht => ?_, fun a e1 e3 => s3.nf a (s12.there g0 e1) (s12.nf a e1 e3)⟩ (by rw [rep_bl' r3]; exact rep_bl)
  have ne : a ≠ p := fun z => by rw [z, hH] at e; cases e
  exact s3.kp a o (s12.kp a o e (by simp) ht) (fun z => ne (Option.some.inj z).symm) ht
/-! ### one's own list, read -/
def mLenO (i : Nat) : ME := fun l P c => ∃ xs, l[i]? = some (some (SV.own xs)) ∧ P (.int xs.length) c
theorem je_lenO {x n : Str} {p p2 pos : Pos} {i : Nat} (hv : PE X (.Name x p2) (tVar i)) (hn : n = ("len" : Str)) (hg : Gl X n) (hm : X.mg n = none) (hb : bootBuiltins n = some (.builtin "len"))
    (he : starEach [.Name x p2] X.env = (false, eval (.Name x p2) X.env) :: starEach [] X.env := by rfl) : JE C w X (.Call (.Name n p) [.Name x p2] [] pos) (mLenO i) :=
  PE.imp (pe_callB call_len_seq hg hm hb (pa_cons hv pa_nil he) (by rw [hn]; decide) (by rw [hn]; decide) he) fun σ H Q ⟨F, l, P, g0, r, ⟨xs, ex, h⟩, f⟩ => by
  obtain ⟨a, vs, ea, f1, w1, t1, h1, r1⟩ := r.own i xs ex
  refine ⟨.ref a, ea, a, vs, rfl, .inl (SqL.of h1), ?_⟩
  rw [← r1.length]
  exact f.here g0 h rep_int
def mIxO (i : Nat) (m : ME) : ME := fun l P c => ∃ xs, l[i]? = some (some (SV.own xs)) ∧ m l (fun kd => gInt kd fun k c => ∃ d, atI xs k = some d ∧ P d c) c
theorem je_ixO {x : Str} {p2 pos : Pos} {i : Nat} {ke : Expr} {m : ME} (hv : PE X (.Name x p2) (tVar i)) (hk : JE C w X ke m) (hs : PlainIx ke) : JE C w X (.Subscript (.Name x p2) ke pos) (mIxO i m) :=
  PE.imp (pe_ix ix_list hv hk hs) fun σ H Q ⟨F, l, P, g0, r, ⟨xs, ex, h⟩, f⟩ => by
  obtain ⟨a, vs, ea, f1, w1, t1, h1, r1⟩ := r.own i xs ex
  refine ⟨.ref a, ea, F, l, _, g0, r, h, fun kd kv F1 H1 pk s1 rk => ?_⟩
  obtain ⟨k, rfl, d, ed, q⟩ := gInt_inv pk
  have h2 : H1 a = some (.lst vs) := s1.kp a _ h1 w1 t1
  obtain ⟨v, ev, rv⟩ := (r1.ex s1.ex).at ed
  exact ⟨a, vs, k, v, rfl, rep_int' rk, SqL.of h2, ev, f _ _ F1 H1 q s1 rv⟩
end
end DJ

set_option Elab.async false
set_option linter.all false
set_option maxRecDepth 100000
set_option maxHeartbeats 1000000
/-! defs of the text, by name -/
namespace DJ
open PySem PySem.Spec PyProof.Rows L2 GxR GX

theorem _root_.L2.Room.le {j k : Nat} {A : Around} (h : Room k A) (l : j ≤ k) : Room j A := ⟨h.hd, by have := h.dp; omega, by have := h.un; omega⟩
theorem _root_.L2.Room.cl {k : Nat} {A : Around} (h : Room k A) : A.units + 64 < cLine := by have := h.un; omega
/-- keywords in any order: their names, and at which of them each parameter's value stands -/
def kws : List Str → List (List Str × List Nat)
  | [a] => [([a], [0])]
  | [a, b] => [([a, b], [0, 1]), ([b, a], [1, 0])]
  | [a, b, c] => [([a, b, c], [0, 1, 2]), ([a, c, b], [0, 2, 1]), ([b, a, c], [1, 0, 2]), ([b, c, a], [2, 0, 1]), ([c, a, b], [1, 2, 0]), ([c, b, a], [2, 1, 0])]
  | [a, b, c, d] => [([a, b, c, d], [0, 1, 2, 3]), ([a, b, d, c], [0, 1, 3, 2]), ([a, c, b, d], [0, 2, 1, 3]), ([a, c, d, b], [0, 3, 1, 2]), ([a, d, b, c], [0, 2, 3, 1]), ([a, d, c, b], [0, 3, 2, 1]), ([b, a, c, d], [1, 0, 2, 3]), ([b, a, d, c], [1, 0, 3, 2]), ([b, c, a, d], [2, 0, 1, 3]), ([b, c, d, a], [3, 0, 1, 2]), ([b, d, a, c], [2, 0, 3, 1]), ([b, d, c, a], [3, 0, 2, 1]), ([c, a, b, d], [1, 2, 0, 3]), ([c, a, d, b], [1, 3, 0, 2]), ([c, b, a, d], [2, 1, 0, 3]), ([c, b, d, a], [3, 1, 0, 2]), ([c, d, a, b], [2, 3, 0, 1]), ([c, d, b, a], [3, 2, 0, 1]), ([d, a, b, c], [1, 2, 3, 0]), ([d, a, c, b], [1, 3, 2, 0]), ([d, b, a, c], [2, 1, 3, 0]), ([d, b, c, a], [3, 1, 2, 0]), ([d, c, a, b], [2, 3, 1, 0]), ([d, c, b, a], [3, 2, 1, 0])]
  | _ => []
/-- a def of the text as the top has left it: c its code object -/
structure Df (K : PySem.W.Frag) (mg : Str → Option Value) (x : Str) (st : Stmt) (c : Addr) : Prop where
  ex : ∃ (f : Addr) (oc : Value) (od : Option Addr) (kV doc pm : Value) (an : Option Addr) (ct : Value) (osl : Array (Option Value)),
    K.lookup f = some ⟨oc, od, .func (PySem.W.fnOf x x (defArgs st) (defBody st) (defScope st) .none kV doc pm an (.ref c) ct), osl⟩ ∧ PySem.W.codeIn K (.ref c) x = true ∧ PySem.W.keepIn K (.ref f) = true ∧ mg x = some (.ref f)
/-- a def that may be called -/
structure Ok (P : Program) (w : World) (K : PySem.W.Frag) (mg : Str → Option Value) (base : Heap) (C : Ct) (x : Str) (ps : List Str) (k : Nat) (S : Spec) : Prop where
  ex : ∃ (f : Addr) (fd : FuncData), FnOk P w K mg base CX0 k f fd ps (spD C S) ∧ mg x = some (.ref f) ∧ PySem.W.keepIn K (.ref f) = true ∧ Binds K fd ps [] ∧ ∀ p ∈ kws ps, KB K fd ps p.1 0 p.2
structure OkW (P : Program) (w : World) (K : PySem.W.Frag) (mg : Str → Option Value) (base : Heap) (C : Ct) (x : Str) (ps : List Str) (k : Nat) (S : List D → (List D → Cr) → Cr) : Prop where
  ex : ∃ (f : Addr) (fd : FuncData), FnOk P w K mg base CX0 k f fd ps (spW C S) ∧ mg x = some (.ref f) ∧ PySem.W.keepIn K (.ref f) = true ∧ Binds K fd ps []
theorem bindsTo_of {s : Shared} {fd : FuncData} {a : Args} {r : List (Str × Value)} (h : bindArgs fd a = pure r) : BindsTo s fd a r := .of_eq h
section
variable {P : Program} {w : World} {K : PySem.W.Frag} {mg : Str → Option Value} {base : Heap} {Tb : List Addr} {x : Str} {st : Stmt} {N ps : List Str} {k : Nat} {c : Addr} {m : MS}
/-- parameters by position, by name in any order -/
structure Bnd (x : Str) (st : Stmt) (ps : List Str) : Prop where
  pos : ∀ (kV doc pm : Value) (an : Option Addr) (cdv ct : Value) (us : List Value), us.length = ps.length → bindArgs (PySem.W.fnOf x x (defArgs st) (defBody st) (defScope st) .none kV doc pm an cdv ct) ⟨us, []⟩ = pure (ps.zip us)
  kw : ∀ (kV doc pm : Value) (an : Option Addr) (cdv ct : Value), ∀ p ∈ kws ps, ∀ us : List Value, us.length = p.1.length → bindArgs (PySem.W.fnOf x x (defArgs st) (defBody st) (defScope st) .none kV doc pm an cdv ct) ⟨[], p.1.zip us⟩ = pure (ps.zip (pick p.2 us))
theorem kb_of {fd : FuncData} {ks : List Str} {idx : List Nat} (h : ∀ us : List Value, us.length = ks.length → bindArgs fd ⟨[], ks.zip us⟩ = pure (ps.zip (pick idx us))) : KB K fd ps ks 0 idx := fun s us ws _ hu hw => by
  have e : us = [] := List.length_eq_zero_iff.mp hu
  subst e
  rw [List.nil_append]
  exact bindsTo_of (h ws hw)
theorem ok_D {S : Spec} (F : Df K mg x st c) (b : Bnd x st ps) (sc : FnScope N ps (defScope st)) (hS : ∀ ds P n, S ds P n → ds.length = ps.length)
    (hb : ∀ (A : Around) (outer : List Env) (s : Shared) (H : Hp) (E : XK) (wl : Option Addr) (f : Addr), Room k (A.deeper (envOfC x (defScope st) s.heap.objs.size f (.ref c))) → JSs ⟨K, Tb⟩ wl (cxOf CX0 P w K mg base N x (defScope st) f (.ref c) A outer s H E).nox (defBody st) m)
    (hm : ∀ ds Pd n, S ds Pd n → m { nx := fun _ => Pd .non, rt := Pd } (startS N ds) n) : Ok P w K mg base ⟨K, Tb⟩ x ps (k + 1) S := by
  obtain ⟨f, oc, od, kV, doc, pm, an, ct, osl, lk, hcd, kp, hmg⟩ := F.ex
  refine ⟨f, _, ?_, hmg, kp, .all fun us hl => b.pos kV doc pm an (.ref c) ct us hl, fun p hp => kb_of fun us hl => b.kw kV doc pm an (.ref c) ct p hp us hl⟩
  refine fn_of lk hcd sc (fun vs H Q E h => ?_) fun A outer s H vs Q E hr h => ?_
  · obtain ⟨wl, F, ds, Pd, g0, r, hs, f⟩ := h
    rw [← r.length]; exact hS ds Pd _ hs
  · obtain ⟨wl, F, ds, Pd, g0, r, hs, fin⟩ := h
    refine ⟨_, (hb A outer s H E wl f hr F H F).nox, F, _, _, g0, ⟨Step.refl g0, Ex.refl F, rep_start r, fun i xs a h => (startS_own h).elim⟩, hm ds Pd _ hs, fun l' σ' F' H' p a1 => fin _ _ F' H' p a1.s rep_non, fin, fun _ _ _ _ p => p.elim, fun _ _ _ _ p => p.elim, fun _ _ _ _ _ p => p.elim⟩
theorem ok_W {S : List D → (List D → Cr) → Cr} (F : Df K mg x st c) (b : Bnd x st ps) (sc : FnScope N ps (defScope st)) (hS : ∀ ds P n, S ds P n → ds.length = ps.length)
    (hb : ∀ (A : Around) (outer : List Env) (s : Shared) (H : Hp) (E : XK) (wl : Option Addr) (f : Addr), Room k (A.deeper (envOfC x (defScope st) s.heap.objs.size f (.ref c))) → JSs ⟨K, Tb⟩ wl (cxOf CX0 P w K mg base N x (defScope st) f (.ref c) A outer s H E).nox (defBody st) m)
    (hm : ∀ ds Pd n, S ds Pd n → m { nx := fun _ _ => False, rt := fun _ _ => False, rl := Pd } (startS N ds) n) : OkW P w K mg base ⟨K, Tb⟩ x ps (k + 1) S := by
  obtain ⟨f, oc, od, kV, doc, pm, an, ct, osl, lk, hcd, kp, hmg⟩ := F.ex
  refine ⟨f, _, ?_, hmg, kp, .all fun us hl => b.pos kV doc pm an (.ref c) ct us hl⟩
  refine fn_of lk hcd sc (fun vs H Q E h => ?_) fun A outer s H vs Q E hr h => ?_
  · obtain ⟨wl, F, ds, Pd, g0, r, hs, f⟩ := h
    rw [← r.length]; exact hS ds Pd _ hs
  · obtain ⟨wl, F, ds, Pd, g0, r, hs, fin⟩ := h
    refine ⟨_, (hb A outer s H E wl f hr F H F).nox, F, _, _, g0, ⟨Step.refl g0, Ex.refl F, rep_start r, fun i xs a h => (startS_own h).elim⟩, hm ds Pd _ hs, fun _ _ _ _ p => p.elim, fun _ _ _ _ p => p.elim, fun _ _ _ _ p => p.elim, fun _ _ _ _ p => p.elim, fun es us p F' H' pe s h0 f0 w0 t0 hp r => fin es us p F' H' pe s h0 f0 w0 t0 hp r⟩
end
section
variable {C : Ct} {w : Option Addr} {X : Cx} {x : Str} {ps : List Str} {j k : Nat} {S : Spec} {p pos : Pos} {e : Expr} {es : List Expr} {t : MA}
theorem jc (O : Ok X.prog X.w X.K X.mg X.base C x ps k S) (hr : Room j X.A) (ha : JA C w X (e :: es) t) (hk : k ≤ j := by decide) (hg : Gl X x := by rfl) (hdb : (x == ("__debug__" : Str)) = false := by decide) (he : starEach (e :: es) X.env = (false, eval e X.env) :: starEach es X.env := by rfl) (hpl : (backTo pos (starEach es X.env)).any (·.1) = false := by rfl) :
    JE C w X (.Call (.Name x p) (e :: es) [] pos) (mCall S t) := by
  obtain ⟨f, fd, h1, h2, h3, h4, _⟩ := O.ex
  exact je_call h1 (hr.le hk) hg h2 h3 h4 ha hdb he hpl
theorem jck {ks : List Str} {idx : List Nat} (O : Ok X.prog X.w X.K X.mg X.base C x ps k S) (hw : (ks, idx) ∈ kws ps) (hr : Room j X.A) {kws : List Keyword} {tk : MA} (ha : JK C w X kws tk) (hlen : ∀ l P c, tk l P c → tk l (fun ds c => ds.length = ks.length ∧ P ds c) c) (hk : k ≤ j := by decide) (hg : Gl X x := by rfl) (hall : (backToKw pos (keywordEach kws X.env)).all (·.1.isSome) = true := by rfl) (hks : (backToKw pos (keywordEach kws X.env)).filterMap (·.1) = ks := by rfl)
    (hdb : (x == ("__debug__" : Str)) = false := by decide) (hpl : ((backTo pos (starEach [] X.env)).any (·.1) || (backToKw pos (keywordEach kws X.env)).any (·.1.isNone)) = false := by rfl) :
    JE C w X (.Call (.Name x p) [] kws pos) (mCallK S idx mNil tk) := by
  obtain ⟨f, fd, h1, h2, h3, h4, h5⟩ := O.ex
  exact je_callK0 h1 (hr.le hk) hg h2 h3 (h5 _ hw) ha hlen hall hks hdb hpl
theorem jcw {x1 x2 : Str} {ps1 ps2 : List Str} {k1 k2 : Nat} {p1 pos1 p2 pos2 : Pos} {S1 : List D → (List D → Cr) → Cr} {S2 : Spec} (O1 : OkW X.prog X.w X.K X.mg X.base C x1 ps1 k1 S1) (O2 : Ok X.prog X.w X.K X.mg X.base C x2 ps2 k2 S2) (hr : Room j X.A) (ha : JA C none X (e :: es) t) (hk1 : k1 ≤ j := by decide) (hk2 : k2 ≤ j := by decide) (hg1 : Gl X x1 := by rfl) (hg2 : Gl X x2 := by rfl)
    (hdb1 : (x1 == ("__debug__" : Str)) = false := by decide) (hdb2 : (x2 == ("__debug__" : Str)) = false := by decide)
    (he : starEach (e :: es) X.env = (false, eval e X.env) :: starEach es X.env := by rfl) (hpl : (backTo pos1 (starEach es X.env)).any (·.1) = false := by rfl)
    (he2 : starEach [.Call (.Name x1 p1) (e :: es) [] pos1] X.env = (false, eval (.Call (.Name x1 p1) (e :: es) [] pos1) X.env) :: starEach [] X.env := by rfl) (hpl2 : (backTo pos2 (starEach [] X.env)).any (·.1) = false := by rfl) :
    JE C none X (.Call (.Name x2 p2) [.Call (.Name x1 p1) (e :: es) [] pos1] [] pos2) (mWell S1 S2 t) := by
  obtain ⟨f1, fd1, h1, h2, h3, h4⟩ := O1.ex
  obtain ⟨f2, fd2, q1, q2, q3, q4, _⟩ := O2.ex
  exact je_well h1 (hr.le hk1) hg1 h2 h3 h4 ha q1 (hr.le hk2) hg2 q2 q3 q4 hdb1 hdb2 he hpl he2 hpl2
theorem jts_nil : PTs X [] (tMT C w mYes) := ⟨fun pins s σ H Q I ⟨F, l, P, g0, r, h, f⟩ => pts_nil.run pins s σ H Q I (f _ F H h (Step.refl g0))⟩
end
structure Bn (mg : Str → Option Value) : Prop where
  isinstance : mg "isinstance" = none
  int : mg "int" = none
  bool : mg "bool" = none
  tuple : mg "tuple" = none
  list : mg "list" = none
  str : mg "str" = none
  dict : mg "dict" = none
  len : mg "len" = none
  abs : mg "abs" = none
  all : mg "all" = none
  any : mg "any" = none
  max : mg "max" = none
  min : mg "min" = none
  repr : mg "repr" = none
  range : mg "range" = none
  divmod : mg "divmod" = none
  zip : mg "zip" = none
  enumerate : mg "enumerate" = none
namespace Bt'
theorem isinstance : bootBuiltins "isinstance" = some (.builtin "isinstance") := by decide +kernel
theorem int : bootBuiltins "int" = some (.type "int") := by decide +kernel
theorem bool : bootBuiltins "bool" = some (.type "bool") := by decide +kernel
theorem tuple : bootBuiltins "tuple" = some (.type "tuple") := by decide +kernel
theorem list : bootBuiltins "list" = some (.type "list") := by decide +kernel
theorem str : bootBuiltins "str" = some (.type "str") := by decide +kernel
theorem dict : bootBuiltins "dict" = some (.type "dict") := by decide +kernel
theorem len : bootBuiltins "len" = some (.builtin "len") := by decide +kernel
theorem abs : bootBuiltins "abs" = some (.builtin "abs") := by decide +kernel
theorem all : bootBuiltins "all" = some (.builtin "all") := by decide +kernel
theorem any : bootBuiltins "any" = some (.builtin "any") := by decide +kernel
theorem max : bootBuiltins "max" = some (.builtin "max") := by decide +kernel
theorem min : bootBuiltins "min" = some (.builtin "min") := by decide +kernel
theorem repr : bootBuiltins "repr" = some (.builtin "repr") := by decide +kernel
theorem range : bootBuiltins "range" = some (.type "range") := by decide +kernel
theorem divmod : bootBuiltins "divmod" = some (.builtin "divmod") := by decide +kernel
end Bt'
section
variable {C : Ct} {w : Option Addr} {X : Cx} {x : Str} {pos : Pos}
/-- the name of a type of Python's own -/
theorem je_ty {n : String} (hg : Gl X x) (hm : X.mg x = none) (hb : bootBuiltins x = some (.type n)) (hn : x ≠ "__name__" := by decide) (hdb : (x == ("__debug__" : Str)) = false := by decide) : JE C w X (.Name x pos) (mC (.ty n)) := je_c (pe_bltn hg hm hb (show RelV (.ty n) (.type n) from rfl) hn hdb) fun F => by unfold Rep; rfl
theorem jg {i : Nat} (hN : X.N.Nodup) (hi : X.N[i]? = some x := by rfl) (hx : Loc X.env.scope x := by first | exact Or.inl rfl | exact Or.inr rfl) (hf : X.fn x = true ∨ X.env.scope.names.lookup x = some .local := by first | exact .inl rfl | exact .inr rfl) : JG C w X (.Name x pos) [i] (gSet i) := jg_of (pg_name hN hi hx hf)
end
end DJ

set_option Elab.async false
set_option linter.all false
set_option maxRecDepth 100000
set_option maxHeartbeats 1000000
/-! repr; defs that ask that no repr is under way; the end -/
namespace DJ
open PySem PySem.Spec PyProof.Rows L2 GxR GX

/-! ### repr -/
def gRepr (d : D) (P : D → Cr) : Cr := fun c => (d.plain = true ∧ (∃ xs, d = .tup xs ∨ d = .lst xs) ∧ d.py.showable = true ∧ d.py.hasDict = false ∧ d.py.depth ≤ 50 ∧ d.py.shown.length ≤ sizeLine) ∧ P (.str d.py.shown) c
section
variable {C : Ct} {w : Option Addr} {X : Cx} {F : Fz} {H : Hp}
theorem d_repr (hK : C.K = X.K) (hg : X.A.guards = some []) (hu : X.A.units + 64 < cLine) : CallR X (.builtin "repr") (rC C w (g1 gRepr)) := by
  intro pins s σ H xs us Q I r ⟨F, ds, P, g0, rl, hq, f⟩
  obtain ⟨d, rfl, ⟨hp, hr, hs, hd, hz, hl⟩, q⟩ := g1_inv hq
  obtain ⟨v, rfl, rv⟩ := repL1 rl
  obtain ⟨u, rfl, ru⟩ : ∃ u, us = [u] ∧ RelV v u := by
    cases r with
    | cons h t => cases t; exact ⟨_, rfl, h⟩
  obtain ⟨a, ea⟩ : ∃ a, v = .ref a := by
    obtain ⟨xs, rfl | rfl⟩ := hr
    · obtain ⟨a, _, e, _⟩ := rep_tup' rv; exact ⟨a, e⟩
    · obtain ⟨a, _, e, _⟩ := rep_lst' rv; exact ⟨a, e⟩
  subst ea
  obtain rfl : u = Value.ref a := ru
  obtain ⟨as, rd⟩ := Dp.reads I d.py (.ref a) (.ref a) (rep_dp hK g0 hp rv) rfl
  refine repr_of_reads' rd hs (fun h' => by rw [hd] at h'; cases h') hg (by omega) (fun _ _ e => e) (fun h' u' tk hk => ?_) hl
  exact ⟨.str d.py.shown, H, I.kept hk, ⟨u', rfl⟩, f.here g0 q rep_str⟩
theorem je_dic0 {pos : Pos} : JE C w X (.Dict [] [] pos) (mC (.dic [] [])) := PE.imp pe_dnewK fun σ H Q ⟨F, l, P, g0, r, h, f⟩ p hp => by
  have s2 := Step.new (o := .dK []) g0 hp
  refine f.at s2 h ?_
  unfold Rep
  exact ⟨p, [], [], rfl, upd_same, rfl, rfl, RepL.nil⟩
end
/-! ### scopes of generator expressions, by a look -/
def gblkC (N : List Str) (sc scope : Scope) (own : List (Str × Nat)) : Bool :=
  (decide (scope.kind = .function) && !scope.isCoroutine) && ((scope.names.all fun y => !decide (y.2 = .cell)) && (decide (scope.names.lookup (".0" : Str) = some NameKind.local) && ((scope.names.all fun y => decide (scope.names.lookup y.1 = some y.2)) && ((own.all fun p => decide (N[p.2]? = some p.1)) &&
    ((scope.names.all fun y => !decide (y.2 = .free) || (decide (sc.names.lookup y.1 = some .cell) || decide (sc.names.lookup y.1 = some .free))) && (scope.names.all fun y => !decide (y.2 = .local) || (decide (y.1 ∈ own.map (·.1)) || decide (y.1 ∉ N))))))))
theorem gblk_by {N : List Str} {sc scope : Scope} {own : List (Str × Nat)} (h : gblkC N sc scope own = true) : GBlk N sc scope own := by
  unfold gblkC at h
  simp only [Bool.and_eq_true, Bool.or_eq_true, Bool.not_eq_true', List.all_eq_true, decide_eq_true_eq, decide_eq_false_iff_not] at h
  obtain ⟨⟨h1, h2⟩, h3, h4, h5, h6, h7, h8⟩ := h
  refine ⟨h1, h2, h3, h4, h5, h6, fun y hy e => ?_, fun y hy e => ?_⟩
  · rcases h7 y hy with z | z
    · exact absurd e z
    · exact z
  · rcases h8 y hy with z | z
    · exact absurd e z
    · exact z
/-! ### keywords: how many -/
theorem len1 {m : ME} : ∀ (l : Sl) (P : List D → Cr) (c : Nat), mCons m mNil l P c → mCons m mNil l (fun ds c => ds.length = 1 ∧ P ds c) c := fun l P c h => by
  unfold mCons mNil at h ⊢
  have e : (fun x => P [x]) = fun x c => ([x] : List D).length = 1 ∧ P [x] c := funext fun x => funext fun c => propext ⟨fun h => ⟨rfl, h⟩, fun h => h.2⟩
  rw [← e]; exact h
theorem len2 {m m2 : ME} : ∀ (l : Sl) (P : List D → Cr) (c : Nat), mCons m (mCons m2 mNil) l P c → mCons m (mCons m2 mNil) l (fun ds c => ds.length = 2 ∧ P ds c) c := fun l P c h => by
  unfold mCons mNil at h ⊢
  have e : (fun x => m2 l fun y => P [x, y]) = fun x => m2 l fun y c => ([x, y] : List D).length = 2 ∧ P [x, y] c := funext fun x => by
    congr 1; funext y; funext c; exact propext ⟨fun h => ⟨rfl, h⟩, fun h => h.2⟩
  rw [← e]; exact h
theorem len3 {m m2 m3 : ME} : ∀ (l : Sl) (P : List D → Cr) (c : Nat), mCons m (mCons m2 (mCons m3 mNil)) l P c → mCons m (mCons m2 (mCons m3 mNil)) l (fun ds c => ds.length = 3 ∧ P ds c) c := fun l P c h => by
  unfold mCons mNil at h ⊢
  have e : (fun x => m2 l fun y => m3 l fun z => P [x, y, z]) = fun x => m2 l fun y => m3 l fun z c => ([x, y, z] : List D).length = 3 ∧ P [x, y, z] c := funext fun x => by
    congr 1; funext y; congr 1; funext z; funext c; exact propext ⟨fun h => ⟨rfl, h⟩, fun h => h.2⟩
  rw [← e]; exact h
/-! ### defs that ask that no repr is under way -/
def FnG (P : Program) (w : World) (K : PySem.W.Frag) (mg : Str → Option Value) (base : Heap) (k : Nat) (f : Addr) (fd : FuncData) (ps : List Str) (sp : Sp) : Prop :=
  ∀ (A : Around) (fr : List Env) (s : Shared) (H : Hp) (args : Args) (us : List Value) (vs : List V) (Q : VK), A.guards = some [] → Room k A → Env0 P w K mg base A fr s H → BindsTo s fd args (ps.zip us) → Vals vs us → sp vs H Q E0 →
    codeAny (model P w) A (.call (.ref f) args) (CR CX0 fr P w H s Q E0) s
structure OkG (P : Program) (w : World) (K : PySem.W.Frag) (mg : Str → Option Value) (base : Heap) (C : Ct) (x : Str) (ps : List Str) (k : Nat) (S : Spec) : Prop where
  ex : ∃ (f : Addr) (fd : FuncData), FnG P w K mg base k f fd ps (spD C S) ∧ mg x = some (.ref f) ∧ PySem.W.keepIn K (.ref f) = true ∧ Binds K fd ps []
section
variable {P : Program} {w : World} {K : PySem.W.Frag} {mg : Str → Option Value} {base : Heap} {Tb : List Addr} {x : Str} {st : Stmt} {N ps : List Str} {k : Nat} {c : Addr} {m : MS}
theorem fnG_of {f : Addr} {name qual : Str} {params : Arguments} {body : List Stmt} {scope : Scope} {dV kV doc pm cdv ct oc : Value} {an od : Option Addr} {osl : Array (Option Value)} {sp : Sp}
    (there : K.lookup f = some ⟨oc, od, .func (PySem.W.fnOf name qual params body scope dV kV doc pm an cdv ct), osl⟩) (code : PySem.W.codeIn K cdv qual = true) (sc : FnScope N ps scope) (count : ∀ vs H Q E, sp vs H Q E → vs.length = ps.length)
    (inside : ∀ (A : Around) (fr : List Env) (s : Shared) (H : Hp) (vs : List V) (Q : VK), A.guards = some [] → Room k (A.deeper (envOfC qual scope s.heap.objs.size f cdv)) → sp vs H Q E0 →
      ∃ t, PSs (cxOf CX0 P w K mg base N qual scope f cdv A fr s H E0) body t ∧ t { nx := fun _ H' => Q .non H', rt := Q } (start N vs) H) :
    FnG P w K mg base (k + 1) f (PySem.W.fnOf name qual params body scope dV kV doc pm an cdv ct) ps sp := by
  intro A fr s H args us vs Q quiet room at0 bound rel wish
  have kept : ∀ b o, base.get? b = some o → s.heap.get? b = some o := fun b o e => (at0.bs b o e).1
  have KX : K.In s.heap := at0.mod.kin.keeps kept
  refine codeAny_call_function room.depth (KX _ _ there) rfl sc.co sc.gen rfl (PySem.W.codeRec_of KX code) (bound _ _ _ _ ?_)
  refine wpAny_newFunctionEnv_cells sc.kind (fun y hy => ?_) fun env he s1 made => ?_
  · exact (sc.par y.1 (List.of_mem_zip (show (y.1, y.2) ∈ _ from hy)).1).imp id fun q => ⟨q, PySem.W.cellsFrom_some _ _ _ (.inl q)⟩
  subst he
  refine ⟨(at0.mod.nolimit.keeps kept).keeps made.toInCall.keep, codeAny_func ?_⟩
  obtain ⟨t, der, goal⟩ := inside A fr s H vs Q quiet (room.deeper _) wish
  refine wpAny_mono (der.run [] s1 (start N vs) H _ (inv_start sc room.hd at0 (count _ _ _ _ wish) rel made) goal) (fun fl s' ended => ?_) fun e s' bad => bad
  cases fl with
  | ret u =>
    obtain ⟨v, σ', H', J, rv, q⟩ := ended
    exact ⟨v, H', J.os, J.bare, J.base, J.hok, rv, q⟩
  | next =>
    obtain ⟨σ', H', J, q⟩ := ended
    exact ⟨.non, H', J.os, J.bare, J.base, J.hok, rfl, q⟩
  | brk => exact ended.elim fun _ z => z.elim fun _ z => False.elim z.2
  | cont => exact ended.elim fun _ z => z.elim fun _ z => False.elim z.2
theorem ok_G {S : Spec} (F : Df K mg x st c) (b : ∀ (kV doc pm : Value) (an : Option Addr) (cdv ct : Value) (us : List Value), us.length = ps.length → bindArgs (PySem.W.fnOf x x (defArgs st) (defBody st) (defScope st) .none kV doc pm an cdv ct) ⟨us, []⟩ = pure (ps.zip us)) (sc : FnScope N ps (defScope st)) (hS : ∀ ds P n, S ds P n → ds.length = ps.length)
    (hb : ∀ (A : Around) (outer : List Env) (s : Shared) (H : Hp) (wl : Option Addr) (f : Addr), A.guards = some [] → Room k (A.deeper (envOfC x (defScope st) s.heap.objs.size f (.ref c))) → JSs ⟨K, Tb⟩ wl (cxOf CX0 P w K mg base N x (defScope st) f (.ref c) A outer s H E0).nox (defBody st) m)
    (hm : ∀ ds Pd n, S ds Pd n → m { nx := fun _ => Pd .non, rt := Pd } (startS N ds) n) : OkG P w K mg base ⟨K, Tb⟩ x ps (k + 1) S := by
  obtain ⟨f, oc, od, kV, doc, pm, an, ct, osl, lk, hcd, kp, hmg⟩ := F.ex
  refine ⟨f, _, ?_, hmg, kp, .all fun us hl => b kV doc pm an (.ref c) ct us hl⟩
  refine fnG_of lk hcd sc (fun vs H Q E h => ?_) fun A outer s H vs Q quiet hr h => ?_
  · obtain ⟨wl, F, ds, Pd, g0, r, hs, f⟩ := h
    rw [← r.length]; exact hS ds Pd _ hs
  · obtain ⟨wl, F, ds, Pd, g0, r, hs, fin⟩ := h
    refine ⟨_, (hb A outer s H wl f quiet hr F H F).nox, F, _, _, g0, ⟨Step.refl g0, Ex.refl F, rep_start r, fun i xs a h => (startS_own h).elim⟩, hm ds Pd _ hs, fun l' σ' F' H' p a1 => fin _ _ F' H' p a1.s rep_non, fin, fun _ _ _ _ p => p.elim, fun _ _ _ _ p => p.elim, fun _ _ _ _ _ p => p.elim⟩
end
section
variable {C : Ct} {w : Option Addr} {X : Cx} {x : Str} {ps : List Str} {j k : Nat} {S : Spec} {p pos : Pos} {e : Expr} {es : List Expr} {t : MA}
theorem runG {pins : List (Addr × Obj)} {σ : L2.St} {H : Hp} {s : Shared} {Q : VK} {us : List Value} {vs : List V} {f : Addr} {fd : FuncData} {sp : Sp} (G : FnG X.prog X.w X.K X.mg X.base k f fd ps sp) (hq : X.A.guards = some []) (hr : Room k X.A) (hb : Binds X.K fd ps []) (hl : us.length = ps.length)
    (I : Inv X pins σ H s) (r : Vals vs us) (h : sp vs H Q E0) : wpAny (model X.prog X.w) X.A (call (.ref f) us []) (EP X pins σ Q) X.xe s := by
  have hb2 := hb s us I.kIn (by rw [List.append_nil]; exact hl)
  rw [List.append_nil] at hb2
  refine wpAny_call (codeAny_mono (G X.A X.stack s H ⟨us, []⟩ us vs Q hq hr I.env0 hb2 r h) fun r s' hq => ?_)
  cases r with
  | error e => exact hq.elim
  | ok fl =>
    cases fl with
    | ret u => exact I.after hq
    | next => exact False.elim hq
    | brk => exact False.elim hq
    | cont => exact False.elim hq
theorem je_callG {f : Addr} {fd : FuncData} (G : FnG X.prog X.w X.K X.mg X.base k f fd ps (spD C S)) (hS : ∀ ds P n, S ds P n → ds.length = ps.length) (hq : X.A.guards = some []) (hr : Room k X.A) (hg : Gl X x) (hm : X.mg x = some (.ref f)) (hk : PySem.W.keepIn X.K (.ref f) = true) (hb : Binds X.K fd ps [])
    (ha : JA C w X (e :: es) t) (hdb : (x == ("__debug__" : Str)) = false := by decide) (he : starEach (e :: es) X.env = (false, eval e X.env) :: starEach es X.env := by rfl) (hpl : (backTo pos (starEach es X.env)).any (·.1) = false := by rfl) :
    JE C w X (.Call (.Name x p) (e :: es) [] pos) (mCall S t) := by
  refine ⟨fun pins s σ H Q I h => ?_⟩
  refine wpAny_Call_Name_kw (ld_glob I hg hm ?_ hdb)
  refine PySem.W.callWith_K (first := []) (h₀ := X.base) I.ok.mod.kin hk ?_ he hpl
  obtain ⟨F, l, P, g0, r, h, f⟩ := h
  refine thn (ha.run pos pins s σ H (fun vs H1 => vs.length = ps.length ∧ spD C S vs H1 Q E0) I ⟨F, l, _, g0, r, h, fun ds vs F1 H1 h1 s1 r1 => ⟨by rw [← r1.length]; exact hS ds P _ h1, w, F1, ds, P, s1.gd, r1, h1, f.go g0 s1⟩⟩) fun us s2 ⟨vs, H2, I2, rv, hl, q2⟩ => ⟨I2.kIn, ?_⟩
  exact runG G hq hr hb (by show us.length = ps.length; rw [← rv.length]; exact hl) I2 rv q2
theorem jcg (O : OkG X.prog X.w X.K X.mg X.base C x ps k S) (hS : ∀ ds P n, S ds P n → ds.length = ps.length) (hq : X.A.guards = some []) (hr : Room j X.A) (ha : JA C w X (e :: es) t) (hk : k ≤ j := by decide) (hg : Gl X x := by rfl) (hdb : (x == ("__debug__" : Str)) = false := by decide) (he : starEach (e :: es) X.env = (false, eval e X.env) :: starEach es X.env := by rfl) (hpl : (backTo pos (starEach es X.env)).any (·.1) = false := by rfl) :
    JE C w X (.Call (.Name x p) (e :: es) [] pos) (mCall S t) := by
  obtain ⟨f, fd, h1, h2, h3, h4⟩ := O.ex
  exact je_callG h1 hS hq (hr.le hk) hg h2 h3 h4 ha hdb he hpl
/-- f(g(..)): g's new list the well of f's draws; f asks that no repr is under way -/
theorem je_wellG {x1 x2 : Str} {p1 pos1 p2 pos2 : Pos} {k1 k2 : Nat} {f1 f2 : Addr} {fd1 fd2 : FuncData} {ps1 ps2 : List Str} {S1 : List D → (List D → Cr) → Cr} {S2 : Spec}
    (G1 : FnOk X.prog X.w X.K X.mg X.base CX0 k1 f1 fd1 ps1 (spW C S1)) (hr1 : Room k1 X.A) (hg1 : Gl X x1) (hm1 : X.mg x1 = some (.ref f1)) (hk1 : PySem.W.keepIn X.K (.ref f1) = true) (hb1 : Binds X.K fd1 ps1 []) (ha : JA C none X (e :: es) t)
    (G2 : FnG X.prog X.w X.K X.mg X.base k2 f2 fd2 ps2 (spD C S2)) (hS2 : ps2.length = 1) (hq : X.A.guards = some []) (hr2 : Room k2 X.A) (hg2 : Gl X x2) (hm2 : X.mg x2 = some (.ref f2)) (hk2 : PySem.W.keepIn X.K (.ref f2) = true) (hb2 : Binds X.K fd2 ps2 [])
    (hdb1 : (x1 == ("__debug__" : Str)) = false := by decide) (hdb2 : (x2 == ("__debug__" : Str)) = false := by decide)
    (he : starEach (e :: es) X.env = (false, eval e X.env) :: starEach es X.env := by rfl) (hpl : (backTo pos1 (starEach es X.env)).any (·.1) = false := by rfl)
    (he2 : starEach [.Call (.Name x1 p1) (e :: es) [] pos1] X.env = (false, eval (.Call (.Name x1 p1) (e :: es) [] pos1) X.env) :: starEach [] X.env := by rfl) (hpl2 : (backTo pos2 (starEach [] X.env)).any (·.1) = false := by rfl) :
    JE C none X (.Call (.Name x2 p2) [.Call (.Name x1 p1) (e :: es) [] pos1] [] pos2) (mWell S1 S2 t) := by
  refine ⟨fun pins s σ H Q I h => ?_⟩
  refine wpAny_Call_Name_kw (ld_glob I hg2 hm2 ?_ hdb2)
  refine PySem.W.callWith_K (first := []) (h₀ := X.base) I.ok.mod.kin hk2 ?_ he2 hpl2
  have inner : PA X [.Call (.Name x1 p1) (e :: es) [] pos1] _ := pa_cons (pe_call G1 hr1 hg1 hm1 hk1 hb1 .nil pass0 ha hdb1 he hpl) pa_nil he2
  obtain ⟨F, l, P, g0, r, h, f⟩ := h
  refine thn (inner.run pos2 pins s σ H (fun vs H1 => vs.length = ps2.length ∧ spD C S2 vs H1 Q E0) I ?_) fun us s2 ⟨vs, H2, I2, rv, hl, q2⟩ => ⟨I2.kIn, runG G2 hq hr2 hb2 (by show us.length = ps2.length; rw [← rv.length]; exact hl) I2 rv q2⟩
  show tMA C none t σ H fun vs H1 => spW C S1 (vs ++ []) H1 (fun v H2 => [v].length = ps2.length ∧ spD C S2 [v] H2 Q E0) E0
  refine ⟨F, l, _, g0, r, h, fun ds vs F1 H1 h1 s1 r1 => ?_⟩
  show spW C S1 (vs ++ []) H1 (fun v H2 => [v].length = ps2.length ∧ spD C S2 [v] H2 Q E0) E0
  rw [List.append_nil]
  refine ⟨none, F1, ds, _, s1.gd, r1, h1, fun es us p F2 H2 ⟨x, y, z, e1, hz, hy, q⟩ s2 hp fp wp tp e2 re => ⟨hS2.symm, ?_⟩⟩
  subst e1
  have eu : us = [.int x, .int y, .int z] := rep_ints (ns := [x, y, z]) re
  subst eu
  have s12 := s1.trans g0 s2
  have g2 : Gd C (some p) ⟨F2.f, z.toNat⟩ H2 := ⟨s2.gd.sub, fun a e => by cases e; exact ⟨fp, tp, x, y, z, e2, hy, hz, by show z ≤ ((z.toNat : Nat) : Int); omega⟩, s2.gd.tabs⟩
  refine ⟨some p, ⟨F2.f, z.toNat⟩, [.well], _, g2, RepL.cons (by unfold Rep; exact ⟨p, rfl, rfl⟩) RepL.nil, q, fun d v F3 H3 ⟨b, e3, q3⟩ s3 r3 => ?_⟩
  subst e3
  have fp3 : F3 p = none := s3.nf p (by rw [e2]; simp) fp
  have hH : H p = none := by
    cases e : H p with
    | none => rfl
    | some o => exact absurd hp (s1.there g0 (by rw [e]; simp))
  refine f _ v ⟨F3.f, F2.n⟩ H3 q3 ⟨⟨s3.gd.sub, (fun a e => by cases e), s3.gd.tabs⟩, s12.ex.trans s3.ex, fun a o e _ ht => ?_, fun a e1 e3 => s3.nf a (s12.there g0 e1) (s12.nf a e1 e3)⟩ (by rw [rep_bl' r3]; exact rep_bl)
  have ne : a ≠ p := fun z => by rw [z, hH] at e; cases e
  exact s3.kp a o (s12.kp a o e (by simp) ht) (fun z => ne (Option.some.inj z).symm) ht
theorem jcwG {x1 x2 : Str} {ps1 ps2 : List Str} {k1 k2 : Nat} {p1 pos1 p2 pos2 : Pos} {S1 : List D → (List D → Cr) → Cr} {S2 : Spec} (O1 : OkW X.prog X.w X.K X.mg X.base C x1 ps1 k1 S1) (O2 : OkG X.prog X.w X.K X.mg X.base C x2 ps2 k2 S2) (hq : X.A.guards = some []) (hr : Room j X.A) (ha : JA C none X (e :: es) t) (hS2 : ps2.length = 1 := by rfl) (hk1 : k1 ≤ j := by decide) (hk2 : k2 ≤ j := by decide) (hg1 : Gl X x1 := by rfl) (hg2 : Gl X x2 := by rfl)
    (hdb1 : (x1 == ("__debug__" : Str)) = false := by decide) (hdb2 : (x2 == ("__debug__" : Str)) = false := by decide)
    (he : starEach (e :: es) X.env = (false, eval e X.env) :: starEach es X.env := by rfl) (hpl : (backTo pos1 (starEach es X.env)).any (·.1) = false := by rfl)
    (he2 : starEach [.Call (.Name x1 p1) (e :: es) [] pos1] X.env = (false, eval (.Call (.Name x1 p1) (e :: es) [] pos1) X.env) :: starEach [] X.env := by rfl) (hpl2 : (backTo pos2 (starEach [] X.env)).any (·.1) = false := by rfl) :
    JE C none X (.Call (.Name x2 p2) [.Call (.Name x1 p1) (e :: es) [] pos1] [] pos2) (mWell S1 S2 t) := by
  obtain ⟨f1, fd1, h1, h2, h3, h4⟩ := O1.ex
  obtain ⟨f2, fd2, q1, q2, q3, q4⟩ := O2.ex
  exact je_wellG h1 (hr.le hk1) hg1 h2 h3 h4 ha q1 hS2 hq (hr.le hk2) hg2 q2 q3 q4 hdb1 hdb2 he hpl he2 hpl2
end
end DJ

set_option Elab.async false
set_option linter.all false
set_option maxRecDepth 100000
set_option maxHeartbeats 1000000
/-! the end of a law -/
namespace DJ
open PySem PySem.Spec PyProof.Rows L2 GxR GX

/-- the promise of a def that is handed no well -/
def spN (C : Ct) (S : Spec) : Sp := fun vs H Q _ => ∃ F ds P, Gd C none F H ∧ RepL C none F ds vs ∧ S ds P F.n ∧ Fin C none F H P Q
abbrev NoTab : Obj := { cls := .none, data := .fields #[] }
abbrev scrObj (vs : List Value) : Obj := { cls := .type "list", data := .seq vs.toArray }
theorem repL_ints {C : Ct} {w : Option Addr} {F : Hp} : ∀ ns : List Int, RepL C w F (ns.map D.int) (ns.map V.int)
  | [] => RepL.nil
  | _ :: ns => RepL.cons rep_int (repL_ints ns)
theorem go_law {P : Program} {w : World} {K : PySem.W.Frag} {mg mb : Str → Option Value} {k : Nat} {fa a : Addr} {cs : List (Addr × Addr)} {fd : FuncData} {x : Str} {S : Spec} {s₁ : Shared} {vs : List Value} {ns : List Int}
    (inK : K.In s₁.heap) (glob : s₁.heap.Ns mainGlobals mg) (blt : s₁.heap.Ns builtinsNs mb) (bltB : ∀ x : Str, x ≠ "__name__" → mb x = bootBuiltins x) (free : s₁.heap.NoLimit) (gens : s₁.gens = #[])
    (empty : ∀ p ∈ cs, s₁.heap.get? p.2 = some NoTab) (out : ∀ p ∈ cs, K.lookup p.2 = none) (heads : ∀ p ∈ cs, PySem.W.CodeHd s₁.heap p.1 p.2)
    (mod : ∃ (bm : Addr) (ob : Obj), mg "__builtins__" = some (.ref bm) ∧ bm ≠ builtinsNs ∧ s₁.heap.get? bm = some ob ∧ ob.cls = .type "module" ∧ ob.dict = some builtinsNs ∧ ob.data = .plain)
    (scr : s₁.heap.get? a = some (scrObj vs)) (isI : IntsAre vs ns) (few : ns.length ≤ sizeLine) (room : Room k callerA)
    (fn : ∀ base : Heap, K.In base → base.Ns mainGlobals mg → (∀ p ∈ cs, TabB base mg p.1 p.2) → FnG P w K mg base k fa fd [x] (spN ⟨K, cs.map (·.2)⟩ S))
    (bind : ∀ (s : Shared) (u : Value), BindsTo s fd ⟨[u], []⟩ [(x, u)]) (wish : S [.scr (ns.map .int)] (fun d _ => d = .bl true) 0) :
    codeAny (model P w) callerA (.call (.ref fa) ⟨[.ref a], []⟩) (fun r s' => r = .ok (.ret (.bool true)) ∧ OldK s₁.heap s'.heap ∧ s'.os = s₁.os ∧ AllBare s'.gens) s₁ := by
  have rv := vals_ints isI
  have len := isI.length
  let Ts := cs.map (·.2)
  have tabOf : ∀ b ∈ Ts, s₁.heap.get? b = some NoTab ∧ K.lookup b = none ∧ ∃ p ∈ cs, p.2 = b := fun b hb => by
    obtain ⟨p, hp, rfl⟩ := List.mem_map.mp hb
    exact ⟨empty p hp, out p hp, p, hp, rfl⟩
  have aNot : a ∉ Ts := fun z => by
    have e := (tabOf a z).1
    rw [scr] at e
    cases congrArg Obj.data (Option.some.inj e)
  -- what is known of the script
  obtain ⟨F, F1, F2⟩ : ∃ F : Hp, (∀ b u, F b = some u → b = a ∧ K.lookup a = none ∧ u = .frz (scrObj vs) (.lst (ns.map V.int))) ∧ SqL K F a (ns.map V.int) := by
    cases hk : K.lookup a with
    | none =>
      refine ⟨fun b => if b = a then some (.frz (scrObj vs) (.lst (ns.map V.int))) else none, fun b u e => ?_, .inl (.inr ⟨scrObj vs, if_pos rfl⟩)⟩
      have e : (if b = a then some (HO.frz (scrObj vs) (.lst (ns.map V.int))) else none) = some u := e
      by_cases hb : b = a
      · rw [if_pos hb] at e
        exact ⟨hb, rfl, (Option.some.inj e).symm⟩
      · rw [if_neg hb] at e; cases e
    | some o =>
      have e := inK a o hk
      rw [scr] at e
      have e2 : o = scrObj vs := (Option.some.inj e).symm
      subst e2
      exact ⟨fun _ => none, (fun b u e => by cases e), .inr ⟨_, vs.toArray, _, hk, rfl, rfl, rfl, by rw [List.size_toArray, len]; exact few, by simpa using rv⟩⟩
  let H : Hp := fun b => if b ∈ Ts then some (.tbl #[]) else F b
  have Ht : ∀ b ∈ Ts, H b = some (.tbl #[]) := fun b hb => if_pos hb
  have Hf : ∀ b, b ∉ Ts → H b = F b := fun b hb => if_neg hb
  have Hof : ∀ b u, H b = some u → (b ∈ Ts ∧ u = .tbl #[]) ∨ (b = a ∧ K.lookup a = none ∧ u = .frz (scrObj vs) (.lst (ns.map V.int))) := fun b u e => by
    by_cases hb : b ∈ Ts
    · rw [Ht b hb] at e
      exact .inl ⟨hb, (Option.some.inj e).symm⟩
    · rw [Hf b hb] at e
      exact .inr (F1 b u e)
  have hok : HOk P w H s₁.heap := fun b u e => by
    rcases Hof b u e with ⟨hb, rfl⟩ | ⟨rfl, _, rfl⟩
    · exact (tabOf b hb).1
    · exact ⟨scr, by rw [List.length_map]; exact few, vs, _, rv, scr⟩
  have gd : Gd ⟨K, Ts⟩ none ⟨F, 0⟩ H := ⟨fun b u e => by
      obtain ⟨rfl, _⟩ := F1 b u e
      rw [Hf b aNot]; exact e, (fun b e => by cases e), fun b hb => ⟨by
      show F b = none
      cases e : F b with
      | none => rfl
      | some u =>
        obtain ⟨rfl, _⟩ := F1 b u e
        exact absurd hb aNot, #[], Ht b hb, trivial⟩⟩
  -- what is not tracked stands in the base
  have plainly : ∀ {b : Addr} {o : Obj}, s₁.heap.get? b = some o → (∀ q n, o.data ≠ .seq q n) → o.data ≠ .fields #[] → H b = none := fun {b o} e n1 n2 => by
    cases q : H b with
    | none => rfl
    | some u =>
      rcases Hof b u q with ⟨hb, _⟩ | ⟨rfl, _⟩
      · rw [(tabOf b hb).1] at e
        rw [← Option.some.inj e] at n2
        exact absurd rfl n2
      · rw [scr] at e
        rw [← Option.some.inj e] at n1
        exact absurd rfl (n1 _ _)
  let base := hidT s₁.heap H
  have inB : ∀ {b : Addr} {o : Obj}, s₁.heap.get? b = some o → (∀ q n, o.data ≠ .seq q n) → o.data ≠ .fields #[] → base.get? b = some o := fun e n1 n2 => hidT_get e (plainly e n1 n2)
  have nsB : ∀ {b : Addr} {m : Str → Option Value}, s₁.heap.Ns b m → base.Ns b m := fun ⟨o, es, ep, e, d, r⟩ =>
    ⟨o, es, ep, inB e (fun q n z => by rw [d] at z; cases z) (fun z => by rw [d] at z; cases z), d, r⟩
  have KB : K.In base := fun b o e => hidT_get (inK b o e) (by
    cases q : H b with
    | none => rfl
    | some u =>
      rcases Hof b u q with ⟨hb, _⟩ | ⟨rfl, z, _⟩
      · rw [(tabOf b hb).2.1] at e; cases e
      · rw [z] at e; cases e)
  have M : L2.Mod K mg base := ⟨KB, nsB glob, ⟨mb, nsB blt, bltB⟩, free.elim fun mc z => ⟨mc, nsB z.1, z.2⟩⟩
  have TB : ∀ p ∈ cs, TabB base mg p.1 p.2 := fun p hp => by
    have noTab := empty p hp
    refine ⟨?_, ?_, fun z => ?_⟩
    · obtain ⟨o, us, file, tf, flags, tg, inF, text, tt, e1, r1, r2, r3, rest⟩ := heads p hp
      exact ⟨o, us, file, tf, flags, tg, inF, text, tt, inB e1 (fun q n z => by rw [r2] at z; cases z) (fun z => by rw [r2] at z; cases z; simp at r3), r1, r2, r3, rest⟩
    · obtain ⟨bm, ob, b1, b2, b3, b4, b5, b6⟩ := mod
      refine ⟨bm, ob, b1, b2, fun q => ?_, fun q => ?_, inB b3 (fun q n z => by rw [b6] at z; cases z) (fun z => by rw [b6] at z; cases z), b4, b5, b6⟩
      · obtain ⟨o, es, ep, e, hd, _⟩ := glob
        rw [q, e] at b3
        rw [← Option.some.inj b3, hd] at b6
        cases b6
      · rw [q, noTab] at b3
        rw [← Option.some.inj b3] at b6
        cases b6
    · obtain ⟨o, es, ep, e, hd, _⟩ := glob
      rw [z, noTab] at e
      rw [← Option.some.inj e] at hd
      cases hd
  have at0 : Env0 P w K mg base callerA [] s₁ H := ⟨rfl, M, fun b o e => of_hidT e, Nat.le_of_eq (hidT_size _ _), trivial, (fun b hb => by cases hb), hok, .of_eq gens⟩
  have wish2 : spN ⟨K, Ts⟩ S [.ref a] H (fun v _ => v = .bl true) E0 :=
    ⟨⟨F, 0⟩, [.scr (ns.map .int)], _, gd, RepL.cons (by unfold Rep; exact ⟨a, _, rfl, F2, repL_ints ns⟩) RepL.nil, wish, fun d v F' H' e _ r => by subst e; exact rep_bl' r⟩
  refine codeAny_mono (fn base KB (nsB glob) TB callerA [] s₁ H ⟨[.ref a], []⟩ [.ref a] [.ref a] _ rfl room at0 (bind s₁ (.ref a)) (.cons rfl .nil) wish2) fun r s' e => ?_
  cases r with
  | error e' => exact False.elim e
  | ok fl =>
    cases fl with
    | next => exact e.elim
    | brk => exact e.elim
    | cont => exact e.elim
    | ret u =>
      obtain ⟨v, H', os, bare, un, hok', ru, hv⟩ := e
      have hv : v = V.bl true := hv
      subst hv
      obtain rfl : u = Value.bool true := ru
      have grown : ∀ b ∈ Ts, ∃ more : Array Value, s'.heap.get? b = some { cls := .none, data := .fields more } := fun b hb =>
        (un.tbls b #[] (Ht b hb)).elim fun more z => ⟨_, hok' b _ z⟩
      have same : ∀ b o, b ∉ Ts → s₁.heap.get? b = some o → s'.heap.get? b = some o := fun b o hb e => by
        cases q : H b with
        | none => exact un.keep b o e q (fun z => by cases z) (fun z => by cases z)
        | some u =>
          rcases Hof b u q with ⟨z, _⟩ | ⟨rfl, _, rfl⟩
          · exact absurd z hb
          · rw [scr] at e
            rw [← e]
            exact (hok' b _ (un.frzs b _ _ q)).1
      refine ⟨rfl, ⟨fun b o e => ?_, fun b o e => ?_⟩, os, bare⟩
      · by_cases hb : b ∈ Ts
        · obtain ⟨e0, _, p, hp, ep⟩ := tabOf b hb
          obtain ⟨more, hm⟩ := grown b hb
          rw [e0] at e
          have eo := Option.some.inj e
          subst eo
          refine .inr (.inl ⟨?_, rfl, #[], more, rfl, by rw [Array.empty_append]; exact hm⟩)
          rw [← ep]
          exact ((heads p hp).tab (empty p hp)).isCodeTable
        · exact .inl (same b o hb e)
      · by_cases hb : b ∈ Ts
        · exact (grown b hb).elim fun more hm => ⟨_, hm⟩
        · exact ⟨o, same b o hb e⟩
/-- what is to be shown of a law at the head's heap h -/
def LawG (l : PySem.W.OpenLaw) (w : World) (k n : Nat) (x : Str) (mg : Str → Option Value) (fa : Addr) (h : Heap) : Prop :=
  ∃ (K : PySem.W.Frag) (fd : FuncData) (cs : List (Addr × Addr)) (S : Spec), K.In h ∧ (∀ p ∈ cs, h.get? p.2 = some NoTab) ∧ (∀ p ∈ cs, K.lookup p.2 = none) ∧ (∀ p ∈ cs, PySem.W.CodeHd h p.1 p.2) ∧ (∀ (s : Shared) (u : Value), BindsTo s fd ⟨[u], []⟩ [(x, u)]) ∧
    (∀ ns : List Int, ns.length ≤ n → (∀ z ∈ ns, Builtin.Int.intBits z ≤ 1048576) → S [.scr (ns.map .int)] (fun d _ => d = .bl true) 0) ∧
    ∀ base : Heap, K.In base → base.Ns mainGlobals mg → (∀ p ∈ cs, TabB base mg p.1 p.2) → FnG l.prog w K mg base k fa fd [x] (spN ⟨K, cs.map (·.2)⟩ S)
/-- the table of the code of the def x is empty -/
def Fresh (mg : Str → Option Value) (h : Heap) (x : Str) : Prop := ∃ (a : Addr) (o : Obj) (fd : FuncData) (c P : Addr), mg x = some (.ref a) ∧ h.get? a = some o ∧ o.data = .func fd ∧ fd.code = .ref c ∧ h.TableAt c P #[]
theorem walk_G {l : PySem.W.OpenLaw} {n k : Nat} {q : Program} {loose : List Str} {XP : (Str → Option Value) → Heap → Prop} {YP : World → Heap → Prop} {d : DefRec} {x : Str}
    (most : l.most = some n) (few : n ≤ sizeLine) (plain : d.params.defaults = []) (room : Room k callerA)
    (told : ∀ (w : World) (mg : Str → Option Value) (fa : Addr) (h : Heap), YP w h → h.Ns mainGlobals mg → mg d.name = some (.ref fa) → (∀ y : Str, ((recsOf q).any fun e => e.name == y) = true → Fresh mg h y) → LawG l w k n x mg fa h) :
    PySem.W.WalkO q loose XP YP l.row.toRowW d [] (fun f vs => PySem.call f vs) :=
  Att.attach_callB most plain fun w s₀ s₁ mg mb fa o pm cd doc a vs ns G Y _ _ _ hmg hobj hints hlen hbits hg => by
    obtain ⟨K, fd, cs, S, KX, hT, nT, hd, hb, hS, hF⟩ := told w mg fa _ Y G.T.g hmg fun y hy => by
      obtain ⟨dy, hm, e⟩ := List.any_eq_true.mp hy
      obtain ⟨a', o', fd', c', P', h1, h2, h3, h4, _, h6⟩ := G.T.tab dy hm
      rw [beq_iff_eq.mp e] at h1
      exact ⟨a', o', fd', c', P', h1, h2, h3, h4, h6⟩
    exact go_law KX G.T.g G.T.b G.T.builtins G.T.nolimit hg hT nT hd G.T.bmain hobj hints (Nat.le_trans hlen few) room hF hb (hS ns hlen hbits)
end DJ

set_option Elab.async false
set_option linter.all false
set_option maxRecDepth 100000
set_option maxHeartbeats 1000000
/-! what the top has left, at once -/
namespace DJ
open PySem PySem.Spec PyProof.Rows L2 GxR GX

abbrev topOf (P : Program) (i : Nat) : Stmt := P.main.body.getD i (.Pass ⟨0, 0, 0, 0⟩)
def dOf (x : Str) (st : Stmt) : He.DefD := { at_ := (x, none), name := x, qual := x, params := defArgs st, body := defBody st, scope := defScope st }
def tabsO (K : PySem.W.Frag) (tf : List Str) : Bool := tf.all fun x => PySem.W.codeHdIn K (He.cT K (x, none)).1 (He.cT K (x, none)).2 && (K.lookup (He.cT K (x, none)).2).isNone
def bltO (K : PySem.W.Frag) (p : Str × String) : Bool := match PySem.W.nsIn K mainGlobals p.1 with
  | some (some (.builtin y)) => decide (y = p.2)
  | _ => false
structure Left (K : PySem.W.Frag) (mg : Str → Option Value) (h : Heap) (fr : List Str) (fn : List He.DefD) (tf : List Str) (bl : List (Str × String)) : Prop where
  says : He.SaysD (fn.map (fun d => .glo d.at_.1) ++ fr.map .free) fn K
  inH : K.In h
  ns : h.Ns mainGlobals mg
  tabs : tabsO K tf = true
  blts : bl.all (bltO K) = true
  fresh : ∀ y ∈ tf, Fresh mg h y
section
variable {K : PySem.W.Frag} {mg : Str → Option Value} {h : Heap} {fr : List Str} {fn : List He.DefD} {tf : List Str} {bl : List (Str × String)}
theorem Left.free (L : Left K mg h fr fn tf bl) {x : Str} (hx : x ∈ fr) : mg x = none :=
  He.free_ok L.inH L.ns (L.says.facts (f := .free x) (List.mem_append_right _ (List.mem_map.mpr ⟨x, hx, rfl⟩)))
theorem Left.blt (L : Left K mg h fr fn tf bl) {x : Str} {id : String} (hx : (x, id) ∈ bl) : mg x = some (.builtin id) := by
  have e : bltO K (x, id) = true := List.all_eq_true.mp L.blts (x, id) hx
  unfold bltO at e
  refine PySem.W.mg_of L.inH L.ns ?_
  split at e
  · rename_i y q
    have q : PySem.W.nsIn K mainGlobals x = some (some (.builtin y)) := q
    rw [q, of_decide_eq_true e]
  · cases e
theorem Left.df (L : Left K mg h fr fn tf bl) {x : Str} {st : Stmt} (hd : dOf x st ∈ fn) : Df K mg x st (He.codeOf K (x, none)) := by
  obtain ⟨fd, F⟩ := L.says.defs hd
  have g : mg x = some (.ref (He.ga K x)) := He.glo_ok L.inH L.ns (L.says.facts (f := .glo x) (List.mem_append_left _ (List.mem_map.mpr ⟨dOf x st, hd, rfl⟩)))
  obtain ⟨oc, od, dV, kV, doc, pm, an, cdv, ct, osl, rfl, lk, hcd, dfl, _⟩ := F.ex
  obtain ⟨c, rfl⟩ := He.codeIn_ref hcd
  have ec : He.codeOf K (x, none) = c := He.codeOf_eq (p := (x, none)) lk rfl
  have ed : dV = .none := by
    rcases dfl with ⟨_, e⟩ | ⟨e, _⟩
    · exact e
    · exact absurd rfl e
  subst ed
  rw [ec]
  exact ⟨_, oc, od, kV, doc, pm, an, ct, osl, lk, hcd, F.kp, g⟩
/-- the tables: code object, table -/
def csOf (K : PySem.W.Frag) (tf : List Str) : List (Addr × Addr) := tf.map fun x => He.cT K (x, none)
theorem Left.tab (L : Left K mg h fr fn tf bl) {x : Str} (hx : x ∈ tf) (hf : He.ga K x ≠ 0 → mg x = some (.ref (He.ga K x))) : True := trivial
theorem Left.out (L : Left K mg h fr fn tf bl) : ∀ p ∈ csOf K tf, K.lookup p.2 = none := fun p hp => by
  obtain ⟨x, hx, rfl⟩ := List.mem_map.mp hp
  have e := List.all_eq_true.mp L.tabs x hx
  rw [Bool.and_eq_true] at e
  exact Option.isNone_iff_eq_none.mp e.2
theorem Left.head (L : Left K mg h fr fn tf bl) : ∀ p ∈ csOf K tf, PySem.W.CodeHd h p.1 p.2 := fun p hp => by
  obtain ⟨x, hx, rfl⟩ := List.mem_map.mp hp
  have e := List.all_eq_true.mp L.tabs x hx
  rw [Bool.and_eq_true] at e
  exact PySem.W.codeHd_of_K L.inH e.1
theorem Left.empty (L : Left K mg h fr fn tf bl) (hd : ∀ x ∈ tf, ∃ st, dOf x st ∈ fn) : ∀ p ∈ csOf K tf, h.get? p.2 = some NoTab := fun p hp => by
  have hh := L.head p hp
  obtain ⟨x, hx, rfl⟩ := List.mem_map.mp hp
  obtain ⟨st, hs⟩ := hd x hx
  obtain ⟨f, oc, od, kV, doc, pm, an, ct, osl, lk, hcd, kp, g⟩ := (L.df hs).ex
  obtain ⟨a, o, fd, c, P, h1, h2, h3, h4, ⟨oc', vs', e1, e2, e3, e4⟩, h6⟩ := L.fresh x hx
  rw [g] at h1
  cases h1
  rw [L.inH _ _ lk] at h2
  cases h2
  cases h3
  cases h4
  obtain ⟨o2, us, file, tf', flags, tg, inF, text, tt, q1, q2, q3, q4, rest⟩ := hh
  have q1 : h.get? (He.codeOf K (x, none)) = some o2 := q1
  rw [e1] at q1
  cases q1
  rw [e3] at q3
  cases q3
  rw [e4] at q4
  have e5 : P = (He.cT K (x, none)).2 := by
    have := Option.some.inj q4
    cases this
    rfl
  rw [← e5]
  exact h6
end
end DJ

set_option Elab.async false
set_option linter.all false
set_option maxRecDepth 100000
set_option maxHeartbeats 1000000
/-! name = [.. for ..]; the law's own def -/
namespace DJ
open PySem PySem.Spec PyProof.Rows L2 GxR GX

theorem js_lc {C : Ct} {w : Option Addr} {X : Cx} {i : Nat} {y : Str} {py : Pos} {elt tg iter : Expr} {ifs : List Expr} {scope : Scope} {own : List (Str × Nat)} {pos spos : Pos} {gs : List Nat} {mi : MI} {mg : MG} {mt : MT} {me : ME} (hc : X.calm = true) (hN : X.N.Nodup) (hi : JI C w X tg iter mi) (ok : BlkOk X.N X.env.scope scope own)
    (hgs : ∀ i ∈ gs, i ∈ own.map (·.2))
    (hg : ∀ (s : Shared) (H : Hp) (Cc : Addr) (cl : List (Str × Addr)) (fp : List Addr), JG C w (X.blk s H scope (compEnvC scope cl Cc X.env) fp) tg gs mg) (ht : ∀ (s : Shared) (H : Hp) (Cc : Addr) (cl : List (Str × Addr)) (fp : List Addr), PTs (X.blk s H scope (compEnvC scope cl Cc X.env) fp) ifs (tMT C w mt))
    (he : ∀ (s : Shared) (H : Hp) (Cc : Addr) (cl : List (Str × Addr)) (fp : List Addr), JE C w (X.blk s H scope (compEnvC scope cl Cc X.env) fp) elt me) (hy : X.N[i]? = some y := by rfl) (hyl : X.env.scope.names.lookup y = some .local := by rfl)
    (hsw : swapsWith (.ListComp elt [⟨tg, iter, ifs, 0⟩] scope pos) (some (.Name y py)) spos.line X.env = pure true := by rfl) (hs : ∀ x, foldedSetIterable iter X.env x = pure x := by intro _; rfl) :
    JS C w X (.Assign [.Name y py] (.ListComp elt [⟨tg, iter, ifs, 0⟩] scope pos) spos) (mAsg (mLc mi mg mt me (own.map (·.2))) (gSet i)) :=
  js_setLc (PS.imp (ps_setLc hc hN hy hyl hsw hi ok hg ht he hs) fun D σ H h => tm_lc hgs h)
section
variable {P : Program} {w : World} {K : PySem.W.Frag} {mg : Str → Option Value} {base : Heap} {Tb : List Addr} {x : Str} {st : Stmt} {N ps : List Str} {k : Nat} {c : Addr} {m : MS}
structure OkN (P : Program) (w : World) (K : PySem.W.Frag) (mg : Str → Option Value) (base : Heap) (C : Ct) (x : Str) (ps : List Str) (k : Nat) (S : Spec) : Prop where
  ex : ∃ (f : Addr) (fd : FuncData), FnG P w K mg base k f fd ps (spN C S) ∧ mg x = some (.ref f)
theorem ok_N {S : Spec} {f : Addr} {oc : Value} {od : Option Addr} {kV doc pm : Value} {an : Option Addr} {ct : Value} {osl : Array (Option Value)}
    (lk : K.lookup f = some ⟨oc, od, .func (PySem.W.fnOf x x (defArgs st) (defBody st) (defScope st) .none kV doc pm an (.ref c) ct), osl⟩) (hcd : PySem.W.codeIn K (.ref c) x = true) (sc : FnScope N ps (defScope st)) (hS : ∀ ds P n, S ds P n → ds.length = ps.length)
    (hb : ∀ (A : Around) (outer : List Env) (s : Shared) (H : Hp) (f : Addr), A.guards = some [] → Room k (A.deeper (envOfC x (defScope st) s.heap.objs.size f (.ref c))) → JSs ⟨K, Tb⟩ none (cxOf CX0 P w K mg base N x (defScope st) f (.ref c) A outer s H E0).nox (defBody st) m)
    (hm : ∀ ds Pd n, S ds Pd n → m { nx := fun _ => Pd .non, rt := Pd } (startS N ds) n) : FnG P w K mg base (k + 1) f (PySem.W.fnOf x x (defArgs st) (defBody st) (defScope st) .none kV doc pm an (.ref c) ct) ps (spN ⟨K, Tb⟩ S) := by
  refine fnG_of lk hcd sc (fun vs H Q E h => ?_) fun A outer s H vs Q quiet hr h => ?_
  · obtain ⟨F, ds, Pd, g0, r, hs, f⟩ := h
    rw [← r.length]; exact hS ds Pd _ hs
  · obtain ⟨F, ds, Pd, g0, r, hs, fin⟩ := h
    refine ⟨_, (hb A outer s H f quiet hr F H F).nox, F, _, _, g0, ⟨Step.refl g0, Ex.refl F, rep_start r, fun i xs a h => (startS_own h).elim⟩, hm ds Pd _ hs, fun l' σ' F' H' p a1 => fin _ _ F' H' p a1.s rep_non, fin, fun _ _ _ _ p => p.elim, fun _ _ _ _ p => p.elim, fun _ _ _ _ _ p => p.elim⟩
end
end DJ

set_option Elab.async false
set_option linter.all false
set_option maxRecDepth 100000
set_option maxHeartbeats 1000000
/-! what the defs promise; how a goal is brought down -/
namespace DJ
open PySem PySem.Spec PyProof.Rows L2 GxR GX

def fitB (i : Int) : Bool := decide (i.natAbs < 2 ^ 1000)
theorem fitB_iff {i : Int} : fitB i = true ↔ Bt 1000 i := by unfold fitB Bt; exact decide_eq_true_iff
mutual
def D.fine : D → Bool
  | .non | .bl _ | .str _ | .dic _ _ => true
  | .int i => fitB i
  | .tup xs | .lst xs => fineL xs
  | _ => false
def fineL : List D → Bool
  | [] => true
  | d :: ds => D.fine d && fineL ds
end
theorem fineL_iff : ∀ {ds : List D}, fineL ds = true ↔ ∀ d ∈ ds, d.fine = true
  | [] => by simp [fineL]
  | d :: ds => by simp [fineL, fineL_iff (ds := ds)]
theorem fine_ty {d : D} (h : d.fine = true) : d.typ ∈ theTys := by
  cases d <;> first | (cases h; done) | simp [D.typ, theTys]
theorem fine_int {i : Int} : (D.int i).fine = true ↔ Bt 1000 i := by unfold D.fine; exact fitB_iff
theorem fine_tup {xs : List D} : (D.tup xs).fine = true ↔ ∀ d ∈ xs, d.fine = true := by rw [D.fine]; exact fineL_iff
theorem fine_lst {xs : List D} : (D.lst xs).fine = true ↔ ∀ d ∈ xs, d.fine = true := by rw [D.fine]; exact fineL_iff

/-! ### goals brought down -/
section
variable {i j k : Int} {xs ys : List D} {x y : Str} {lo hi : Option Int} {d e f : D} {t : String} {b : Bool} {P : D → Cr} {Q : Bool → Cr} {R : Int → Cr} {W : List D → Cr} {h : D → (D → Cr) → Cr} {h2 : D → D → (D → Cr) → Cr} {h3 : D → D → D → (D → Cr) → Cr}
theorem eAdd1 : gAdd (.int i) (.int j) P = P (.int (i + j)) := rfl
theorem eAdd2 : gAdd (.tup xs) (.tup ys) P = fun n => xs.length + ys.length ≤ 100000 ∧ P (.tup (xs ++ ys)) n := rfl
theorem eAdd3 : gAdd (.lst xs) (.lst ys) P = fun n => xs.length + ys.length ≤ 100000 ∧ P (.lst (xs ++ ys)) n := rfl
theorem eSub : gSub (.int i) (.int j) P = P (.int (i - j)) := rfl
theorem eMul1 : gMul (.int i) (.int j) P = fun n => CMulW i j ∧ P (.int (i * j)) n := rfl
theorem eMul2 : gMul (.lst xs) (.int k) P = fun n => 0 ≤ k ∧ k ≤ 1000 ∧ xs.length ≤ 100 ∧ P (.lst (List.replicate k.toNat xs).flatten) n := rfl
theorem eFdiv : gFdiv (.int i) (.int j) P = fun n => (j ≠ 0 ∧ j.natAbs.log2 < 9000) ∧ P (.int (i.fdiv j)) n := rfl
theorem eMod : gMod (.int i) (.int j) P = fun n => j ≠ 0 ∧ P (.int (i.fmod j)) n := rfl
theorem ePow : gPow (.int i) (.int j) P = fun n => (0 ≤ j ∧ ((i.natAbs.log2 : Nat) + 1 : Int) * j ≤ 1000000) ∧ P (.int (i ^ j.toNat)) n := rfl
theorem eNeg : gNeg (.int i) P = P (.int (-i)) := rfl
theorem eLt : gLt (.int i) (.int j) P = P (.bl (decide (i < j))) := rfl
theorem eLe : gLe (.int i) (.int j) P = P (.bl (decide (i ≤ j))) := rfl
theorem eGt : gGt (.int i) (.int j) P = P (.bl (decide (j < i))) := rfl
theorem eGe : gGe (.int i) (.int j) P = P (.bl (decide (j ≤ i))) := rfl
theorem eEq1 : gEq (.int i) (.int j) P = P (.bl (decide (i = j))) := rfl
theorem eEq2 : gEq (.str x) (.str y) P = P (.bl (decide (x = y))) := rfl
theorem eNe1 : gNe (.int i) (.int j) P = P (.bl (!decide (i = j))) := rfl
theorem eNe2 : gNe (.str x) (.str y) P = P (.bl (!decide (x = y))) := rfl
theorem eIx1 : gIx (.tup xs) (.int i) P = fun n => ∃ d, atI xs i = some d ∧ P d n := rfl
theorem eIx2 : gIx (.lst xs) (.int i) P = fun n => ∃ d, atI xs i = some d ∧ P d n := rfl
theorem eIx3 : gIx (.scr xs) (.int i) P = fun n => ∃ d, atI xs i = some d ∧ P d n := rfl
theorem eIx4 : gIx .well (.int i) P = fun n : Nat => (0 ≤ i ∧ i < 3) ∧ ∀ z : Int, (i = 2 → 0 ≤ z ∧ z ≤ n) → (i = 1 → 0 ≤ z ∧ z < 4294967296) → P (.int z) n := rfl
theorem eSl1 : gSl (.tup xs) lo hi P = P (.tup (cutD xs lo hi)) := rfl
theorem eSl2 : gSl (.lst xs) lo hi P = P (.lst (cutD xs lo hi)) := rfl
theorem eSl3 : gSl (.scr xs) lo hi P = P (.lst (cutD xs lo hi)) := rfl
theorem eLen1 : gLen (.tup xs) P = P (.int xs.length) := rfl
theorem eLen2 : gLen (.lst xs) P = P (.int xs.length) := rfl
theorem eLen3 : gLen (.scr xs) P = P (.int xs.length) := rfl
theorem eAbs : gAbs (.int i) P = P (.int (if i < 0 then -i else i)) := rfl
theorem eIntC : gIntC (.int i) P = P (.int i) := rfl
theorem eMax2 : gMax2 (.int i) (.int j) P = P (.int (max i j)) := rfl
theorem eMin2 : gMin2 (.int i) (.int j) P = P (.int (min i j)) := rfl
theorem eList1 : gList (.tup xs) P = P (.lst xs) := rfl
theorem eList2 : gList (.lst xs) P = P (.lst xs) := rfl
theorem eList3 : gList (.scr xs) P = P (.lst xs) := rfl
theorem eTuple1 : gTuple (.tup xs) P = P (.tup xs) := rfl
theorem eTuple2 : gTuple (.lst xs) P = P (.tup xs) := rfl
theorem eAll : gAll (.lst xs) P = fun n => ∃ bs : List Bool, xs = bs.map D.bl ∧ P (.bl (bs.all id)) n := rfl
theorem eAny : gAny (.lst xs) P = fun n => ∃ bs : List Bool, xs = bs.map D.bl ∧ P (.bl (bs.any id)) n := rfl
theorem eIsi : gIsi d (.ty t) P = fun c => (t ∈ askTys ∧ d.typ ∈ theTys) ∧ P (.bl (isSub d.typ t)) c := rfl
theorem eGcd2 : gGcd2 (.int i) (.int j) P = P (.int ((Nat.gcd i.natAbs j.natAbs : Nat) : Int)) := rfl
theorem eGcd3 : gGcd3 (.int i) (.int j) (.int k) P = P (.int ((Nat.gcd (Nat.gcd i.natAbs j.natAbs) k.natAbs : Nat) : Int)) := rfl
theorem eLcm : gLcm (.int i) (.int j) P = fun c => (Bt 6000 i ∧ Bt 6000 j) ∧ P (.int ((Nat.lcm i.natAbs j.natAbs : Nat) : Int)) c := rfl
theorem eIsqrt : gIsqrt (.int i) P = fun c => (0 ≤ i ∧ Bt 12000 i) ∧ P (.int ((Float64.isqrt i.toNat : Nat) : Int)) c := rfl
theorem eDivmod : gDivmod (.int i) (.int j) P = fun n => (0 < j ∧ j < 1073741824) ∧ P (.tup [.int (i / j), .int (i % j)]) n := rfl
theorem eOne : g1 h [d] P = h d P := rfl
theorem eTwo : g2 h2 [d, e] P = h2 d e P := rfl
theorem eThree : g3 h3 [d, e, f] P = h3 d e f P := rfl
theorem eB : gB (.bl b) Q = Q b := rfl
theorem eInt : gInt (.int i) R = R i := rfl
theorem eSeq1 : gSeq (.tup xs) W = W xs := rfl
theorem eSeq2 : gSeq (.lst xs) W = W xs := rfl
theorem eSeq3 : gSeq (.scr xs) W = W xs := rfl
theorem eRng1 : gRng1 (.int j) W = fun n => (-(2 ^ 62) ≤ j ∧ j < 2 ^ 62) ∧ W (rangeD 0 j.toNat) n := rfl
theorem eRng2 : gRng2 (.int i) (.int j) W = fun n => (-(2 ^ 62) ≤ i ∧ i < 2 ^ 62 ∧ -(2 ^ 62) ≤ j ∧ j < 2 ^ 62) ∧ W (rangeD i (j - i).toNat) n := rfl
theorem eTupD {n : Nat} {t : MGs} {ds : List D} {l : Sl} {P : Sl → Cr} : gTupD n t (.tup ds) l P = fun c => ds.length = n ∧ t ds l P c := funext fun c => propext ⟨fun ⟨es, e, h⟩ => by cases e; exact h, fun h => ⟨ds, rfl, h⟩⟩
theorem eConsD {m : MG} {t : MGs} {d : D} {ds : List D} {l : Sl} {P : Sl → Cr} : gConsD m t (d :: ds) l P = m d l fun l' => t ds l' P := funext fun c => propext ⟨fun ⟨es, r, e, h⟩ => by cases e; exact h, fun h => ⟨d, ds, rfl, h⟩⟩
theorem eNilD {l : Sl} {P : Sl → Cr} : gNilD [] l P = P l := funext fun c => propext ⟨fun h => h.2, fun h => ⟨rfl, h⟩⟩
theorem eIsN : gIsN d .non P = P (.bl (isNon d)) := by cases d <;> rfl
theorem eNotN : gNotN d .non P = P (.bl (!isNon d)) := by cases d <;> rfl
end
theorem ite_cr {p : Prop} [Decidable p] {A B : Cr} {c : Nat} : (if p then A else B) c = if p then A c else B c := by split <;> rfl
theorem ask_int : "int" ∈ askTys := by decide
theorem ask_bool : "bool" ∈ askTys := by decide
theorem ask_tuple : "tuple" ∈ askTys := by decide
theorem ask_list : "list" ∈ askTys := by decide
theorem ask_str : "str" ∈ askTys := by decide
theorem isSub_int (d : D) : isSub d.typ "int" = (match d with | .int _ => true | .bl _ => true | _ => false) := by
  cases d <;> simp [isSub, D.typ]
theorem isSub_bool (d : D) : isSub d.typ "bool" = (match d with | .bl _ => true | _ => false) := by
  cases d <;> simp [isSub, D.typ]
def isTup : D → Bool
  | .tup _ => true
  | _ => false
theorem isTup_tup {xs : List D} : isTup (.tup xs) = true := rfl
theorem isTup_iff {d : D} : isTup d = true ↔ ∃ xs, d = .tup xs := by
  constructor
  · intro h; cases d <;> first | exact ⟨_, rfl⟩ | cases h
  · rintro ⟨i, rfl⟩; rfl
theorem isSub_tuple (d : D) : isSub d.typ "tuple" = isTup d := by
  cases d <;> simp [isSub, D.typ, isTup]
theorem at0 {x : D} {xs : List D} : atI (x :: xs) 0 = some x := atI_nat (j := 0) rfl
theorem at1 {x y : D} {xs : List D} : atI (x :: y :: xs) 1 = some y := atI_nat (j := 1) rfl
theorem at2 {x y z : D} {xs : List D} : atI (x :: y :: z :: xs) 2 = some z := atI_nat (j := 2) rfl
theorem at3 {x y z u : D} {xs : List D} : atI (x :: y :: z :: u :: xs) 3 = some u := atI_nat (j := 3) rfl
theorem pow2 {b : Int} : b ^ (2 : Int).toNat = b * b := by
  show b ^ 2 = b * b
  rw [Int.pow_succ, Int.pow_succ, Int.pow_zero, Int.one_mul]
theorem pow2_ok {b : Int} {n : Nat} (h : Bt n b) (l : n ≤ 400000 := by decide) : ((0 : Int) ≤ 2 ∧ ((b.natAbs.log2 : Nat) + 1 : Int) * 2 ≤ 1000000) = True := by
  have := h.log (k := 400001) (by omega) (by decide)
  simp only [eq_iff_iff, iff_true]
  omega
theorem cm {a c : Int} {m n : Nat} (h : Bt m a) (k : Bt n c) (l : m + n ≤ 900000 := by decide) : CMulW a c := by
  have h1 := h.log (k := m + 1) (by omega) (by omega)
  have h2 := k.log (k := n + 1) (by omega) (by omega)
  unfold CMulW
  omega
theorem nat1 {g : Nat} : (((g : Nat) : Int) = 1) = (g = 1) := propext (by omega)
theorem int2 : decide (((2 : Nat) : Int) = 2) = true := rfl
theorem int3 : decide (((3 : Nat) : Int) = 3) = true := rfl


def isWhole : D → Bool
  | .int _ => true
  | _ => false
theorem isWhole_int {i : Int} : isWhole (.int i) = true := rfl
theorem isWhole_iff {d : D} : isWhole d = true ↔ ∃ i, d = .int i := by
  constructor
  · intro h; cases d <;> first | exact ⟨_, rfl⟩ | cases h
  · rintro ⟨i, rfl⟩; rfl
def sIsWhole : Spec := g1 fun d P c => d.fine = true ∧ P (.bl (isWhole d)) c
def fracB : D → Bool
  | .tup [.int a, .int b] => decide (0 < b) && decide (Nat.gcd a.natAbs b.natAbs = 1)
  | _ => false
theorem fracB_int {a b : Int} : fracB (.tup [.int a, .int b]) = (decide (0 < b) && decide (Nat.gcd a.natAbs b.natAbs = 1)) := rfl
theorem fracB_iff {d : D} : fracB d = true ↔ ∃ a b : Int, d = .tup [.int a, .int b] ∧ 0 < b ∧ Nat.gcd a.natAbs b.natAbs = 1 := by
  constructor
  · intro h
    unfold fracB at h
    split at h
    · rw [Bool.and_eq_true, decide_eq_true_eq, decide_eq_true_eq] at h
      exact ⟨_, _, rfl, h⟩
    · cases h
  · rintro ⟨a, b, rfl, h1, h2⟩
    rw [fracB_int, decide_eq_true h1, decide_eq_true h2]; rfl
theorem fracB_no {d : D} (h : ∀ a b : Int, d ≠ .tup [.int a, .int b]) : fracB d = false := by
  cases e : fracB d with
  | false => rfl
  | true => obtain ⟨a, b, rfl, _⟩ := fracB_iff.mp e; exact absurd rfl (h a b)
def sIsFraction : Spec := g1 fun d P c => d.fine = true ∧ P (.bl (fracB d)) c
def fracsB (d : D) (n : Int) : Bool := match d with
  | .tup xs => decide ((xs.length : Int) = n) && xs.all fracB
  | _ => false
def sAreFractions : Spec := fun ds P c => ∃ d n, ds = [d, .int n] ∧ d.fine = true ∧ P (.bl (fracsB d n)) c
/-- the numbers of pairs over one divisor -/
def lcms (ps : List (Int × Int)) (m : Nat) : Nat := ps.foldl (fun a p => Nat.lcm a p.2.natAbs) m
theorem bt_one : Bt 1 ((1 : Nat) : Int) := by unfold Bt; decide
theorem lcms_snoc {ps : List (Int × Int)} {p : Int × Int} {m : Nat} : lcms (ps ++ [p]) m = Nat.lcm (lcms ps m) p.2.natAbs := by
  unfold lcms
  rw [List.foldl_append]; rfl
theorem take_snoc {α : Type} {xs : List α} {i : Nat} {x : α} (h : xs[i]? = some x) : xs.take (i + 1) = xs.take i ++ [x] := by
  rw [List.take_succ, h]; rfl
theorem lcms_bt : ∀ {ps : List (Int × Int)} {m k : Nat}, (∀ p ∈ ps, 0 < p.2 ∧ Bt 1000 p.2) → 0 < m → Bt k (m : Nat) → Bt (k + 1000 * ps.length) (lcms ps m : Nat) ∧ 0 < lcms ps m
  | [], m, k, _, h0, h => ⟨h, h0⟩
  | p :: ps, m, k, hp, h0, h => by
    obtain ⟨p0, pb⟩ := hp p List.mem_cons_self
    have e : lcms (p :: ps) m = lcms ps (Nat.lcm m p.2.natAbs) := rfl
    have l0 : 0 < Nat.lcm m p.2.natAbs := Nat.lcm_pos h0 (by omega)
    have lb : Bt (k + 1000) ((Nat.lcm m p.2.natAbs : Nat) : Int) := by
      refine Bt.le (Bt.mul h pb) ?_
      rw [Int.natAbs_mul]
      show Nat.lcm m p.2.natAbs ≤ m * p.2.natAbs
      exact Nat.le_of_dvd (Nat.mul_pos h0 (by omega)) (Nat.lcm_dvd_mul m p.2.natAbs)
    rw [e]
    obtain ⟨q1, q2⟩ := lcms_bt (ps := ps) (fun q hq => hp q (List.mem_cons_of_mem _ hq)) l0 lb
    refine ⟨q1.mono ?_, q2⟩
    rw [List.length_cons]; omega
def prOf (p : Int × Int) : D := .tup [.int p.1, .int p.2]
def sWholeParts : Spec := fun ds P c => ∃ ps : List (Int × Int), ds = [.tup (ps.map prOf)] ∧ ps.length ≤ 5 ∧ (∀ p ∈ ps, Bt 1000 p.1 ∧ 0 < p.2 ∧ Bt 1000 p.2) ∧ P (.tup (ps.map fun p => .int (p.1 * ((lcms ps 1 : Nat) / p.2)))) c
def sExcess : Spec := fun ds P n => ∃ a b c : Int, ds = [.tup [.int a, .int b, .int c]] ∧ (Bt 9000 a ∧ Bt 9000 b ∧ Bt 9000 c) ∧ P (.int (b * b - a * c)) n
def sIsInside : Spec := fun ds P n => ∃ a b c : Int, ds = [.tup [.int a, .int b, .int c]] ∧ (Bt 9000 a ∧ Bt 9000 b ∧ Bt 9000 c) ∧ P (.bl (decide (0 < a + c) && decide (b * b ≤ a * c))) n
def kindB : D → Bool
  | .tup [.int a, .int b, .int c] => decide (Nat.gcd (Nat.gcd a.natAbs b.natAbs) c.natAbs = 1) && decide (0 < b * b - a * c)
  | _ => false
theorem kindB_int {a b c : Int} : kindB (.tup [.int a, .int b, .int c]) = (decide (Nat.gcd (Nat.gcd a.natAbs b.natAbs) c.natAbs = 1) && decide (0 < b * b - a * c)) := rfl
theorem kindB_no {d : D} (h : ∀ a b c : Int, d ≠ .tup [.int a, .int b, .int c]) : kindB d = false := by
  unfold kindB
  split
  · exact absurd rfl (h _ _ _)
  · rfl
def sIsKind : Spec := g1 fun d P c => d.fine = true ∧ P (.bl (kindB d)) c
def gapB : D → Bool
  | .tup [x, y, z] => fracB x && (fracB y && (fracB z && (match x, y, z with
    | .tup [.int a, .int a'], .tup [.int b, .int b'], .tup [.int c, .int c'] => decide (0 ≤ a) && (decide (0 ≤ c) && (decide (a + c ≠ 0) && decide (b * b * a' * c' ≤ a * c * b' * b')))
    | _, _, _ => false)))
  | _ => false
def sIsGap : Spec := g1 fun d P c => d.fine = true ∧ P (.bl (gapB d)) c
/-! ### all of a generator expression -/
theorem mAllL_of {l0 : Sl} {mg : MG} {mt : MT} {me : ME} {P : D → Cr} {c : Nat} {f : D → Bool} : ∀ {ds : List D}, (∀ d ∈ ds, ∀ (yes : D → Cr) (no : Cr) c, yes (.bl (f d)) c → turnD l0 mg mt me d yes no c) → P (.bl (ds.all f)) c → mAllL l0 mg mt me ds P c
  | [], _, h => h
  | d :: ds, hd, h => by
    unfold mAllL
    refine hd d List.mem_cons_self _ _ c ?_
    rw [eB, ite_cr]
    rw [List.all_cons] at h
    cases e : f d with
    | true => rw [e] at h; rw [if_pos rfl]; exact mAllL_of (fun d hd' => hd d (List.mem_cons_of_mem _ hd')) h
    | false => rw [e] at h; rw [if_neg Bool.false_ne_true]; exact h
theorem mColl_of {l0 : Sl} {mg : MG} {mt : MT} {me : ME} {c : Nat} {f : D → D} : ∀ {ds : List D} {P : List D → Cr}, (∀ d ∈ ds, ∀ (yes : D → Cr) (no : Cr) c, yes (f d) c → turnD l0 mg mt me d yes no c) → P (ds.map f) c → mColl l0 mg mt me ds P c
  | [], _, _, h => h
  | d :: ds, P, hd, h => by
    unfold mColl
    exact hd d List.mem_cons_self _ _ c (mColl_of (P := fun ys => P (f d :: ys)) (fun d hd' => hd d (List.mem_cons_of_mem _ hd')) h)
theorem mColl_map {α : Type} {l0 : Sl} {mg : MG} {mt : MT} {me : ME} {c : Nat} {g f : α → D} : ∀ {ps : List α} {P : List D → Cr}, (∀ p ∈ ps, ∀ (yes : D → Cr) (no : Cr) c, yes (f p) c → turnD l0 mg mt me (g p) yes no c) → P (ps.map f) c → mColl l0 mg mt me (ps.map g) P c
  | [], _, _, h => h
  | p :: ps, P, hd, h => by
    rw [List.map_cons]
    unfold mColl
    exact hd p List.mem_cons_self _ _ c (mColl_map (P := fun ys => P (f p :: ys)) (fun d hd' => hd d (List.mem_cons_of_mem _ hd')) h)
/-! ### what is drawn -/
abbrev capN : Nat := 1000000000
def sWell : List D → (List D → Cr) → Cr := fun ds P c => ∃ (ns : List Int) (t : Int), ds = [.scr (ns.map .int), .int t] ∧ ns.length ≤ 63 ∧ 0 ≤ t ∧ t < 100 ∧ ∀ x y : Int, (0 ≤ y ∧ y < 4294967296) → P [.int x, .int y, .int 0] c
def sDraw : Spec := fun ds P c => ∃ m : Int, ds = [.well, .int m] ∧ 0 < m ∧ m < 1073741824 ∧ c < 1000000000 ∧ ∀ (z : Int) (c' : Nat), 0 ≤ z → z < m → c' ≤ c + 1 → P (.int z) c'
def sPickT : Spec := fun ds P c => ∃ xs : List D, ds = [.well, .lst xs] ∧ 0 < xs.length ∧ xs.length < 1000000 ∧ c < 1000000000 ∧ ∀ d ∈ xs, ∀ c', c' ≤ c + 1 → P d c'
end DJ

set_option Elab.async false
set_option linter.all false
set_option maxRecDepth 100000
set_option maxHeartbeats 1000000
/-! the mathematics of gaps -/
namespace DJ
open PySem PySem.Spec PyProof.Rows L2 GxR GX
theorem signs {x y : Int} (h : 0 ≤ x * y) (s : 0 < x + y) : 0 ≤ x ∧ 0 ≤ y := by
  refine ⟨?_, ?_⟩
  · refine Int.not_lt.mp fun hx => ?_
    have := Int.mul_neg_of_neg_of_pos hx (show 0 < y by omega)
    omega
  · refine Int.not_lt.mp fun hy => ?_
    have := Int.mul_neg_of_pos_of_neg (show 0 < x by omega) hy
    omega
theorem nonneg_of {a p : Int} (hp : 0 < p) (h : 0 ≤ a * p) : 0 ≤ a := by
  refine Int.not_lt.mp fun ha => ?_
  have := Int.mul_neg_of_neg_of_pos ha hp
  omega
theorem gap_core {a b c a' b' c' p q r L : Int} (hp : 0 < p) (hq : 0 < q) (hr : 0 < r) (ha : 0 < a') (hb : 0 < b') (hc : 0 < c') (e1 : a' * p = L) (e2 : b' * q = L) (e3 : c' * r = L) :
    (0 < a * p + c * r ∧ (b * q) * (b * q) ≤ (a * p) * (c * r)) ↔ (0 ≤ a ∧ 0 ≤ c ∧ a + c ≠ 0 ∧ b * b * a' * c' ≤ a * c * b' * b') := by
  have hL : 0 < L := by rw [← e1]; exact Int.mul_pos ha hp
  have hLL : 0 < L * L := Int.mul_pos hL hL
  have hM : 0 < a' * c' * (b' * b') := Int.mul_pos (Int.mul_pos ha hc) (Int.mul_pos hb hb)
  have m1 : (b * q) * (b * q) * (a' * c' * (b' * b')) = b * b * a' * c' * (L * L) := by
    have : L * L = (b' * q) * (b' * q) := by rw [e2]
    rw [this]; ac_rfl
  have m2 : (a * p) * (c * r) * (a' * c' * (b' * b')) = a * c * b' * b' * (L * L) := by
    have : L * L = (a' * p) * (c' * r) := by rw [e1, e3]
    rw [this]; ac_rfl
  have key : (b * q) * (b * q) ≤ (a * p) * (c * r) ↔ b * b * a' * c' ≤ a * c * b' * b' := by
    constructor
    · intro h
      have h2 := Int.mul_le_mul_of_nonneg_right h (Int.le_of_lt hM)
      rw [m1, m2] at h2
      exact Int.le_of_mul_le_mul_right h2 hLL
    · intro h
      have h2 := Int.mul_le_mul_of_nonneg_right h (Int.le_of_lt hLL)
      rw [← m1, ← m2] at h2
      exact Int.le_of_mul_le_mul_right h2 hM
  rw [key]
  constructor
  · rintro ⟨h1, h2⟩
    have h3 := key.mpr h2
    have h4 : 0 ≤ (b * q) * (b * q) := by
      rcases Int.le_total 0 (b * q) with h | h
      · exact Int.mul_nonneg h h
      · exact Int.mul_nonneg_of_nonpos_of_nonpos h h
    obtain ⟨s1, s2⟩ := signs (Int.le_trans h4 h3) h1
    have z1 := nonneg_of hp s1
    have z2 := nonneg_of hr s2
    refine ⟨z1, z2, fun e => ?_, h2⟩
    have e4 : a = 0 := by omega
    have e5 : c = 0 := by omega
    rw [e4, e5] at h1
    simp at h1
  · rintro ⟨h1, h2, h3, h4⟩
    refine ⟨?_, h4⟩
    have k1 := Int.mul_nonneg h1 (Int.le_of_lt hp)
    have k2 := Int.mul_nonneg h2 (Int.le_of_lt hr)
    by_cases z : a = 0
    · have : 0 < c * r := Int.mul_pos (by omega) hr
      omega
    · have : 0 < a * p := Int.mul_pos (by omega) hp
      omega
theorem div_pos_of {l x : Int} (hx : 0 < x) (hl : 0 < l) (h : x ∣ l) : 0 < l / x ∧ x * (l / x) = l := by
  have e := Int.mul_ediv_cancel' h
  refine ⟨?_, e⟩
  refine Int.not_le.mp fun hn => ?_
  have := Int.mul_nonpos_of_nonneg_of_nonpos (Int.le_of_lt hx) hn
  omega
theorem lcms_dvd : ∀ {ps : List (Int × Int)} {m : Nat}, m ∣ lcms ps m ∧ ∀ p ∈ ps, p.2 ∣ (lcms ps m : Int)
  | [], m => ⟨Nat.dvd_refl m, fun _ h => by cases h⟩
  | p :: ps, m => by
    obtain ⟨h1, h2⟩ := lcms_dvd (ps := ps) (m := Nat.lcm m p.2.natAbs)
    have e : lcms (p :: ps) m = lcms ps (Nat.lcm m p.2.natAbs) := rfl
    rw [e]
    refine ⟨Nat.dvd_trans (Nat.dvd_lcm_left _ _) h1, fun q hq => ?_⟩
    rcases List.mem_cons.mp hq with rfl | hq
    · exact Int.natAbs_dvd_natAbs.mp (by rw [Int.natAbs_natCast]; exact Nat.dvd_trans (Nat.dvd_lcm_right _ _) h1)
    · exact h2 q hq
theorem gap_is {a b c a' b' c' : Int} (ha : 0 < a' ∧ Bt 1000 a') (hb : 0 < b' ∧ Bt 1000 b') (hc : 0 < c' ∧ Bt 1000 c') (L : Int) (hL : L = (lcms [(a, a'), (b, b'), (c, c')] 1 : Nat)) :
    (decide (0 < a * (L / a') + c * (L / c')) && decide (b * (L / b') * (b * (L / b')) ≤ a * (L / a') * (c * (L / c')))) = (decide (0 ≤ a) && (decide (0 ≤ c) && (decide (a + c ≠ 0) && decide (b * b * a' * c' ≤ a * c * b' * b')))) := by
  have hB := lcms_bt (ps := [(a, a'), (b, b'), (c, c')]) (m := 1) (k := 1) (fun q hq => by
    rcases List.mem_cons.mp hq with rfl | hq
    · exact ha
    · rcases List.mem_cons.mp hq with rfl | hq
      · exact hb
      · rcases List.mem_cons.mp hq with rfl | hq
        · exact hc
        · cases hq) (by decide) bt_one
  have hd := (lcms_dvd (ps := [(a, a'), (b, b'), (c, c')]) (m := 1)).2
  rw [← hL] at hd
  have l0 : 0 < L := by rw [hL]; exact Int.natCast_pos.mpr hB.2
  obtain ⟨p1, q1⟩ := div_pos_of ha.1 l0 (hd (a, a') (by simp))
  obtain ⟨p2, q2⟩ := div_pos_of hb.1 l0 (hd (b, b') (by simp))
  obtain ⟨p3, q3⟩ := div_pos_of hc.1 l0 (hd (c, c') (by simp))
  have k := gap_core (a := a) (b := b) (c := c) p1 p2 p3 ha.1 hb.1 hc.1 q1 q2 q3
  rw [← Bool.decide_and, ← Bool.decide_and, ← Bool.decide_and, ← Bool.decide_and]
  exact decide_eq_decide.mpr k
theorem fracs_of {xs : List D} (h : xs.all fracB = true) : ∃ ps : List (Int × Int), xs = ps.map prOf ∧ ∀ p ∈ ps, 0 < p.2 ∧ Nat.gcd p.1.natAbs p.2.natAbs = 1 := by
  induction xs with
  | nil => exact ⟨[], rfl, fun _ h => by cases h⟩
  | cons d ds ih =>
    rw [List.all_cons, Bool.and_eq_true] at h
    obtain ⟨a, b, rfl, hb, hg⟩ := fracB_iff.mp h.1
    obtain ⟨ps, rfl, hp⟩ := ih h.2
    refine ⟨(a, b) :: ps, rfl, fun p hq => ?_⟩
    rcases List.mem_cons.mp hq with rfl | hq
    · exact ⟨hb, hg⟩
    · exact hp p hq
theorem fine_pr {p : Int × Int} (h : (DJ.prOf p).fine = true) : Bt 1000 p.1 ∧ Bt 1000 p.2 := by
  have := fine_tup.mp h
  exact ⟨fine_int.mp (this _ (by simp)), fine_int.mp (this _ (by simp))⟩
theorem gapB_no {d : D} (h : fracsB d 3 = false) : gapB d = false := by
  unfold gapB
  split
  · rename_i x y z
    have h : (decide ((([x, y, z] : List D).length : Int) = 3) && ([x, y, z] : List D).all fracB) = false := h
    have e : decide ((([x, y, z] : List D).length : Int) = 3) = true := rfl
    rw [e, Bool.true_and] at h
    simp only [List.all_cons, List.all_nil, Bool.and_true] at h
    cases h1 : fracB x
    · rfl
    · cases h2 : fracB y
      · rfl
      · cases h3 : fracB z
        · rfl
        · rw [h1, h2, h3] at h; cases h
  · rfl
theorem gapB_frac {a a' b b' c c' : Int} (h1 : fracB (.tup [.int a, .int a']) = true) (h2 : fracB (.tup [.int b, .int b']) = true) (h3 : fracB (.tup [.int c, .int c']) = true) : gapB (.tup [.tup [.int a, .int a'], .tup [.int b, .int b'], .tup [.int c, .int c']]) = (decide (0 ≤ a) && (decide (0 ≤ c) && (decide (a + c ≠ 0) && decide (b * b * a' * c' ≤ a * c * b' * b')))) := by
  unfold gapB
  simp only [h1, h2, h3, Bool.true_and]
end DJ
namespace DJ
open PySem PySem.Spec PyProof.Rows L2 GxR GX
theorem cms {a c : Int} (h : a.natAbs < 4611686018427387904) (k : c.natAbs < 4611686018427387904) : CMulW a c := cm (m := 62) (n := 62) h k
theorem fm {a m : Int} (h : 0 < m) : 0 ≤ a.fmod m ∧ a.fmod m < m := ⟨Int.fmod_nonneg_of_pos _ h, Int.fmod_lt_of_pos _ h⟩
theorem atI_ints {ns : List Int} {t : Int} (h0 : 0 ≤ t) (h : t < ns.length) : ∃ v : Int, atI (ns.map D.int) t = some (.int v) := by
  obtain ⟨j, rfl⟩ := Int.eq_ofNat_of_zero_le h0
  have hj : j < ns.length := by omega
  exact ⟨ns[j], atI_nat (by rw [List.getElem?_map, List.getElem?_eq_getElem hj]; rfl)⟩
theorem cut_ints {ns : List Int} {lo hi : Option Int} {i : Nat} {d : D} (h : (cutD (ns.map D.int) lo hi)[i]? = some d) : ∃ v : Int, d = .int v := by
  unfold cutD at h
  have h2 := List.mem_of_mem_drop (List.mem_of_mem_take (List.mem_of_getElem? h))
  obtain ⟨v, _, e⟩ := List.mem_map.mp h2
  exact ⟨v, e.symm⟩
end DJ
namespace DJ
open PySem PySem.Spec PyProof.Rows L2 GxR GX
/-- n / m in lowest terms: here only that it is a pair of numbers no greater -/
def sRatio : Spec := fun ds P c => ∃ a b : Int, ds = [.int a, .int b] ∧ b ≠ 0 ∧ Bt 8000 a ∧ Bt 8000 b ∧ ∀ g : Int, g ≠ 0 → g.natAbs = Nat.gcd a.natAbs b.natAbs → (0 < b → 0 < g) → (b < 0 → g < 0) → P (.tup [.int (a.fdiv g), .int (b.fdiv g)]) c
end DJ
namespace DJ
open PySem PySem.Spec PyProof.Rows L2 GxR GX
theorem eucl {x y : Int} (hx : 0 ≤ x) (hy : 0 < y) : 0 ≤ x.fmod y ∧ x.fmod y < y ∧ Nat.gcd y.natAbs (x.fmod y).natAbs = Nat.gcd x.natAbs y.natAbs := by
  have e : x.fmod y = x % y := Int.fmod_eq_emod_of_nonneg _ (Int.le_of_lt hy)
  rw [e]
  refine ⟨Int.emod_nonneg _ (by omega), Int.emod_lt_of_pos _ hy, ?_⟩
  obtain ⟨u, rfl⟩ := Int.eq_ofNat_of_zero_le hx
  obtain ⟨v, rfl⟩ := Int.eq_ofNat_of_zero_le (Int.le_of_lt hy)
  have e2 : ((u : Int) % (v : Int)).natAbs = u % v := by
    rw [← Int.natCast_emod, Int.natAbs_natCast]
  rw [e2, Int.natAbs_natCast, Int.natAbs_natCast]
  rw [Nat.gcd_comm v (u % v), Nat.gcd_comm u v]
  exact (Nat.gcd_rec v u).symm
theorem abs_of {a : Int} : 0 ≤ (if a < 0 then -a else a) ∧ (if a < 0 then -a else a).natAbs = a.natAbs := by
  split <;> omega
def sDivisor : Spec := g2 fun d e P => gInt d fun a => gInt e fun b => P (.int (Nat.gcd a.natAbs b.natAbs : Nat))
end DJ
namespace DJ
open PySem PySem.Spec PyProof.Rows L2 GxR GX
/-- the divisors one after another -/
def g3at (a b c : Int) : Nat → Nat
  | 0 => a.natAbs
  | 1 => Nat.gcd a.natAbs b.natAbs
  | _ => Nat.gcd (Nat.gcd a.natAbs b.natAbs) c.natAbs
def sLowest : Spec := fun ds P n => ∃ a b c : Int, ds = [.int a, .int b, .int c] ∧ Nat.gcd (Nat.gcd a.natAbs b.natAbs) c.natAbs ≠ 0 ∧ Bt 8000 a ∧ Bt 8000 b ∧ Bt 8000 c ∧ ∀ g : Int, 0 < g → g.natAbs = Nat.gcd (Nat.gcd a.natAbs b.natAbs) c.natAbs → P (.tup [.int (a.fdiv g), .int (b.fdiv g), .int (c.fdiv g)]) n
theorem fdiv_le {a g : Int} (h : 0 < g) : (a.fdiv g).natAbs ≤ a.natAbs := by
  rw [Int.fdiv_eq_ediv_of_nonneg _ (Int.le_of_lt h)]
  exact Int.natAbs_ediv_le_natAbs _ _
/-- three numbers, none great -/
def sTriple (k : Nat) : Spec := fun ds P n => ds = [.well] ∧ n < 999999000 ∧ ∀ (a b c : Int) (n' : Nat), Bt 100 a → Bt 100 b → Bt 100 c → n' ≤ n + k → P (.tup [.int a, .int b, .int c]) n'
end DJ
namespace DJ
open PySem PySem.Spec PyProof.Rows L2 GxR GX
theorem g3_le {a b c x : Int} (h : x.natAbs = Nat.gcd (Nat.gcd a.natAbs b.natAbs) c.natAbs) : x.natAbs ≤ a.natAbs ∨ x.natAbs ≤ b.natAbs ∨ x.natAbs ≤ c.natAbs := by
  have d1 : x.natAbs ∣ a.natAbs := by rw [h]; exact Nat.dvd_trans (Nat.gcd_dvd_left _ _) (Nat.gcd_dvd_left _ _)
  have d2 : x.natAbs ∣ b.natAbs := by rw [h]; exact Nat.dvd_trans (Nat.gcd_dvd_left _ _) (Nat.gcd_dvd_right _ _)
  have d3 : x.natAbs ∣ c.natAbs := by rw [h]; exact Nat.gcd_dvd_right _ _
  by_cases ha : a.natAbs = 0
  · by_cases hb : b.natAbs = 0
    · by_cases hc : c.natAbs = 0
      · rw [ha, hb, hc] at h
        have : x.natAbs = 0 := by rw [h]; rfl
        omega
      · exact .inr (.inr (Nat.le_of_dvd (by omega) d3))
    · exact .inr (.inl (Nat.le_of_dvd (by omega) d2))
  · exact .inl (Nat.le_of_dvd (by omega) d1)
theorem bt_small {x : Int} (h : x.natAbs < 4611686018427387904) : Bt 100 x := Bt.mono (m := 62) h (by decide)
theorem mul_small {x y : Int} {m : Nat} (hx : x.natAbs ≤ m) (hy : y.natAbs ≤ m) : (x * y).natAbs ≤ m * m := by
  rw [Int.natAbs_mul]; exact Nat.mul_le_mul hx hy
def pr (a b : Int) : D := .tup [.int a, .int b]
/-- three numbers over one -/
def sOver : Spec := fun ds P n => ∃ a b c m : Int, ds = [.tup [.int a, .int b, .int c], .int m] ∧ m ≠ 0 ∧ Bt 100 a ∧ Bt 100 b ∧ Bt 100 c ∧ Bt 100 m ∧ ∀ a1 a2 b1 b2 c1 c2 : Int, Bt 100 a1 → Bt 100 a2 → Bt 100 b1 → Bt 100 b2 → Bt 100 c1 → Bt 100 c2 → P (.tup [pr a1 a2, pr b1 b2, pr c1 c2]) n
end DJ
namespace DJ
open PySem PySem.Spec PyProof.Rows L2 GxR GX
theorem sq_nn (b : Int) : 0 ≤ b * b := by
  rcases Int.le_total 0 b with h | h
  · exact Int.mul_nonneg h h
  · exact Int.mul_nonneg_of_nonpos_of_nonpos h h
theorem low_ok {a b c : Int} {P : D → Cr} {n : Nat} (ha : a.natAbs ≤ 1000000) (hb : b.natAbs ≤ 1000000) (hc : c.natAbs ≤ 1000000) (h : ¬ b * b ≤ a * c) (hp : ∀ a b c : Int, Bt 100 a → Bt 100 b → Bt 100 c → P (.tup [.int a, .int b, .int c]) n) :
    Nat.gcd (Nat.gcd a.natAbs b.natAbs) c.natAbs ≠ 0 ∧ Bt 8000 a ∧ Bt 8000 b ∧ Bt 8000 c ∧ ∀ g : Int, 0 < g → g.natAbs = Nat.gcd (Nat.gcd a.natAbs b.natAbs) c.natAbs → P (.tup [.int (a.fdiv g), .int (b.fdiv g), .int (c.fdiv g)]) n := by
  refine ⟨fun e => ?_, (bt_small (by omega)).mono (by decide), (bt_small (by omega)).mono (by decide), (bt_small (by omega)).mono (by decide), fun g g0 _ => ?_⟩
  · obtain ⟨e1, e2⟩ := Nat.gcd_eq_zero_iff.mp e
    obtain ⟨e3, e4⟩ := Nat.gcd_eq_zero_iff.mp e1
    have z1 : b = 0 := by omega
    have z2 : c = 0 := by omega
    rw [z1, z2] at h
    simp at h
  · have f1 := fdiv_le (a := a) g0
    have f2 := fdiv_le (a := b) g0
    have f3 := fdiv_le (a := c) g0
    exact hp _ _ _ (bt_small (by omega)) (bt_small (by omega)) (bt_small (by omega))
theorem one_ok {x y z : Int} (h1 : y * y ≤ x * z) (h2 : y * y ≤ x * (0 - z)) : ¬ (1 : Int) * 1 ≤ x * (0 - z) := by
  rw [Int.zero_sub, Int.mul_neg] at h2 ⊢
  have := sq_nn y
  omega
end DJ
namespace DJ
open PySem PySem.Spec PyProof.Rows L2 GxR GX
theorem fdiv_dvd {a g : Int} (h : g.natAbs ∣ a.natAbs) : (a.fdiv g).natAbs ≤ a.natAbs := by
  rw [Int.fdiv_eq_ediv_of_dvd (Int.natAbs_dvd_natAbs.mp h)]
  exact Int.natAbs_ediv_le_natAbs _ _
theorem ratio_le {a b g : Int} (h : g.natAbs = Nat.gcd a.natAbs b.natAbs) : (a.fdiv g).natAbs ≤ a.natAbs ∧ (b.fdiv g).natAbs ≤ b.natAbs :=
  ⟨fdiv_dvd (by rw [h]; exact Nat.gcd_dvd_left _ _), fdiv_dvd (by rw [h]; exact Nat.gcd_dvd_right _ _)⟩
end DJ
namespace DJ
open PySem PySem.Spec PyProof.Rows L2 GxR GX
/-- three pairs, none great -/
def sTripleF (k : Nat) : Spec := fun ds P n => ds = [.well] ∧ n < 999999000 ∧ ∀ (a1 a2 b1 b2 c1 c2 : Int) (n' : Nat), Bt 100 a1 → Bt 100 a2 → Bt 100 b1 → Bt 100 b2 → Bt 100 c1 → Bt 100 c2 → n' ≤ n + k → P (.tup [pr a1 a2, pr b1 b2, pr c1 c2]) n'
end DJ
namespace DJ
open PySem PySem.Spec PyProof.Rows L2 GxR GX
/-- anything -/
def sOdd : Spec := fun ds P n => ds = [.well] ∧ n < 999999000 ∧ ∀ (d : D) (n' : Nat), d.fine = true → n' ≤ n + 1 → P d n'
/-- three numbers, or three pairs -/
def isTri (d : D) : Prop := (∃ a b c : Int, d = .tup [.int a, .int b, .int c] ∧ Bt 100 a ∧ Bt 100 b ∧ Bt 100 c) ∨ (∃ a1 a2 b1 b2 c1 c2 : Int, d = .tup [pr a1 a2, pr b1 b2, pr c1 c2] ∧ Bt 100 a1 ∧ Bt 100 a2 ∧ Bt 100 b1 ∧ Bt 100 b2 ∧ Bt 100 c1 ∧ Bt 100 c2)
def sBent : Spec := fun ds P n => ∃ v, ds = [.well, v] ∧ isTri v ∧ n < 999998000 ∧ ∀ (d : D) (n' : Nat), d.fine = true → n' ≤ n + 5 → P d n'
def sStretched : Spec := fun ds P n => ∃ v k, ds = [.well, v, .int k] ∧ isTri v ∧ 0 ≤ k ∧ k < 3 ∧ n < 999999500 ∧ ∀ (d : D) (n' : Nat), d.fine = true → n' ≤ n + 2 → P d n'
end DJ
namespace DJ
open PySem PySem.Spec PyProof.Rows L2 GxR GX
theorem dle {a : Int} : decide (0 ≤ a) = !decide (a < 0) := by by_cases h : a < 0 <;> simp [h] <;> omega
theorem dne {a : Int} : decide (a ≠ 0) = !decide (a = 0) := by by_cases h : a = 0 <;> simp [h]
end DJ
namespace DJ
open PySem PySem.Spec PyProof.Rows L2 GxR GX
theorem fint {x : Int} {n : Nat} (h : Bt n x) (l : n ≤ 1000 := by decide) : (D.int x).fine = true := fine_int.mpr (h.mono l)
theorem fseq {xs : List D} (h : ∀ d ∈ xs, d.fine = true) : (D.tup xs).fine = true ∧ (D.lst xs).fine = true := ⟨fine_tup.mpr h, fine_lst.mpr h⟩
theorem f2 {x y : D} (hx : x.fine = true) (hy : y.fine = true) : ∀ d ∈ [x, y], d.fine = true := fun d hd => by
  simp only [List.mem_cons, List.not_mem_nil, or_false] at hd
  rcases hd with rfl | rfl
  · exact hx
  · exact hy
theorem f1 {x : D} (hx : x.fine = true) : ∀ d ∈ [x], d.fine = true := fun d hd => by
  rw [List.mem_singleton.mp hd]; exact hx
theorem f3 {x y z : D} (hx : x.fine = true) (hy : y.fine = true) (hz : z.fine = true) : ∀ d ∈ [x, y, z], d.fine = true := fun d hd => by
  simp only [List.mem_cons, List.not_mem_nil, or_false] at hd
  rcases hd with rfl | rfl | rfl
  · exact hx
  · exact hy
  · exact hz
theorem mem_cut {xs : List D} {lo hi : Option Int} {d : D} (h : d ∈ cutD xs lo hi) : d ∈ xs := by
  unfold cutD at h
  exact List.mem_of_mem_drop (List.mem_of_mem_take h)
theorem cut_len {xs : List D} {lo hi : Option Int} : (cutD xs lo hi).length ≤ xs.length := by
  unfold cutD
  rw [List.length_take, List.length_drop]; omega
theorem fcut {xs : List D} {lo hi : Option Int} (h : ∀ d ∈ xs, d.fine = true) : ∀ d ∈ cutD xs lo hi, d.fine = true := fun d hd => h d (mem_cut hd)
theorem fapp {xs ys : List D} (h : ∀ d ∈ xs, d.fine = true) (k : ∀ d ∈ ys, d.fine = true) : ∀ d ∈ xs ++ ys, d.fine = true := fun d hd => by
  rcases List.mem_append.mp hd with q | q
  · exact h d q
  · exact k d q
theorem at3k {x y z : D} {k : Int} (k0 : 0 ≤ k) (k1 : k < 3) : ∃ d ∈ [x, y, z], atI [x, y, z] k = some d := by
  have : k = 0 ∨ k = 1 ∨ k = 2 := by omega
  rcases this with rfl | rfl | rfl
  · exact ⟨x, by simp, at0⟩
  · exact ⟨y, by simp, at1⟩
  · exact ⟨z, by simp, at2⟩
theorem tri_fine {d : D} (h : isTri d) : d.fine = true := by
  rcases h with ⟨a, b, c, rfl, ba, bb, bc⟩ | ⟨a1, a2, b1, b2, c1, c2, rfl, ba1, ba2, bb1, bb2, bc1, bc2⟩
  · exact fine_tup.mpr (f3 (fint ba) (fint bb) (fint bc))
  · exact fine_tup.mpr (f3 (fine_tup.mpr (f2 (fint ba1) (fint ba2))) (fine_tup.mpr (f2 (fint bb1) (fint bb2))) (fine_tup.mpr (f2 (fint bc1) (fint bc2))))
theorem tri_three {d : D} (h : isTri d) : ∃ x y z, d = .tup [x, y, z] := by
  rcases h with ⟨a, b, c, rfl, _⟩ | ⟨a1, a2, b1, b2, c1, c2, rfl, _⟩ <;> exact ⟨_, _, _, rfl⟩
end DJ
namespace DJ
open PySem PySem.Spec PyProof.Rows L2 GxR GX
theorem splice {xs : List D} {d : D} {lo hi : Option Int} {P : Prop} (hx : xs.length ≤ 1000) (h : P) : 1 ≤ 100000 ∧ (cutD xs none lo).length + 1 ≤ 100000 ∧ (cutD xs none lo ++ [d]).length + (cutD xs hi none).length ≤ 100000 ∧ P := by
  have l1 := cut_len (xs := xs) (lo := none) (hi := lo)
  have l2 := cut_len (xs := xs) (lo := hi) (hi := none)
  refine ⟨by decide, by omega, ?_, h⟩
  rw [List.length_append, List.length_singleton]; omega
theorem fsplice {xs : List D} {d : D} {lo hi : Option Int} (hx : ∀ d ∈ xs, d.fine = true) (hd : d.fine = true) : (D.tup (cutD xs none lo ++ [d] ++ cutD xs hi none)).fine = true := fine_tup.mpr (fapp (fapp (fcut hx) (f1 hd)) (fcut hx))
end DJ
namespace DJ
open PySem PySem.Spec PyProof.Rows L2 GxR GX
/-- the law's own turn: it answers True -/
def sRight : Spec := fun ds P n => ds = [.well] ∧ n < 1000 ∧ ∀ n', P (.bl true) n'
def sLaw : Spec := fun ds P n => ∃ ns : List Int, ds = [.scr (ns.map .int)] ∧ ns.length ≤ 63 ∧ P (.bl true) n
end DJ

set_option Elab.async false
set_option linter.all false
set_option maxRecDepth 100000
set_option maxHeartbeats 1000000
/-! repr of bools in lists -/
namespace DJ
open PySem PySem.Spec PyProof.Rows L2 GxR GX
def twoB (k g : D → Bool) (d : D) : D := .lst [.bl (k d), .bl (g d)]
section
variable {k g : D → Bool}
theorem two_plain : ∀ xs : List D, plainL (xs.map (twoB k g)) = true
  | [] => rfl
  | d :: ds => by
    rw [List.map_cons, plainL, two_plain ds]; rfl
def twoP (k g : D → Bool) (d : D) : PyData := .list [.bool (k d), .bool (g d)]
theorem two_py : ∀ xs : List D, pyL (xs.map (twoB k g)) = xs.map (twoP k g)
  | [] => rfl
  | d :: ds => by
    rw [List.map_cons, pyL, two_py ds]; rfl
theorem two_show : ∀ xs : List D, PyData.showableAll (xs.map (twoP k g)) = true
  | [] => rfl
  | d :: ds => by
    rw [List.map_cons, PyData.showableAll, two_show ds]; rfl
theorem two_dict : ∀ xs : List D, PyData.hasDictAll (xs.map (twoP k g)) = false
  | [] => rfl
  | d :: ds => by
    rw [List.map_cons, PyData.hasDictAll, two_dict ds]; rfl
theorem two_depth : ∀ xs : List D, PyData.depthAll (xs.map (twoP k g)) ≤ 2
  | [] => by rw [List.map_nil, PyData.depthAll]; decide
  | d :: ds => by
    rw [List.map_cons, PyData.depthAll]
    have := two_depth ds
    have e : PyData.depth (twoP k g d) = 1 := rfl
    rw [e]; omega
theorem two_len (d : D) : (twoP k g d).shown.length ≤ 20 := by
  unfold twoP
  cases k d <;> cases g d <;> decide +kernel
theorem two_sum : ∀ xs : List D, ((PyData.shownAll (xs.map (twoP k g))).map (·.length)).sum ≤ 20 * xs.length ∧ (PyData.shownAll (xs.map (twoP k g))).length = xs.length
  | [] => ⟨Nat.le_refl _, rfl⟩
  | d :: ds => by
    rw [List.map_cons, PyData.shownAll, List.map_cons, List.sum_cons, List.length_cons, List.length_cons]
    obtain ⟨h1, h2⟩ := two_sum ds
    have := two_len (k := k) (g := g) d
    exact ⟨by omega, by omega⟩
theorem two_repr {xs : List D} (h : xs.length ≤ 1000) {P : D → Cr} {n : Nat} : gRepr (.lst (xs.map (twoB k g))) P n = P (.str (D.lst (xs.map (twoB k g))).py.shown) n := by
  unfold gRepr
  have e : (D.lst (xs.map (twoB k g))).py = .list (xs.map (twoP k g)) := by rw [D.py, two_py]
  have h1 : (D.lst (xs.map (twoB k g))).plain = true := by rw [D.plain]; exact two_plain xs
  have h2 : PyData.showable (.list (xs.map (twoP k g))) = true := by rw [PyData.showable]; exact two_show xs
  have h3 : PyData.hasDict (.list (xs.map (twoP k g))) = false := by rw [PyData.hasDict]; exact two_dict xs
  have h4 : PyData.depth (.list (xs.map (twoP k g))) ≤ 50 := by
    rw [PyData.depth]
    have := two_depth (k := k) (g := g) xs
    omega
  have h5 : (PyData.shown (.list (xs.map (twoP k g)))).length ≤ sizeLine := by
    rw [PyData.shown]
    obtain ⟨q1, q2⟩ := two_sum (k := k) (g := g) xs
    have q3 := listText_len_le (PyData.shownAll (xs.map (twoP k g)))
    refine Nat.le_trans q3 (Nat.le_trans (m := 30000) (by omega) (by decide))
  rw [e]
  exact propext ⟨fun h => h.2, fun h => ⟨⟨h1, ⟨_, .inr rfl⟩, h2, h3, h4, h5⟩, h⟩⟩
end
theorem pick1 {d : D} : pick [0] [d] = [d] := rfl
theorem pick2 {d e : D} : pick [0, 1] [d, e] = [d, e] := rfl
theorem pick2b {d e : D} : pick [1, 0] [d, e] = [e, d] := rfl
theorem pick3 {d e f : D} : pick [0, 1, 2] [d, e, f] = [d, e, f] := rfl
theorem pick3b {d e f : D} : pick [0, 2, 1] [d, e, f] = [d, f, e] := rfl
theorem pick3c {d e f : D} : pick [1, 0, 2] [d, e, f] = [e, d, f] := rfl
theorem pick3d {d e f : D} : pick [2, 0, 1] [d, e, f] = [f, d, e] := rfl
theorem pick3e {d e f : D} : pick [1, 2, 0] [d, e, f] = [e, f, d] := rfl
theorem pick3f {d e f : D} : pick [2, 1, 0] [d, e, f] = [f, e, d] := rfl
end DJ

set_option linter.all false
namespace DJ
/-! fractions as rational numbers: sizes, lowest terms -/
def Sz (k : Nat) (q : Rat) : Prop := q.num.natAbs < 2 ^ k ∧ q.den < 2 ^ k
theorem Sz.mono {i j : Nat} {q : Rat} (h : Sz i q) (l : i ≤ j) : Sz j q :=
  ⟨Nat.lt_of_lt_of_le h.1 (Nat.pow_le_pow_right (by decide) l), Nat.lt_of_lt_of_le h.2 (Nat.pow_le_pow_right (by decide) l)⟩
theorem num_den_divInt (a b : Int) (hb : b ≠ 0) : (Rat.divInt a b).num.natAbs ≤ a.natAbs ∧ (Rat.divInt a b).den ≤ b.natAbs := by
  rw [Rat.num_divInt, Rat.den_divInt]
  constructor
  · refine Nat.le_trans (Int.natAbs_ediv_le_natAbs _ _) ?_
    rw [Int.natAbs_mul]
    refine Nat.le_trans (Nat.mul_le_mul_right _ (m := 1) ?_) (by omega)
    rw [Int.natAbs_sign_of_ne_zero hb]
    exact Nat.le_refl _
  · rw [if_neg hb]
    exact Nat.div_le_self _ _
theorem Sz.div {a b : Int} {k : Nat} (hb : b ≠ 0) (h1 : a.natAbs < 2 ^ k) (h2 : b.natAbs < 2 ^ k) : Sz k ((a : Rat) / (b : Rat)) := by
  rw [← Rat.divInt_eq_div]
  have := num_den_divInt a b hb
  exact ⟨Nat.lt_of_le_of_lt this.1 h1, Nat.lt_of_le_of_lt this.2 h2⟩
theorem q_eq (q : Rat) : q = (q.num : Rat) / ((q.den : Int) : Rat) := by
  rw [← Rat.divInt_eq_div, Rat.num_divInt_den]
theorem den_ne (q : Rat) : ((q.den : Int) : Rat) ≠ 0 := by
  have := q.den_nz
  intro h
  rw [← Rat.intCast_zero, Rat.intCast_inj] at h
  omega
theorem den_pos (q : Rat) : (0 : Rat) < ((q.den : Int) : Rat) := by
  have := q.den_nz
  rw [← Rat.intCast_zero, Rat.intCast_lt_intCast]
  omega
theorem Sz.mul {i j : Nat} {p q : Rat} (h : Sz i p) (k : Sz j q) : Sz (i + j) (p * q) := by
  have e : p * q = ((p.num * q.num : Int) : Rat) / (((p.den : Int) * (q.den : Int) : Int) : Rat) := by
    have h1 := q_eq p
    have h2 := q_eq q
    have h3 := den_ne p
    have h4 := den_ne q
    rw [Rat.intCast_mul, Rat.intCast_mul]
    grind
  rw [e]
  have d1 := p.den_nz
  have d2 := q.den_nz
  refine Sz.div ?_ ?_ ?_
  · exact Int.mul_ne_zero (by omega) (by omega)
  · rw [Int.natAbs_mul, Nat.pow_add]; exact Nat.mul_lt_mul'' h.1 k.1
  · rw [Int.natAbs_mul, Nat.pow_add]; exact Nat.mul_lt_mul'' h.2 k.2
theorem Sz.neg {i : Nat} {p : Rat} (h : Sz i p) : Sz i (-p) := by
  unfold Sz
  rw [Rat.neg_num, Rat.neg_den, Int.natAbs_neg]
  exact h
theorem Sz.add {i j : Nat} {p q : Rat} (h : Sz i p) (k : Sz j q) : Sz (i + j + 1) (p + q) := by
  have e : p + q = ((p.num * (q.den : Int) + q.num * (p.den : Int) : Int) : Rat) / (((p.den : Int) * (q.den : Int) : Int) : Rat) := by
    have h1 := q_eq p
    have h2 := q_eq q
    have h3 := den_ne p
    have h4 := den_ne q
    rw [Rat.intCast_add, Rat.intCast_mul, Rat.intCast_mul, Rat.intCast_mul]
    grind
  rw [e]
  have d1 := p.den_nz
  have d2 := q.den_nz
  refine Sz.div ?_ ?_ ?_
  · exact Int.mul_ne_zero (by omega) (by omega)
  · have a1 : p.num.natAbs * q.den < 2 ^ i * 2 ^ j := Nat.mul_lt_mul'' h.1 k.2
    have a2 : q.num.natAbs * p.den < 2 ^ j * 2 ^ i := Nat.mul_lt_mul'' k.1 h.2
    rw [Nat.mul_comm (2 ^ j)] at a2
    have a3 := Int.natAbs_add_le (p.num * (q.den : Int)) (q.num * (p.den : Int))
    rw [Int.natAbs_mul, Int.natAbs_mul, Int.natAbs_natCast, Int.natAbs_natCast] at a3
    rw [Nat.pow_succ, Nat.pow_add]
    omega
  · have a1 : p.den * q.den < 2 ^ i * 2 ^ j := Nat.mul_lt_mul'' h.2 k.2
    rw [Int.natAbs_mul, Int.natAbs_natCast, Int.natAbs_natCast, Nat.pow_succ, Nat.pow_add]
    omega
theorem Sz.sub {i j : Nat} {p q : Rat} (h : Sz i p) (k : Sz j q) : Sz (i + j + 1) (p - q) := by
  rw [Rat.sub_eq_add_neg]; exact h.add k.neg
theorem Sz.int {i : Int} {k : Nat} (h : i.natAbs < 2 ^ k) (k0 : 0 < k) : Sz k (i : Rat) := by
  unfold Sz
  rw [Rat.num_intCast, Rat.den_intCast]
  exact ⟨h, Nat.one_lt_two_pow (by omega)⟩
theorem Sz.inv {i : Nat} {p : Rat} (h : Sz i p) (hp : p ≠ 0) : Sz i (p⁻¹) := by
  have e : p⁻¹ = (((p.den : Int)) : Rat) / ((p.num : Int) : Rat) := by
    have h1 := q_eq p
    have h3 := den_ne p
    grind
  rw [e]
  exact Sz.div (by rw [ne_eq, Rat.num_eq_zero]; exact hp) (by rw [Int.natAbs_natCast]; exact h.2) h.1
theorem Sz.quo {i j : Nat} {p q : Rat} (h : Sz i p) (k : Sz j q) (hq : q ≠ 0) : Sz (i + j) (p / q) := by
  rw [Rat.div_def]; exact h.mul (k.inv hq)
/-- lowest terms as both programs find them -/
theorem low_num {a b g : Int} (hb : b ≠ 0) (hg : g.natAbs = Nat.gcd a.natAbs b.natAbs) (h1 : 0 < b → 0 < g) (h2 : b < 0 → g < 0) :
    a.fdiv g = ((a : Rat) / (b : Rat)).num ∧ b.fdiv g = (((a : Rat) / (b : Rat)).den : Int) := by
  rw [← Rat.divInt_eq_div, Rat.num_divInt, Rat.den_divInt, if_neg hb]
  have ga : g ∣ a := Int.natAbs_dvd_natAbs.mp (by rw [hg]; exact Nat.gcd_dvd_left _ _)
  have gb : g ∣ b := Int.natAbs_dvd_natAbs.mp (by rw [hg]; exact Nat.gcd_dvd_right _ _)
  have e : Int.gcd b a = g.natAbs := by rw [hg, Nat.gcd_comm]; rfl
  rw [Int.fdiv_eq_ediv_of_dvd ga, Int.fdiv_eq_ediv_of_dvd gb, e]
  rcases Int.lt_or_gt_of_ne hb with h | h
  · have := h2 h
    rw [Int.sign_eq_neg_one_of_neg h]
    have e2 : ((g.natAbs : Nat) : Int) = - g := by omega
    rw [e2]
    refine ⟨by rw [Int.ediv_neg, Int.neg_mul, Int.one_mul, Int.neg_ediv_of_dvd ga, Int.neg_neg], ?_⟩
    rw [Int.natCast_ediv, e2]
    have e3 : ((b.natAbs : Nat) : Int) = - b := by omega
    rw [e3, Int.ediv_neg, Int.neg_ediv_of_dvd gb, Int.neg_neg]
  · have := h1 h
    rw [Int.sign_eq_one_of_pos h]
    have e2 : ((g.natAbs : Nat) : Int) = g := by omega
    rw [e2, Int.one_mul]
    refine ⟨rfl, ?_⟩
    rw [Int.natCast_ediv, e2]
    have e3 : ((b.natAbs : Nat) : Int) = b := by omega
    rw [e3]
theorem q_add (p q : Rat) : ((p.num * (q.den : Int) + q.num * (p.den : Int) : Int) : Rat) / (((p.den : Int) * (q.den : Int) : Int) : Rat) = p + q := by
  have h1 := q_eq p
  have h2 := q_eq q
  have h3 := den_ne p
  have h4 := den_ne q
  rw [Rat.intCast_add, Rat.intCast_mul, Rat.intCast_mul, Rat.intCast_mul]
  grind
theorem q_sub (p q : Rat) : ((p.num * (q.den : Int) - q.num * (p.den : Int) : Int) : Rat) / (((p.den : Int) * (q.den : Int) : Int) : Rat) = p - q := by
  have h1 := q_eq p
  have h2 := q_eq q
  have h3 := den_ne p
  have h4 := den_ne q
  rw [Rat.intCast_sub, Rat.intCast_mul, Rat.intCast_mul, Rat.intCast_mul]
  grind
theorem q_mul (p q : Rat) : ((p.num * q.num : Int) : Rat) / (((p.den : Int) * (q.den : Int) : Int) : Rat) = p * q := by
  have h1 := q_eq p
  have h2 := q_eq q
  have h3 := den_ne p
  have h4 := den_ne q
  rw [Rat.intCast_mul, Rat.intCast_mul]
  grind
theorem q_div (p q : Rat) (hq : q ≠ 0) : ((p.num * (q.den : Int) : Int) : Rat) / (((p.den : Int) * q.num : Int) : Rat) = p / q := by
  have h1 := q_eq p
  have h2 := q_eq q
  have h3 := den_ne p
  have h4 := den_ne q
  rw [Rat.intCast_mul, Rat.intCast_mul]
  grind
theorem num_pos {q : Rat} : 0 < q.num ↔ 0 < q := by
  have h1 : 0 ≤ q.num ↔ 0 ≤ q := Rat.num_nonneg
  have h2 : q.num = 0 ↔ q = 0 := Rat.num_eq_zero
  constructor
  · intro h
    have a1 := h1.mp (Int.le_of_lt h)
    have a2 : q ≠ 0 := fun e => by have := h2.mpr e; omega
    grind
  · intro h
    have a1 := h1.mpr (Rat.le_of_lt h)
    have a2 : q.num ≠ 0 := fun e => by have := h2.mp e; grind
    omega
/-- signs and comparisons -/
theorem le_q {p q : Rat} : p.num * (q.den : Int) ≤ q.num * (p.den : Int) ↔ p ≤ q := (Rat.le_iff p q).symm
theorem cast_den (q : Rat) (h : q.den = 1) : (q.num : Rat) = q := by
  have := q_eq q
  rw [h] at this
  grind
/-- three whole numbers in lowest terms -/
def gcd3 (a b c : Int) : Nat := Nat.gcd (Nat.gcd a.natAbs b.natAbs) c.natAbs
theorem gcd3_pos {a b c : Int} (h : ¬ (a = 0 ∧ b = 0 ∧ c = 0)) : 0 < gcd3 a b c := by
  unfold gcd3
  refine Nat.pos_of_ne_zero fun e => ?_
  obtain ⟨e1, e2⟩ := Nat.gcd_eq_zero_iff.mp e
  obtain ⟨e3, e4⟩ := Nat.gcd_eq_zero_iff.mp e1
  omega
theorem gcd3_dvd (a b c : Int) : (gcd3 a b c : Int) ∣ a ∧ (gcd3 a b c : Int) ∣ b ∧ (gcd3 a b c : Int) ∣ c := by
  unfold gcd3
  refine ⟨?_, ?_, ?_⟩ <;> refine Int.natAbs_dvd_natAbs.mp ?_ <;> rw [Int.natAbs_natCast]
  · exact Nat.dvd_trans (Nat.gcd_dvd_left _ _) (Nat.gcd_dvd_left _ _)
  · exact Nat.dvd_trans (Nat.gcd_dvd_left _ _) (Nat.gcd_dvd_right _ _)
  · exact Nat.gcd_dvd_right _ _
theorem gcd3_mul (m : Nat) (a b c : Int) : gcd3 (m * a) (m * b) (m * c) = m * gcd3 a b c := by
  unfold gcd3
  rw [Int.natAbs_mul, Int.natAbs_mul, Int.natAbs_mul, Int.natAbs_natCast, Nat.gcd_mul_left, Nat.gcd_mul_left]
/-- the lowest of proportional triples are the same -/
theorem low3_eq {a b c a' b' c' : Int} {m n : Nat} (hm : 0 < m) (hn : 0 < n) (h : ¬ (a = 0 ∧ b = 0 ∧ c = 0)) (e1 : (m : Int) * a = n * a') (e2 : (m : Int) * b = n * b') (e3 : (m : Int) * c = n * c') :
    a / (gcd3 a b c : Int) = a' / (gcd3 a' b' c' : Int) ∧ b / (gcd3 a b c : Int) = b' / (gcd3 a' b' c' : Int) ∧ c / (gcd3 a b c : Int) = c' / (gcd3 a' b' c' : Int) := by
  have g : m * gcd3 a b c = n * gcd3 a' b' c' := by rw [← gcd3_mul, ← gcd3_mul, e1, e2, e3]
  have gp := gcd3_pos h
  have m0 : (m : Int) ≠ 0 := by omega
  have n0 : (n : Int) ≠ 0 := by omega
  have gI : (m : Int) * (gcd3 a b c : Int) = n * (gcd3 a' b' c' : Int) := by exact_mod_cast g
  refine ⟨?_, ?_, ?_⟩
  · rw [← Int.mul_ediv_mul_of_pos (a := (m : Int)) a _ (by omega), ← Int.mul_ediv_mul_of_pos (a := (n : Int)) a' _ (by omega), e1, gI]
  · rw [← Int.mul_ediv_mul_of_pos (a := (m : Int)) b _ (by omega), ← Int.mul_ediv_mul_of_pos (a := (n : Int)) b' _ (by omega), e2, gI]
  · rw [← Int.mul_ediv_mul_of_pos (a := (m : Int)) c _ (by omega), ← Int.mul_ediv_mul_of_pos (a := (n : Int)) c' _ (by omega), e3, gI]
/-- the three numbers of a triple of rationals over one -/
def w3 (x y z : Rat) : Int × Int × Int := (x.num * y.den * z.den, y.num * x.den * z.den, z.num * x.den * y.den)
def k3 (x y z : Rat) : Int × Int × Int :=
  let t := w3 x y z
  let g : Int := gcd3 t.1 t.2.1 t.2.2
  (t.1 / g, t.2.1 / g, t.2.2 / g)
theorem w3_is (x y z : Rat) : ∃ m : Nat, 0 < m ∧ ((w3 x y z).1 : Rat) = m * x ∧ ((w3 x y z).2.1 : Rat) = m * y ∧ ((w3 x y z).2.2 : Rat) = m * z := by
  have d1 := x.den_pos
  have d2 := y.den_pos
  have d3 := z.den_pos
  refine ⟨x.den * y.den * z.den, Nat.mul_pos (Nat.mul_pos d1 d2) d3, ?_⟩
  have h1 := q_eq x
  have h2 := q_eq y
  have h3 := q_eq z
  have n1 := den_ne x
  have n2 := den_ne y
  have n3 := den_ne z
  rw [Rat.intCast_natCast] at h1 h2 h3 n1 n2 n3
  simp only [w3, Rat.intCast_mul, Rat.natCast_mul, Rat.intCast_natCast]
  refine ⟨?_, ?_, ?_⟩ <;> grind
theorem rat_pos_frac {k : Rat} (hk : 0 < k) : ∃ m n : Nat, 0 < m ∧ 0 < n ∧ k * m = n := by
  refine ⟨k.den, k.num.natAbs, k.den_pos, ?_, ?_⟩
  · have := num_pos.mpr hk; omega
  · have h1 := q_eq k
    have n1 := den_ne k
    have e : ((k.num.natAbs : Nat) : Rat) = (k.num : Rat) := by
      rw [← Rat.intCast_natCast]
      have := num_pos.mpr hk
      have e2 : ((k.num.natAbs : Nat) : Int) = k.num := by omega
      rw [e2]
    rw [e]
    rw [Rat.intCast_natCast] at h1 n1
    grind
theorem k3_is {a b c : Int} {x y z k : Rat} (hk : 0 < k) (h : ¬ (a = 0 ∧ b = 0 ∧ c = 0)) (e1 : (a : Rat) = k * x) (e2 : (b : Rat) = k * y) (e3 : (c : Rat) = k * z) :
    k3 x y z = (a / (gcd3 a b c : Int), b / (gcd3 a b c : Int), c / (gcd3 a b c : Int)) := by
  obtain ⟨m, m0, f1, f2, f3⟩ := w3_is x y z
  obtain ⟨p, q, p0, q0, hpq⟩ := rat_pos_frac hk
  have mul : ∀ {u v : Int} {r : Rat}, (u : Rat) = k * r → (v : Rat) = m * r → ((m * p : Nat) : Int) * u = ((q : Nat) : Int) * v := by
    intro u v r h1 h2
    rw [← Rat.intCast_inj, Rat.intCast_mul, Rat.intCast_mul, Rat.intCast_natCast, Rat.intCast_natCast, Rat.natCast_mul]
    grind
  have := low3_eq (m := m * p) (n := q) (Nat.mul_pos m0 p0) q0 h (mul e1 f1) (mul e2 f2) (mul e3 f3)
  unfold k3
  simp only [this]
end DJ
namespace DJ
theorem icast_ne {b : Int} (h : b ≠ 0) : (b : Rat) ≠ 0 := fun e => h (Rat.intCast_eq_zero_iff.mp e)
theorem rp_add {a b c e : Int} (hb : b ≠ 0) (he : e ≠ 0) : ((a * e + c * b : Int) : Rat) / ((b * e : Int) : Rat) = (a : Rat) / b + (c : Rat) / e := by
  have := icast_ne hb
  have := icast_ne he
  simp only [Rat.intCast_add, Rat.intCast_mul]
  grind
theorem rp_sub {a b c e : Int} (hb : b ≠ 0) (he : e ≠ 0) : ((a * e - c * b : Int) : Rat) / ((b * e : Int) : Rat) = (a : Rat) / b - (c : Rat) / e := by
  have := icast_ne hb
  have := icast_ne he
  simp only [Rat.intCast_sub, Rat.intCast_mul]
  grind
theorem rp_mul {a b c e : Int} (hb : b ≠ 0) (he : e ≠ 0) : ((a * c : Int) : Rat) / ((b * e : Int) : Rat) = ((a : Rat) / b) * ((c : Rat) / e) := by
  have := icast_ne hb
  have := icast_ne he
  simp only [Rat.intCast_mul]
  grind
theorem rp_div {a b c e : Int} (hb : b ≠ 0) (he : e ≠ 0) (hc : c ≠ 0) : ((a * e : Int) : Rat) / ((b * c : Int) : Rat) = ((a : Rat) / b) / ((c : Rat) / e) := by
  have := icast_ne hb
  have := icast_ne he
  have := icast_ne hc
  simp only [Rat.intCast_mul]
  grind
theorem nd (q : Rat) : (q.num : Rat) / ((q.den : Int) : Rat) = q := (q_eq q).symm
theorem over1 (a : Int) : (a : Rat) / ((1 : Int) : Rat) = a := by rw [Rat.intCast_one]; grind
theorem num_ne {q : Rat} (h : q ≠ 0) : q.num ≠ 0 := fun e => h (Rat.num_eq_zero.mp e)
theorem den_ne0 (q : Rat) : ((q.den : Nat) : Int) ≠ 0 := by have := q.den_nz; omega
theorem den_gt0 (q : Rat) : 0 < ((q.den : Nat) : Int) := by have := q.den_nz; omega
/-- what k3 is -/
theorem k3_props {x y z : Rat} (h : ¬ (x = 0 ∧ y = 0 ∧ z = 0)) : ∃ k : Rat, 0 < k ∧ ((k3 x y z).1 : Rat) = k * x ∧ ((k3 x y z).2.1 : Rat) = k * y ∧ ((k3 x y z).2.2 : Rat) = k * z ∧ gcd3 (k3 x y z).1 (k3 x y z).2.1 (k3 x y z).2.2 = 1 := by
  obtain ⟨m, m0, f1, f2, f3⟩ := w3_is x y z
  have mR : (0 : Rat) < (m : Rat) := by rw [show (0 : Rat) = ((0 : Nat) : Rat) from rfl]; exact Rat.natCast_lt_natCast.mpr m0
  have nz : ¬ ((w3 x y z).1 = 0 ∧ (w3 x y z).2.1 = 0 ∧ (w3 x y z).2.2 = 0) := by
    rintro ⟨e1, e2, e3⟩
    rw [e1, Rat.intCast_zero] at f1
    rw [e2, Rat.intCast_zero] at f2
    rw [e3, Rat.intCast_zero] at f3
    exact h ⟨by grind, by grind, by grind⟩
  have gp := gcd3_pos nz
  obtain ⟨d1, d2, d3⟩ := gcd3_dvd (w3 x y z).1 (w3 x y z).2.1 (w3 x y z).2.2
  have e1 := Int.mul_ediv_cancel' d1
  have e2 := Int.mul_ediv_cancel' d2
  have e3 := Int.mul_ediv_cancel' d3
  have gR : (0 : Rat) < ((gcd3 (w3 x y z).1 (w3 x y z).2.1 (w3 x y z).2.2 : Nat) : Rat) := by rw [show (0 : Rat) = ((0 : Nat) : Rat) from rfl]; exact Rat.natCast_lt_natCast.mpr gp
  have c1 := congrArg (fun i : Int => (i : Rat)) e1
  have c2 := congrArg (fun i : Int => (i : Rat)) e2
  have c3 := congrArg (fun i : Int => (i : Rat)) e3
  simp only [Rat.intCast_mul, Rat.intCast_natCast] at c1 c2 c3
  refine ⟨(m : Rat) / (gcd3 (w3 x y z).1 (w3 x y z).2.1 (w3 x y z).2.2 : Nat), ?_, ?_, ?_, ?_, ?_⟩
  · rw [Rat.div_def]; exact Rat.mul_pos mR (Rat.inv_pos.mpr gR)
  · show (((w3 x y z).1 / (gcd3 (w3 x y z).1 (w3 x y z).2.1 (w3 x y z).2.2 : Int) : Int) : Rat) = _
    grind
  · show (((w3 x y z).2.1 / (gcd3 (w3 x y z).1 (w3 x y z).2.1 (w3 x y z).2.2 : Int) : Int) : Rat) = _
    grind
  · show (((w3 x y z).2.2 / (gcd3 (w3 x y z).1 (w3 x y z).2.1 (w3 x y z).2.2 : Int) : Int) : Rat) = _
    grind
  · have := gcd3_mul (gcd3 (w3 x y z).1 (w3 x y z).2.1 (w3 x y z).2.2) ((w3 x y z).1 / (gcd3 (w3 x y z).1 (w3 x y z).2.1 (w3 x y z).2.2 : Int)) ((w3 x y z).2.1 / (gcd3 (w3 x y z).1 (w3 x y z).2.1 (w3 x y z).2.2 : Int)) ((w3 x y z).2.2 / (gcd3 (w3 x y z).1 (w3 x y z).2.1 (w3 x y z).2.2 : Int))
    rw [e1, e2, e3] at this
    have h2 : gcd3 (w3 x y z).1 (w3 x y z).2.1 (w3 x y z).2.2 * gcd3 (k3 x y z).1 (k3 x y z).2.1 (k3 x y z).2.2 = gcd3 (w3 x y z).1 (w3 x y z).2.1 (w3 x y z).2.2 * 1 := by rw [Nat.mul_one]; exact this.symm
    exact Nat.eq_of_mul_eq_mul_left gp h2
theorem k3_int {a b c : Int} (h : gcd3 a b c = 1) : k3 (a : Rat) (b : Rat) (c : Rat) = (a, b, c) := by
  have nz : ¬ (a = 0 ∧ b = 0 ∧ c = 0) := by
    rintro ⟨rfl, rfl, rfl⟩
    exact absurd h (by decide)
  rw [k3_is (k := 1) (by decide) nz (by grind) (by grind) (by grind), h]
  simp
theorem k3_size {x y z : Rat} {i : Nat} (h1 : Sz i x) (h2 : Sz i y) (h3 : Sz i z) : (k3 x y z).1.natAbs < 2 ^ (3 * i) ∧ (k3 x y z).2.1.natAbs < 2 ^ (3 * i) ∧ (k3 x y z).2.2.natAbs < 2 ^ (3 * i) := by
  have e : (2 : Nat) ^ (3 * i) = 2 ^ i * 2 ^ i * 2 ^ i := by rw [← Nat.pow_add, ← Nat.pow_add]; congr 1; omega
  rw [e]
  have key : ∀ {a b c : Nat}, a < 2 ^ i → b < 2 ^ i → c < 2 ^ i → a * b * c < 2 ^ i * 2 ^ i * 2 ^ i := fun h1 h2 h3 => Nat.mul_lt_mul'' (Nat.mul_lt_mul'' h1 h2) h3
  unfold k3
  refine ⟨?_, ?_, ?_⟩
  · refine Nat.lt_of_le_of_lt (Int.natAbs_ediv_le_natAbs _ _) ?_
    simp only [w3, Int.natAbs_mul, Int.natAbs_natCast]
    exact key h1.1 h2.2 h3.2
  · refine Nat.lt_of_le_of_lt (Int.natAbs_ediv_le_natAbs _ _) ?_
    simp only [w3, Int.natAbs_mul, Int.natAbs_natCast]
    exact key h2.1 h1.2 h3.2
  · refine Nat.lt_of_le_of_lt (Int.natAbs_ediv_le_natAbs _ _) ?_
    simp only [w3, Int.natAbs_mul, Int.natAbs_natCast]
    exact key h3.1 h1.2 h2.2
/-- sizes of numerator and denominator -/
def Sz2 (a b : Nat) (q : Rat) : Prop := q.num.natAbs < 2 ^ a ∧ q.den < 2 ^ b
theorem Sz2.div {x y : Int} {a b : Nat} (hb : y ≠ 0) (h1 : x.natAbs < 2 ^ a) (h2 : y.natAbs < 2 ^ b) : Sz2 a b ((x : Rat) / (y : Rat)) := by
  rw [← Rat.divInt_eq_div]
  have := num_den_divInt x y hb
  exact ⟨Nat.lt_of_le_of_lt this.1 h1, Nat.lt_of_le_of_lt this.2 h2⟩
theorem Sz2.sz {a b n : Nat} {q : Rat} (h : Sz2 a b q) (l : max a b ≤ n) : Sz n q :=
  ⟨Nat.lt_of_lt_of_le h.1 (Nat.pow_le_pow_right (by decide) (by omega)), Nat.lt_of_lt_of_le h.2 (Nat.pow_le_pow_right (by decide) (by omega))⟩
theorem Sz2.mul {a b c d : Nat} {p q : Rat} (h : Sz2 a b p) (k : Sz2 c d q) : Sz2 (a + c) (b + d) (p * q) := by
  have d1 := p.den_nz
  have d2 := q.den_nz
  rw [← q_mul p q]
  refine Sz2.div ?_ ?_ ?_
  · exact Int.mul_ne_zero (by omega) (by omega)
  · rw [Int.natAbs_mul, Nat.pow_add]; exact Nat.mul_lt_mul'' h.1 k.1
  · rw [Int.natAbs_mul, Nat.pow_add]; exact Nat.mul_lt_mul'' h.2 k.2
theorem Sz2.neg {a b : Nat} {p : Rat} (h : Sz2 a b p) : Sz2 a b (-p) := by
  unfold Sz2
  rw [Rat.neg_num, Rat.neg_den, Int.natAbs_neg]
  exact h
theorem Sz2.add {a b c d : Nat} {p q : Rat} (h : Sz2 a b p) (k : Sz2 c d q) : Sz2 (max (a + d) (c + b) + 1) (b + d) (p + q) := by
  have d1 := p.den_nz
  have d2 := q.den_nz
  rw [← q_add p q]
  refine Sz2.div ?_ ?_ ?_
  · exact Int.mul_ne_zero (by omega) (by omega)
  · have a1 : p.num.natAbs * q.den < 2 ^ a * 2 ^ d := Nat.mul_lt_mul'' h.1 k.2
    have a2 : q.num.natAbs * p.den < 2 ^ c * 2 ^ b := Nat.mul_lt_mul'' k.1 h.2
    rw [← Nat.pow_add] at a1 a2
    have b1 : 2 ^ (a + d) ≤ 2 ^ max (a + d) (c + b) := Nat.pow_le_pow_right (by decide) (by omega)
    have b2 : 2 ^ (c + b) ≤ 2 ^ max (a + d) (c + b) := Nat.pow_le_pow_right (by decide) (by omega)
    have a3 := Int.natAbs_add_le (p.num * (q.den : Int)) (q.num * (p.den : Int))
    rw [Int.natAbs_mul, Int.natAbs_mul, Int.natAbs_natCast, Int.natAbs_natCast] at a3
    rw [Nat.pow_succ]
    omega
  · rw [Int.natAbs_mul, Nat.pow_add]; exact Nat.mul_lt_mul'' h.2 k.2
theorem Sz2.sub {a b c d : Nat} {p q : Rat} (h : Sz2 a b p) (k : Sz2 c d q) : Sz2 (max (a + d) (c + b) + 1) (b + d) (p - q) := by
  rw [Rat.sub_eq_add_neg]; exact h.add k.neg
theorem Sz2.int {i : Int} {k : Nat} (h : i.natAbs < 2 ^ k) : Sz2 k 1 (i : Rat) := by
  unfold Sz2
  rw [Rat.num_intCast, Rat.den_intCast]
  exact ⟨h, by decide⟩
/-- sizes found by the look of an expression -/
class SzC (q : Rat) (k : outParam Nat) : Prop where
  sz : Sz k q
class SzP (q : Rat) (a b : outParam Nat) : Prop where
  sz : Sz2 a b q
instance {p : Rat} {k : Nat} [a : SzC p k] : SzP p k k := ⟨a.sz⟩
instance {p q : Rat} {a b c d : Nat} [h : SzP p a b] [k : SzP q c d] : SzP (p + q) (max (a + d) (c + b) + 1) (b + d) := ⟨h.sz.add k.sz⟩
instance {p q : Rat} {a b c d : Nat} [h : SzP p a b] [k : SzP q c d] : SzP (p - q) (max (a + d) (c + b) + 1) (b + d) := ⟨h.sz.sub k.sz⟩
instance {p q : Rat} {a b c d : Nat} [h : SzP p a b] [k : SzP q c d] : SzP (p * q) (a + c) (b + d) := ⟨h.sz.mul k.sz⟩
instance {p : Rat} {a b : Nat} [h : SzP p a b] : SzP (-p) a b := ⟨h.sz.neg⟩
instance : SzP (0 : Rat) 1 1 := ⟨by unfold Sz2; decide⟩
instance : SzP (1 : Rat) 1 1 := ⟨by unfold Sz2; decide⟩
instance : SzP (2 : Rat) 2 1 := ⟨by unfold Sz2; decide⟩
instance : SzP (4 : Rat) 3 1 := ⟨by unfold Sz2; decide⟩
instance : SzP (-1 : Rat) 1 1 := ⟨by unfold Sz2; decide⟩
theorem szc {q : Rat} {a b n : Nat} [h : SzP q a b] (l : max a b ≤ n) : Sz n q := h.sz.sz l
theorem s2c {q : Rat} {a b c d : Nat} [h : SzP q a b] (l : a ≤ c ∧ b ≤ d) : Sz2 c d q :=
  ⟨Nat.lt_of_lt_of_le h.sz.1 (Nat.pow_le_pow_right (by decide) l.1), Nat.lt_of_lt_of_le h.sz.2 (Nat.pow_le_pow_right (by decide) l.2)⟩
end DJ

set_option Elab.async false
set_option linter.all false
set_option maxRecDepth 100000
set_option maxHeartbeats 1000000
/-! fractions and kinds as values; promises in rational numbers -/
namespace DJ
open PySem PySem.Spec PyProof.Rows L2 GxR GX
def fr (q : Rat) : D := .tup [.int q.num, .int ((q.den : Nat) : Int)]
def kd (x y z : Rat) : D := .tup [.int (k3 x y z).1, .int (k3 x y z).2.1, .int (k3 x y z).2.2]
def gPr : D → (Int → Int → Cr) → Cr
  | .tup [.int a, .int b], Q => Q a b
  | _, _ => fun _ => False
def g3I : D → (Int → Int → Int → Cr) → Cr
  | .tup [.int a, .int b, .int c], Q => Q a b c
  | _, _ => fun _ => False
section
variable {a b c : Int} {Q : Int → Int → Cr} {R : Int → Int → Int → Cr} {d : D} {n : Nat}
theorem ePr : gPr (.tup [.int a, .int b]) Q = Q a b := rfl
theorem e3I : g3I (.tup [.int a, .int b, .int c]) R = R a b c := rfl
theorem gPr_inv (h : gPr d Q n) : ∃ a b, d = .tup [.int a, .int b] ∧ Q a b n := by
  unfold gPr at h
  split at h
  · exact ⟨_, _, rfl, h⟩
  · exact h.elim
theorem g3I_inv (h : g3I d R n) : ∃ a b c, d = .tup [.int a, .int b, .int c] ∧ R a b c n := by
  unfold g3I at h
  split at h
  · exact ⟨_, _, _, rfl, h⟩
  · exact h.elim
end
/-- a pair as the number it is -/
def gFr (k : Nat) (d : D) (Q : Rat → Cr) : Cr := gPr d fun a b n => (0 < b ∧ Bt k a ∧ Bt k b) ∧ Q ((a : Rat) / (b : Rat)) n
theorem eFr {k : Nat} {a b : Int} {Q : Rat → Cr} : gFr k (.tup [.int a, .int b]) Q = fun n => (0 < b ∧ Bt k a ∧ Bt k b) ∧ Q ((a : Rat) / (b : Rat)) n := rfl
theorem gFr_inv {k : Nat} {d : D} {Q : Rat → Cr} {n : Nat} (h : gFr k d Q n) : ∃ a b : Int, d = .tup [.int a, .int b] ∧ (0 < b ∧ Bt k a ∧ Bt k b) ∧ Q ((a : Rat) / (b : Rat)) n := gPr_inv h
theorem btn {q : Rat} {a b n : Nat} [h : SzP q a b] (l : a ≤ n) : Bt n q.num := Bt.mono h.sz.1 l
theorem btd {q : Rat} {a b n : Nat} [h : SzP q a b] (l : b ≤ n) : Bt n ((q.den : Nat) : Int) := Bt.mono (show Bt b ((q.den : Nat) : Int) by unfold Bt; rw [Int.natAbs_natCast]; exact h.sz.2) l
theorem Bt.szq {a b : Int} {k : Nat} (hb : b ≠ 0) (h1 : Bt k a) (h2 : Bt k b) : Sz k ((a : Rat) / (b : Rat)) := Sz.div hb h1 h2
/-! promises -/
def sRat : Spec := g2 fun d e P => gInt d fun a => gInt e fun b n => (b ≠ 0 ∧ Bt 8000 a ∧ Bt 8000 b) ∧ P (fr ((a : Rat) / (b : Rat))) n
def sPlus : Spec := g2 fun d e P => gFr 3000 d fun p => gFr 3000 e fun q => P (fr (p + q))
def sMinus : Spec := g2 fun d e P => gFr 3000 d fun p => gFr 3000 e fun q => P (fr (p - q))
def sTimes : Spec := g2 fun d e P => gFr 3000 d fun p => gFr 3000 e fun q => P (fr (p * q))
def sOverF : Spec := g2 fun d e P => gFr 3000 d fun p => gFr 3000 e fun q n => q ≠ 0 ∧ P (fr (p / q)) n
theorem rat_old {ds : List D} {P : D → Cr} {n : Nat} (h : sRat ds P n) : sRatio ds P n := by
  obtain ⟨d, e, rfl, h1⟩ := g2_inv h
  obtain ⟨a, rfl, h2⟩ := gInt_inv h1
  obtain ⟨b, rfl, ⟨b0, ba, bb⟩, hp⟩ := gInt_inv h2
  refine ⟨a, b, rfl, b0, ba, bb, fun g g0 hg h3 h4 => ?_⟩
  obtain ⟨e1, e2⟩ := low_num (a := a) b0 hg h3 h4
  rw [e1, e2]; exact hp
theorem fracB_fr (q : Rat) : fracB (fr q) = true := by
  refine fracB_iff.mpr ⟨_, _, rfl, den_gt0 q, ?_⟩
  rw [Int.natAbs_natCast]
  exact q.reduced
theorem fr_fine {q : Rat} (h : Sz 1000 q) : (fr q).fine = true := fine_tup.mpr (f2 (fine_int.mpr h.1) (fine_int.mpr (show Bt 1000 _ by unfold Bt; rw [Int.natAbs_natCast]; exact h.2)))
theorem fr_inj {p q : Rat} : fr p = fr q ↔ p = q := by
  constructor
  · intro h
    unfold fr at h
    simp only [D.tup.injEq, List.cons.injEq, D.int.injEq, and_true] at h
    exact Rat.ext h.1 (by omega)
  · rintro rfl; rfl
theorem kd_fine {x y z : Rat} (h1 : Sz 300 x) (h2 : Sz 300 y) (h3 : Sz 300 z) : (kd x y z).fine = true := by
  obtain ⟨a, b, c⟩ := k3_size h1 h2 h3
  exact fine_tup.mpr (f3 (fine_int.mpr (Bt.mono a (by decide))) (fine_int.mpr (Bt.mono b (by decide))) (fine_int.mpr (Bt.mono c (by decide))))
theorem disc_nz {x y z : Rat} (h : 0 < y * y - x * z) : ¬ (x = 0 ∧ y = 0 ∧ z = 0) := by
  rintro ⟨rfl, rfl, rfl⟩
  grind
theorem kd_pos {x y z : Rat} (h : 0 < y * y - x * z) : 0 < (k3 x y z).2.1 * (k3 x y z).2.1 - (k3 x y z).1 * (k3 x y z).2.2 ∧ gcd3 (k3 x y z).1 (k3 x y z).2.1 (k3 x y z).2.2 = 1 := by
  obtain ⟨k, k0, e1, e2, e3, g⟩ := k3_props (disc_nz h)
  refine ⟨?_, g⟩
  rw [← Rat.intCast_pos, Rat.intCast_sub, Rat.intCast_mul, Rat.intCast_mul, e1, e2, e3]
  have : (k * y * (k * y) - k * x * (k * z)) = (k * k) * (y * y - x * z) := by grind
  rw [this]
  exact Rat.mul_pos (Rat.mul_pos k0 k0) h
theorem kindB_kd {x y z : Rat} (h : 0 < y * y - x * z) : kindB (kd x y z) = true := by
  obtain ⟨h1, h2⟩ := kd_pos h
  unfold kd
  rw [kindB_int, decide_eq_true h1, Bool.and_true, decide_eq_true_eq]
  exact h2
/-- checks that let pass -/
def sChk (f : D → Bool) : Spec := g1 fun d P n => (d.fine = true ∧ f d = true) ∧ P .non n
/-! repr of what is small -/
mutual
def D.shy : D → Bool
  | .non | .bl _ | .str _ => true
  | .int i => fitB i
  | .tup xs | .lst xs => shyL xs
  | _ => false
def shyL : List D → Bool
  | [] => true
  | d :: ds => D.shy d && shyL ds
end
mutual
def D.cost : D → Nat
  | .non => 4
  | .bl _ => 5
  | .int _ => 1001
  | .str x => (PyData.shown (.str x)).length
  | .tup xs | .lst xs => costL xs + 3
  | _ => 0
def costL : List D → Nat
  | [] => 0
  | d :: ds => D.cost d + 2 + costL ds
end
theorem int_show {i : Int} (h : fitB i = true) : i.natAbs.log2 < 1920 ∧ (PyData.shown (.int i)).length ≤ 1001 := by
  have hb := fitB_iff.mp h
  refine ⟨Nat.lt_trans (hb.log (k := 1001) (by decide) (by decide)) (by decide), ?_⟩
  have := int_text_length_le (k := 1000) (by decide) (hb.log (k := 1000) (by decide) (by decide))
  show (Str.ofString (toString i)).length ≤ 1001
  rw [PySem.ofString_length]; exact this
mutual
theorem shy_ok : ∀ d : D, d.shy = true → d.plain = true ∧ d.py.showable = true ∧ d.py.hasDict = false ∧ d.py.shown.length ≤ d.cost
  | .non, _ => ⟨rfl, rfl, rfl, by decide +kernel⟩
  | .bl b, _ => ⟨rfl, rfl, rfl, by cases b <;> decide +kernel⟩
  | .int i, h => by
    have h : fitB i = true := by simpa only [D.shy] using h
    obtain ⟨h1, h2⟩ := int_show h
    exact ⟨rfl, by simp only [D.py, PyData.showable, decide_eq_true_eq]; exact h1, rfl, by simp only [D.py, D.cost]; exact h2⟩
  | .str x, h => ⟨rfl, rfl, rfl, by simp only [D.py, D.cost]; exact Nat.le_refl _⟩
  | .tup xs, h => by
    have h : shyL xs = true := by simpa only [D.shy] using h
    obtain ⟨h1, h2, h3, h4⟩ := shyL_ok xs h
    refine ⟨by rw [D.plain]; exact h1, ?_, ?_, ?_⟩
    · rw [D.py, PyData.showable]; exact h2
    · rw [D.py, PyData.hasDict]; exact h3
    · rw [D.py, PyData.shown, D.cost]
      have := tupleText_len_le (PyData.shownAll (pyL xs))
      omega
  | .lst xs, h => by
    have h : shyL xs = true := by simpa only [D.shy] using h
    obtain ⟨h1, h2, h3, h4⟩ := shyL_ok xs h
    refine ⟨by rw [D.plain]; exact h1, ?_, ?_, ?_⟩
    · rw [D.py, PyData.showable]; exact h2
    · rw [D.py, PyData.hasDict]; exact h3
    · rw [D.py, PyData.shown, D.cost]
      have := listText_len_le (PyData.shownAll (pyL xs))
      omega
  | .dic _ _, h => by simp only [D.shy] at h; cases h
  | .scr _, h => by simp only [D.shy] at h; cases h
  | .well, h => by simp only [D.shy] at h; cases h
  | .ty _, h => by simp only [D.shy] at h; cases h
  | .adr _, h => by simp only [D.shy] at h; cases h
theorem shyL_ok : ∀ xs : List D, shyL xs = true → plainL xs = true ∧ PyData.showableAll (pyL xs) = true ∧ PyData.hasDictAll (pyL xs) = false ∧ ((PyData.shownAll (pyL xs)).map (·.length)).sum + 2 * (PyData.shownAll (pyL xs)).length ≤ costL xs
  | [], _ => ⟨rfl, rfl, rfl, by decide +kernel⟩
  | d :: ds, h => by
    have h : d.shy = true ∧ shyL ds = true := by simpa only [shyL, Bool.and_eq_true] using h
    obtain ⟨h1, h2, h3, h4⟩ := shy_ok d h.1
    obtain ⟨k1, k2, k3, k4⟩ := shyL_ok ds h.2
    refine ⟨by rw [plainL, h1, k1]; rfl, ?_, ?_, ?_⟩
    · rw [pyL, PyData.showableAll, h2, k2]; rfl
    · rw [pyL, PyData.hasDictAll, h3, k3]; rfl
    · rw [pyL, PyData.shownAll, List.map_cons, List.sum_cons, List.length_cons, costL]
      omega
end
mutual
def D.dp : D → Nat
  | .tup xs | .lst xs => dpL xs + 1
  | _ => 1
def dpL : List D → Nat
  | [] => 0
  | d :: ds => max (D.dp d) (dpL ds)
end
mutual
theorem dp_ok : ∀ d : D, d.py.depth ≤ d.dp
  | .non | .bl _ | .int _ | .str _ | .dic _ _ | .scr _ | .well | .ty _ | .adr _ => by simp only [D.py, D.dp, PyData.depth]; decide
  | .tup xs => by simp only [D.py, D.dp, PyData.depth]; have := dpL_ok xs; omega
  | .lst xs => by simp only [D.py, D.dp, PyData.depth]; have := dpL_ok xs; omega
theorem dpL_ok : ∀ xs : List D, PyData.depthAll (pyL xs) ≤ dpL xs
  | [] => by simp only [pyL, dpL, PyData.depthAll]; decide
  | d :: ds => by
    simp only [pyL, dpL, PyData.depthAll]
    have := dp_ok d
    have := dpL_ok ds
    omega
end
theorem repr_of {d : D} {P : D → Cr} {n : Nat} (hs : d.shy = true) (ht : ∃ xs, d = .tup xs ∨ d = .lst xs) (hd : d.dp ≤ 50) (hw : d.cost ≤ 10000000) (h : P (.str d.py.shown) n) : gRepr d P n := by
  obtain ⟨h1, h2, h3, h4⟩ := shy_ok d hs
  have l1 := dp_ok d
  exact ⟨⟨h1, ht, h2, h3, by omega, Nat.le_trans h4 (Nat.le_trans hw (by decide))⟩, h⟩
theorem shy_int {i : Int} (h : Bt 1000 i) : (D.int i).shy = true := by rw [D.shy]; exact fitB_iff.mpr h
theorem shy_tup {xs : List D} : (D.tup xs).shy = shyL xs := by rw [D.shy]
theorem shy_lst {xs : List D} : (D.lst xs).shy = shyL xs := by rw [D.shy]
theorem shy_non : D.non.shy = true := by rw [D.shy]
theorem shy_bl {b : Bool} : (D.bl b).shy = true := by rw [D.shy]
theorem shyL_nil : shyL [] = true := rfl
theorem shyL_cons {d : D} {ds : List D} : shyL (d :: ds) = (d.shy && shyL ds) := by rw [shyL]
theorem fr_shy {q : Rat} (h : Sz 1000 q) : (fr q).shy = true := by
  unfold fr
  rw [shy_tup, shyL_cons, shyL_cons, shyL_nil, shy_int h.1, shy_int (show Bt 1000 _ by unfold Bt; rw [Int.natAbs_natCast]; exact h.2)]; rfl
theorem kd_shy {x y z : Rat} (h1 : Sz 300 x) (h2 : Sz 300 y) (h3 : Sz 300 z) : (kd x y z).shy = true := by
  obtain ⟨a, b, c⟩ := k3_size h1 h2 h3
  unfold kd
  rw [shy_tup, shyL_cons, shyL_cons, shyL_cons, shyL_nil, shy_int (Bt.mono a (by decide)), shy_int (Bt.mono b (by decide)), shy_int (Bt.mono c (by decide))]; rfl
end DJ

set_option Elab.async false
set_option linter.all false
set_option maxRecDepth 100000
set_option maxHeartbeats 1000000
namespace DJ
open PySem PySem.Spec PyProof.Rows L2 GxR GX
def g4 (h : D → D → D → D → (D → Cr) → Cr) : List D → (D → Cr) → Cr
  | [a, b, c, d], P => h a b c d P
  | _, _ => fun _ => False
theorem g4_inv {h : D → D → D → D → (D → Cr) → Cr} {ds : List D} {P : D → Cr} {n : Nat} (q : g4 h ds P n) : ∃ a b c d, ds = [a, b, c, d] ∧ h a b c d P n := by
  unfold g4 at q
  split at q
  · exact ⟨_, _, _, _, rfl, q⟩
  · exact q.elim
section
variable {q : Rat} {P : D → Cr} {Q : Int → Int → Cr} {U : Rat → Cr} {x y z : Rat} {R : Int → Int → Int → Cr} {a b c d : D} {h : D → D → D → D → (D → Cr) → Cr}
theorem eFour : g4 h [a, b, c, d] P = h a b c d P := rfl
theorem eIxF0 : gIx (fr q) (.int 0) P = P (.int q.num) := funext fun n => propext ⟨fun ⟨d, e, h⟩ => by rw [at0] at e; cases e; exact h, fun h => ⟨_, at0, h⟩⟩
theorem eIxF1 : gIx (fr q) (.int 1) P = P (.int ((q.den : Nat) : Int)) := funext fun n => propext ⟨fun ⟨d, e, h⟩ => by rw [at1] at e; cases e; exact h, fun h => ⟨_, at1, h⟩⟩
theorem ePrF : gPr (fr q) Q = Q q.num ((q.den : Nat) : Int) := rfl
theorem e3K : g3I (kd x y z) R = R (k3 x y z).1 (k3 x y z).2.1 (k3 x y z).2.2 := rfl
theorem eFrF {k : Nat} : gFr k (fr q) U = fun n => Sz k q ∧ U q n := funext fun n => propext ⟨fun ⟨⟨h0, h1, h2⟩, h⟩ => ⟨⟨h1, by unfold Bt at h2; rwa [Int.natAbs_natCast] at h2⟩, by rw [nd] at h; exact h⟩, fun ⟨h1, h⟩ => ⟨⟨den_gt0 q, h1.1, by unfold Bt; rw [Int.natAbs_natCast]; exact h1.2⟩, by rw [nd]; exact h⟩⟩
theorem eTupF {t : MGs} {l : Sl} {W : Sl → Cr} : gTupD 2 t (fr q) l W = t [.int q.num, .int ((q.den : Nat) : Int)] l W := funext fun c => propext ⟨fun ⟨es, e, _, h⟩ => by cases e; exact h, fun h => ⟨_, rfl, rfl, h⟩⟩
theorem eTupK {t : MGs} {l : Sl} {W : Sl → Cr} : gTupD 3 t (kd x y z) l W = t [.int (k3 x y z).1, .int (k3 x y z).2.1, .int (k3 x y z).2.2] l W := funext fun c => propext ⟨fun ⟨es, e, _, h⟩ => by cases e; exact h, fun h => ⟨_, rfl, rfl, h⟩⟩
end
theorem nd0 (q : Rat) : ((0 - q.num : Int) : Rat) / ((q.den : Int) : Rat) = -q := by
  have h1 := q_eq q
  have h2 := den_ne q
  rw [Rat.intCast_sub, Rat.intCast_zero]; grind
theorem nd1 (q : Rat) : ((-q.num : Int) : Rat) / ((q.den : Int) : Rat) = -q := by
  have h1 := q_eq q
  have h2 := den_ne q
  rw [Rat.intCast_neg]; grind
theorem nd2 (q : Rat) : ((0 - 2 * q.num : Int) : Rat) / ((q.den : Int) : Rat) = -(2 * q) := by
  have h1 := q_eq q
  have h2 := den_ne q
  rw [Rat.intCast_sub, Rat.intCast_zero, Rat.intCast_mul]
  have : ((2 : Int) : Rat) = 2 := rfl
  grind
theorem nd3 (q : Rat) : ((2 * q.num : Int) : Rat) / ((q.den : Int) : Rat) = 2 * q := by
  have h1 := q_eq q
  have h2 := den_ne q
  rw [Rat.intCast_mul]
  have : ((2 : Int) : Rat) = 2 := rfl
  grind
theorem nd4 (q : Rat) (x : Int) : ((q.num * x : Int) : Rat) / ((q.den : Int) : Rat) = q * (x : Rat) := by
  have h1 := q_eq q
  have h2 := den_ne q
  rw [Rat.intCast_mul]
  grind
theorem oo : ((1 : Int) : Rat) / ((1 : Int) : Rat) = 1 := by decide +kernel
theorem zo : ((0 : Int) : Rat) / ((1 : Int) : Rat) = 0 := by decide +kernel
theorem ip2 (b : Int) : b ^ (2 : Nat) = b * b := by rw [Int.pow_succ, Int.pow_succ, Int.pow_zero, Int.one_mul]
theorem pow_ok {b : Int} {n : Nat} (h : Bt n b) (l : n ≤ 400000 := by decide) : (((b.natAbs.log2 : Nat) + 1 : Int) * 2 ≤ 1000000) = True := by
  have := h.log (k := 400001) (by omega) (by decide)
  simp only [eq_iff_iff, iff_true]
  omega
theorem div1 (x : Rat) : x / 1 = x := by grind
theorem lit1 : ((1 : Int) : Rat) = 1 := rfl
theorem lit0 : ((0 : Int) : Rat) = 0 := rfl
theorem lit2 : ((2 : Int) : Rat) = 2 := rfl
theorem b_lit {k : Nat} {x : Int} (h : x.natAbs < 2 ^ 30) (l : 30 ≤ k) : Bt k x := Bt.mono h l
theorem b0n {q : Rat} {a b n : Nat} [h : SzP q a b] (l : a ≤ n) : Bt n (0 - q.num) := by rw [Int.zero_sub]; exact (btn l).neg
theorem b2n {q : Rat} {a b n : Nat} [h : SzP q a b] (l : a + 2 ≤ n) : Bt n (2 * q.num) := Bt.mono (Bt.mul (m := 2) (n := a) (by unfold Bt; decide) h.sz.1) (by omega)
theorem b02n {q : Rat} {a b n : Nat} [h : SzP q a b] (l : a + 2 ≤ n) : Bt n (0 - 2 * q.num) := by rw [Int.zero_sub]; exact (b2n l).neg
theorem cmq {p q : Rat} {a b c d : Nat} [h : SzP p a b] [k : SzP q c d] (l : a + c ≤ 900000) : CMulW p.num q.num := cm h.sz.1 k.sz.1 l
theorem cmd {p q : Rat} {a b c d : Nat} [h : SzP p a b] [k : SzP q c d] (l : a + d ≤ 900000) : CMulW p.num ((q.den : Nat) : Int) := cm h.sz.1 (btd (n := d) (Nat.le_refl _)) l
theorem cmdd {p q : Rat} {a b c d : Nat} [h : SzP p a b] [k : SzP q c d] (l : b + d ≤ 900000) : CMulW ((p.den : Nat) : Int) ((q.den : Nat) : Int) := cm (btd (n := b) (Nat.le_refl _)) (btd (n := d) (Nat.le_refl _)) l
theorem cmdn {p q : Rat} {a b c d : Nat} [h : SzP p a b] [k : SzP q c d] (l : b + c ≤ 900000) : CMulW ((p.den : Nat) : Int) q.num := cm (btd (n := b) (Nat.le_refl _)) k.sz.1 l
theorem cm2n {q : Rat} {c d : Nat} [k : SzP q c d] (l : 2 + c ≤ 900000) : CMulW 2 q.num := cm (m := 2) (by unfold Bt; decide) k.sz.1 l
theorem bt22 {x : Int} (h : x.natAbs < 4194304) : Bt 22 x := h
theorem bt10 {x : Int} (h : x.natAbs < 1024) : Bt 10 x := h
theorem Sz2.szc {q : Rat} (h : Sz2 22 10 q) : Sz 30 q := h.sz (by decide)
/-! proportional kinds -/
theorem icz {a : Int} : (a : Rat) = 0 ↔ a = 0 := Rat.intCast_eq_zero_iff
theorem k3_eq {x y z x' y' z' k : Rat} (hk : 0 < k) (nz : ¬ (x' = 0 ∧ y' = 0 ∧ z' = 0)) (e1 : x = k * x') (e2 : y = k * y') (e3 : z = k * z') : k3 x y z = k3 x' y' z' := by
  obtain ⟨m, m0, f1, f2, f3⟩ := w3_is x y z
  have mR : (0 : Rat) < (m : Rat) := by rw [show (0 : Rat) = ((0 : Nat) : Rat) from rfl]; exact Rat.natCast_lt_natCast.mpr m0
  have mk : 0 < (m : Rat) * k := Rat.mul_pos mR hk
  have nw : ¬ ((w3 x y z).1 = 0 ∧ (w3 x y z).2.1 = 0 ∧ (w3 x y z).2.2 = 0) := by
    rintro ⟨g1, g2, g3⟩
    rw [g1, lit0, e1] at f1
    rw [g2, lit0, e2] at f2
    rw [g3, lit0, e3] at f3
    have zz : ∀ {u : Rat}, 0 = (m : Rat) * (k * u) → u = 0 := fun {u} h => by
      have h : (m : Rat) * k * u = 0 := by grind
      rcases Rat.mul_eq_zero.mp h with h | h
      · rw [h] at mk; exact absurd mk (by decide)
      · exact h
    exact nz ⟨zz f1, zz f2, zz f3⟩
  exact (k3_is (k := m * k) mk nw (by rw [f1, e1]; grind) (by rw [f2, e2]; grind) (by rw [f3, e3]; grind)).symm
theorem kd_eq {x y z x' y' z' k : Rat} (hk : 0 < k) (nz : ¬ (x' = 0 ∧ y' = 0 ∧ z' = 0)) (e1 : x = k * x') (e2 : y = k * y') (e3 : z = k * z') : kd x y z = kd x' y' z' := by
  unfold kd
  rw [k3_eq hk nz e1 e2 e3]
theorem kd_low {a b c g : Int} (nz : ¬ (a = 0 ∧ b = 0 ∧ c = 0)) (g0 : 0 < g) (hg : g.natAbs = gcd3 a b c) : D.tup [.int (a.fdiv g), .int (b.fdiv g), .int (c.fdiv g)] = kd (a : Rat) (b : Rat) (c : Rat) := by
  unfold kd
  rw [k3_is (k := 1) (by decide) nz (by grind) (by grind) (by grind)]
  have e : g = (gcd3 a b c : Int) := by omega
  rw [← e, Int.fdiv_eq_ediv_of_nonneg _ (Int.le_of_lt g0), Int.fdiv_eq_ediv_of_nonneg _ (Int.le_of_lt g0), Int.fdiv_eq_ediv_of_nonneg _ (Int.le_of_lt g0)]
theorem kd_int {a b c : Int} (h : gcd3 a b c = 1) : kd (a : Rat) (b : Rat) (c : Rat) = .tup [.int a, .int b, .int c] := by
  unfold kd; rw [k3_int h]
/-! promises of the program's defs -/
def sLow3 : Spec := g3 fun d e f P => gInt d fun a => gInt e fun b => gInt f fun c n => (¬ (a = 0 ∧ b = 0 ∧ c = 0) ∧ Bt 8000 a ∧ Bt 8000 b ∧ Bt 8000 c) ∧ P (kd (a : Rat) (b : Rat) (c : Rat)) n
theorem low_old {ds : List D} {P : D → Cr} {n : Nat} (h : sLow3 ds P n) : sLowest ds P n := by
  obtain ⟨d, e, f, rfl, h1⟩ := g3_inv h
  obtain ⟨a, rfl, h2⟩ := gInt_inv h1
  obtain ⟨b, rfl, h3⟩ := gInt_inv h2
  obtain ⟨c, rfl, ⟨nz, ba, bb, bc⟩, hp⟩ := gInt_inv h3
  refine ⟨a, b, c, rfl, Nat.pos_iff_ne_zero.mp (gcd3_pos nz), ba, bb, bc, fun g g0 hg => ?_⟩
  rw [kd_low nz g0 hg]; exact hp
def sLowT : Spec := g1 fun d P => g3I d fun a b c n => (¬ (a = 0 ∧ b = 0 ∧ c = 0) ∧ Bt 8000 a ∧ Bt 8000 b ∧ Bt 8000 c) ∧ P (kd (a : Rat) (b : Rat) (c : Rat)) n
def sForm : Spec := g2 fun d e P => g3I d fun A B C => g3I e fun a b c n => ((Bt 3000 A ∧ Bt 3000 B ∧ Bt 3000 C) ∧ Bt 3000 a ∧ Bt 3000 b ∧ Bt 3000 c) ∧ P (.int (A * c - 2 * B * b + C * a)) n
def rowD (r : List (Int × Int)) : D := .tup (r.map prOf)
def sCommonBottom : Spec := fun ds P c => ∃ (rows : List (List (Int × Int))) (k : Nat) (d : D), ds = [d] ∧ (d = .tup (rows.map rowD) ∨ d = .lst (rows.map rowD)) ∧ (∀ r ∈ rows, ∀ p ∈ r, 0 < p.2 ∧ Bt k p.2) ∧ k * rows.flatten.length + 1 ≤ 5900 ∧ k ≤ 5900 ∧ P (.int (lcms rows.flatten 1 : Nat)) c
def sWholeRow : Spec := fun ds P c => ∃ (ps : List (Int × Int)) (L : Int), ds = [.tup (ps.map prOf), .int L] ∧ ps.length ≤ 1000 ∧ (∀ p ∈ ps, Bt 3000 p.1 ∧ 0 < p.2 ∧ Bt 3000 p.2) ∧ Bt 6000 L ∧ P (.tup (ps.map fun p => .int (p.1 * (L / p.2)))) c
theorem lcms_append {ps qs : List (Int × Int)} {m : Nat} : lcms (ps ++ qs) m = lcms qs (lcms ps m) := by
  unfold lcms; rw [List.foldl_append]
theorem lcms_btk : ∀ {ps : List (Int × Int)} {m k j : Nat}, (∀ p ∈ ps, 0 < p.2 ∧ Bt j p.2) → 0 < m → Bt k (m : Nat) → Bt (k + j * ps.length) (lcms ps m : Nat) ∧ 0 < lcms ps m
  | [], m, k, j, _, h0, h => ⟨h, h0⟩
  | p :: ps, m, k, j, hp, h0, h => by
    obtain ⟨p0, pb⟩ := hp p List.mem_cons_self
    have e : lcms (p :: ps) m = lcms ps (Nat.lcm m p.2.natAbs) := rfl
    have l0 : 0 < Nat.lcm m p.2.natAbs := Nat.lcm_pos h0 (by omega)
    have lb : Bt (k + j) ((Nat.lcm m p.2.natAbs : Nat) : Int) := by
      refine Bt.le (Bt.mul h pb) ?_
      rw [Int.natAbs_mul]
      show Nat.lcm m p.2.natAbs ≤ m * p.2.natAbs
      exact Nat.le_of_dvd (Nat.mul_pos h0 (by omega)) (Nat.lcm_dvd_mul m p.2.natAbs)
    rw [e]
    obtain ⟨q1, q2⟩ := lcms_btk (ps := ps) (fun q hq => hp q (List.mem_cons_of_mem _ hq)) l0 lb
    refine ⟨q1.mono ?_, q2⟩
    rw [List.length_cons, Nat.mul_add]; omega
theorem flat_pre {α : Type} {rows : List (List α)} {i j : Nat} {r : List α} (h : rows[i]? = some r) : ∃ t, rows.flatten = (rows.take i).flatten ++ r.take j ++ t := by
  refine ⟨r.drop j ++ (rows.drop (i + 1)).flatten, ?_⟩
  have e : rows = rows.take i ++ r :: rows.drop (i + 1) := by
    obtain ⟨hl, rfl⟩ := List.getElem?_eq_some_iff.mp h
    rw [← List.drop_eq_getElem_cons hl, List.take_append_drop]
  have e2 : r = r.take j ++ r.drop j := (List.take_append_drop j r).symm
  conv => lhs; rw [e]
  rw [List.flatten_append, List.flatten_cons, List.append_assoc]
  conv => lhs; rw [e2]
  rw [List.append_assoc]
def qp (q : Rat) : Int × Int := (q.num, ((q.den : Nat) : Int))
theorem prOf_qp (q : Rat) : prOf (qp q) = fr q := rfl
def lq (qs : List Rat) : Nat := lcms (qs.map qp) 1
def wq (qs : List Rat) (q : Rat) : Int := q.num * ((lq qs : Int) / ((q.den : Nat) : Int))
theorem wq_is {qs : List Rat} {q : Rat} (h : q ∈ qs) : ((wq qs q : Int) : Rat) = ((lq qs : Nat) : Rat) * q := by
  have hd := (lcms_dvd (ps := qs.map qp) (m := 1)).2 (qp q) (List.mem_map.mpr ⟨q, h, rfl⟩)
  have e := Int.mul_ediv_cancel' hd
  have c := congrArg (fun i : Int => (i : Rat)) e
  simp only [Rat.intCast_mul, Rat.intCast_natCast] at c
  unfold wq lq
  have h1 := q_eq q
  have h2 := den_ne q
  rw [Rat.intCast_mul]
  have e3 : (qp q).2 = ((q.den : Nat) : Int) := rfl
  rw [e3] at c
  rw [Rat.intCast_natCast] at c h1 h2
  grind
theorem lq_pos {qs : List Rat} {k : Nat} (h : ∀ q ∈ qs, Sz k q) : 0 < lq qs ∧ Bt (1 + k * qs.length) (lq qs : Nat) := by
  have := lcms_btk (ps := qs.map qp) (m := 1) (k := 1) (j := k) (fun p hp => by
    obtain ⟨q, hq, rfl⟩ := List.mem_map.mp hp
    exact ⟨den_gt0 q, by unfold Bt qp; rw [Int.natAbs_natCast]; exact (h q hq).2⟩) (by decide) bt_one
  rw [List.length_map] at this
  exact ⟨this.2, this.1⟩
theorem wq_bt {qs : List Rat} {k : Nat} (h : ∀ q ∈ qs, Sz k q) {q : Rat} (hq : q ∈ qs) : Bt (k + (1 + k * qs.length)) (wq qs q) := by
  unfold wq
  refine Bt.mul (h q hq).1 ((lq_pos h).2.le (Int.natAbs_ediv_le_natAbs _ _))
def sWholeQ : Spec := fun ds P n => ∃ (qs : List Rat) (k : Nat), ds = [.tup (qs.map fr)] ∧ k * qs.length + 1 ≤ 5000 ∧ k ≤ 3000 ∧ qs.length ≤ 100 ∧ (∀ q ∈ qs, Sz k q) ∧ P (.tup (qs.map fun q => .int (wq qs q))) n
def sFq (k : Nat) (c : Rat → Prop) (f : Rat → D) : Spec := g1 fun d P n => ∃ q, d = fr q ∧ (Sz k q ∧ c q) ∧ P (f q) n
def sChkFr : Spec := g1 fun d P n => (∃ q, d = fr q ∧ Sz 1000 q) ∧ P .non n
def sChkSize : Spec := g1 fun d P n => (∃ q, d = fr q ∧ Sz 1000 q ∧ 0 < q) ∧ P .non n
def sDiscKind : Spec := g2 fun d e P n => ∃ C R, (d = fr C ∧ e = fr R) ∧ (Sz 100 C ∧ Sz 100 R ∧ 0 < R) ∧ P (kd 1 C (C * C + -(R * R))) n
def sKindOf : Spec := g3 fun d e f P n => ∃ x y z, (d = fr x ∧ e = fr y ∧ f = fr z) ∧ (Sz 300 x ∧ Sz 300 y ∧ Sz 300 z) ∧ 0 < y * y - x * z ∧ P (kd x y z) n
def okKind (A B C : Int) : Prop := Bt 900 A ∧ Bt 900 B ∧ Bt 900 C ∧ gcd3 A B C = 1 ∧ 0 < B * B - A * C
theorem okKind.fine {A B C : Int} (h : okKind A B C) : (D.tup [.int A, .int B, .int C]).fine = true := fine_tup.mpr (f3 (fine_int.mpr (h.1.mono (by decide))) (fine_int.mpr (h.2.1.mono (by decide))) (fine_int.mpr (h.2.2.1.mono (by decide))))
theorem okKind.kindB {A B C : Int} (h : okKind A B C) : DJ.kindB (.tup [.int A, .int B, .int C]) = true := by
  rw [kindB_int, decide_eq_true h.2.2.2.2, Bool.and_true, decide_eq_true_eq]; exact h.2.2.2.1
def sWord : Spec := g1 fun d P => g3I d fun A B C n => okKind A B C ∧ P (.str (if 0 < A then "closed" else if A = 0 then "side" else "open")) n
def sCentre : Spec := g1 fun d P => g3I d fun A B C n => okKind A B C ∧ P (if A = 0 then .non else fr ((B : Rat) / (A : Rat))) n
def sRadSq : Spec := g1 fun d P => g3I d fun A B C n => okKind A B C ∧ P (if A = 0 then .non else fr (((B * B - A * C : Int) : Rat) / ((A * A : Int) : Rat))) n
def sHolds : Spec := g2 fun d e P n => ∃ x y z a b c, (d = kd x y z ∧ e = .tup [fr a, fr b, fr c]) ∧ (Sz 200 x ∧ Sz 200 y ∧ Sz 200 z ∧ Sz 200 a ∧ Sz 200 b ∧ Sz 200 c) ∧ (0 < y * y - x * z ∧ 0 ≤ a ∧ 0 ≤ c ∧ a + c ≠ 0 ∧ b * b ≤ a * c) ∧ P (.bl (decide (x * c - 2 * y * b + z * a ≤ 0))) n
theorem num_sum {a c : Rat} (a0 : 0 ≤ a) (c0 : 0 ≤ c) (h : a + c ≠ 0) : a.num + c.num ≠ 0 := by
  have h1 := Rat.num_nonneg.mpr a0
  have h2 := Rat.num_nonneg.mpr c0
  intro e
  have e1 : a.num = 0 := by omega
  have e2 : c.num = 0 := by omega
  have e3 := Rat.num_eq_zero.mp e1
  have e4 := Rat.num_eq_zero.mp e2
  rw [e3, e4] at h
  exact h (by grind)
theorem gapB_fr {a b c : Rat} (a0 : 0 ≤ a) (c0 : 0 ≤ c) (h : a + c ≠ 0) (hb : b * b ≤ a * c) : gapB (.tup [fr a, fr b, fr c]) = true := by
  show gapB (.tup [.tup [.int a.num, .int ((a.den : Nat) : Int)], .tup [.int b.num, .int ((b.den : Nat) : Int)], .tup [.int c.num, .int ((c.den : Nat) : Int)]]) = true
  rw [gapB_frac (fracB_fr a) (fracB_fr b) (fracB_fr c), decide_eq_true (Rat.num_nonneg.mpr a0), decide_eq_true (Rat.num_nonneg.mpr c0), decide_eq_true (num_sum a0 c0 h)]
  simp only [Bool.true_and, decide_eq_true_eq]
  rw [← Rat.intCast_le_intCast]
  simp only [Rat.intCast_mul]
  have e1 := q_eq a
  have e2 := q_eq b
  have e3 := q_eq c
  have p1 := den_pos a
  have p2 := den_pos b
  have p3 := den_pos c
  have n1 := den_ne a
  have n2 := den_ne b
  have n3 := den_ne c
  have k : 0 ≤ (((a.den : Nat) : Int) : Rat) * ((c.den : Nat) : Int) * (((b.den : Nat) : Int) * ((b.den : Nat) : Int)) := Rat.le_of_lt (Rat.mul_pos (Rat.mul_pos p1 p3) (Rat.mul_pos p2 p2))
  have := Rat.mul_le_mul_of_nonneg_right hb k
  have f1 : (a.num : Rat) = a * ((a.den : Nat) : Int) := by grind
  have f2 : (b.num : Rat) = b * ((b.den : Nat) : Int) := by grind
  have f3 : (c.num : Rat) = c * ((c.den : Nat) : Int) := by grind
  rw [f1, f2, f3]
  grind
theorem pos_scale {k e : Rat} (hk : 0 < k) : k * e ≤ 0 ↔ e ≤ 0 := by
  constructor
  · intro h
    refine Rat.not_lt.mp fun he => ?_
    have := Rat.mul_pos hk he
    grind
  · intro h
    have := Rat.mul_le_mul_of_nonneg_left h (Rat.le_of_lt hk)
    grind
/-! what the laws draw -/
def sDrawQ (k : Nat) (c : Rat → Prop) : Spec := fun ds P n => ds = [.well] ∧ n < 999000000 ∧ ∀ (q : Rat) (n' : Nat), Sz2 22 10 q → c q → n' ≤ n + k → P (fr q) n'
def sDrawK : Spec := fun ds P n => ds = [.well] ∧ n < 999000000 ∧ ∀ (A B C : Int) (n' : Nat), Bt 30 A → Bt 30 B → Bt 30 C → gcd3 A B C = 1 → 0 < B * B - A * C → n' ≤ n + 4 → P (.tup [.int A, .int B, .int C]) n'
def sDrawG : Spec := fun ds P n => ds = [.well] ∧ n < 999000000 ∧ ∀ (a b c : Int) (n' : Nat), Bt 30 a → Bt 30 b → Bt 30 c → 0 ≤ a → 0 ≤ c → 0 < a + c → b * b ≤ a * c → n' ≤ n + 3 → P (.tup [.int a, .int b, .int c]) n'
def sOverG : Spec := g2 fun d e P => g3I d fun a b c => gInt e fun m n => (m ≠ 0 ∧ Bt 900 a ∧ Bt 900 b ∧ Bt 900 c ∧ Bt 900 m) ∧ P (.tup [fr ((a : Rat) / (m : Rat)), fr ((b : Rat) / (m : Rat)), fr ((c : Rat) / (m : Rat))]) n
def sLeast : Spec := g3 fun d e f P => gFr 900 d fun p => gFr 900 e fun q => gFr 900 f fun r n => ¬ (p = 0 ∧ q = 0 ∧ r = 0) ∧ P (kd p q r) n
def sMixed : Spec := g4 fun d e f g P => gFr 900 d fun p => gInt e fun x => gFr 900 f fun q => gInt g fun y n => (Bt 900 x ∧ Bt 900 y) ∧ P (fr (p * x + q * y)) n
def sInDisc : Spec := g3 fun d e f P => gFr 100 d fun C => gFr 100 e fun R => g3I f fun a b c n => (Bt 100 a ∧ Bt 100 b ∧ Bt 100 c) ∧ P (.bl (decide ((c : Rat) - 2 * C * b + C * C * a ≤ R * R * a))) n
def sYes (k m : Nat) : Spec := fun ds P n => ds = [.well] ∧ n < m ∧ ∀ n', n' ≤ n + k → P (.bl true) n'
/-! pairs told otherwise -/
theorem fr_pair {a b : Int} (hb : 0 < b) (hg : Nat.gcd a.natAbs b.natAbs = 1) : D.tup [.int a, .int b] = fr ((a : Rat) / (b : Rat)) := by
  obtain ⟨e1, e2⟩ := low_num (a := a) (b := b) (g := 1) (by omega) (by rw [hg]; rfl) (fun _ => by decide) (fun h => by omega)
  unfold fr
  rw [← e1, ← e2, Int.fdiv_one, Int.fdiv_one]
theorem fr_neg (q : Rat) : D.tup [.int (-q.num), .int ((q.den : Nat) : Int)] = fr (-q) := rfl
theorem le_num {q : Rat} {a b : Int} : q.num * a ≤ b * ((q.den : Nat) : Int) ↔ q * a ≤ b := by
  rw [← Rat.intCast_le_intCast, Rat.intCast_mul, Rat.intCast_mul]
  have e := q_eq q
  have p := den_pos q
  have n := den_ne q
  have f : (q.num : Rat) = q * ((q.den : Nat) : Int) := by grind
  rw [f]
  constructor
  · intro h
    refine Rat.le_of_mul_le_mul_right (c := (((q.den : Nat) : Int) : Rat)) ?_ p
    grind
  · intro h
    have := Rat.mul_le_mul_of_nonneg_right h (Rat.le_of_lt p)
    grind
theorem fr_dp {q : Rat} : (fr q).dp = 2 := rfl
theorem kd_dp {x y z : Rat} : (kd x y z).dp = 2 := rfl
theorem fr_cost {q : Rat} : (fr q).cost = 2009 := rfl
theorem kd_cost {x y z : Rat} : (kd x y z).cost = 3012 := rfl


end DJ

set_option Elab.async false
set_option linter.all false
set_option maxRecDepth 100000
set_option maxHeartbeats 1000000
namespace DJ
open PySem PySem.Spec PyProof.Rows L2 GxR GX
def gl3 (a b c : Int) : Nat → Nat
  | 0 => 0
  | 1 => a.natAbs
  | 2 => Nat.gcd a.natAbs b.natAbs
  | _ => gcd3 a b c
theorem drawn_kind {a b c : Int} {P : D → Cr} {n : Nat} (ha : a.natAbs ≤ 1000000) (hb : b.natAbs ≤ 1000000) (hc : c.natAbs ≤ 1000000) (h : ¬ b * b ≤ a * c) (hp : ∀ a b c : Int, Bt 30 a → Bt 30 b → Bt 30 c → gcd3 a b c = 1 → 0 < b * b - a * c → P (.tup [.int a, .int b, .int c]) n) :
    ¬ (a = 0 ∧ b = 0 ∧ c = 0) ∧ Bt 8000 a ∧ Bt 8000 b ∧ Bt 8000 c ∧ P (kd (a : Rat) (b : Rat) (c : Rat)) n := by
  have nz : ¬ (a = 0 ∧ b = 0 ∧ c = 0) := by
    rintro ⟨rfl, rfl, rfl⟩; exact h (by decide)
  have hr : (0 : Rat) < (b : Rat) * b - (a : Rat) * c := by
    rw [← Rat.intCast_mul, ← Rat.intCast_mul, ← Rat.intCast_sub, Rat.intCast_pos]; omega
  refine ⟨nz, b_lit (by omega) (by decide), b_lit (by omega) (by decide), b_lit (by omega) (by decide), ?_⟩
  obtain ⟨h1, h2⟩ := kd_pos hr
  have e := k3_is (a := a) (b := b) (c := c) (x := (a : Rat)) (y := (b : Rat)) (z := (c : Rat)) (k := 1) (by decide) nz (by grind) (by grind) (by grind)
  refine hp _ _ _ ?_ ?_ ?_ h2 h1
  · rw [e]; exact b_lit (Nat.lt_of_le_of_lt (Int.natAbs_ediv_le_natAbs _ _) (by omega)) (by decide)
  · rw [e]; exact b_lit (Nat.lt_of_le_of_lt (Int.natAbs_ediv_le_natAbs _ _) (by omega)) (by decide)
  · rw [e]; exact b_lit (Nat.lt_of_le_of_lt (Int.natAbs_ediv_le_natAbs _ _) (by omega)) (by decide)

theorem frac_q {d : D} (h : fracB d = true) : ∃ q : Rat, d = fr q := by
  obtain ⟨a, b, rfl, b0, g⟩ := fracB_iff.mp h
  exact ⟨_, fr_pair b0 g⟩
theorem fracs_q : ∀ {xs : List D}, xs.all fracB = true → ∃ qs : List Rat, xs = qs.map fr
  | [], _ => ⟨[], rfl⟩
  | d :: ds, h => by
    rw [List.all_cons, Bool.and_eq_true] at h
    obtain ⟨q, rfl⟩ := frac_q h.1
    obtain ⟨qs, rfl⟩ := fracs_q h.2
    exact ⟨q :: qs, rfl⟩
theorem fine_fr {q : Rat} (h : (fr q).fine = true) : Sz 1000 q := by
  have := fine_tup.mp h
  have h1 := fine_int.mp (this (.int q.num) (by simp))
  have h2 := fine_int.mp (this (.int ((q.den : Nat) : Int)) (by simp))
  exact ⟨h1, by unfold Bt at h2; rwa [Int.natAbs_natCast] at h2⟩
/-- the form at a gap, by whole multiples -/
theorem form_iff {x y z a b c : Rat} (hk : 0 < y * y - x * z) {qs : List Rat} {k : Nat} (hs : ∀ q ∈ qs, Sz k q) (ha : a ∈ qs) (hb : b ∈ qs) (hc : c ∈ qs) :
    ((k3 x y z).1 * wq qs c - 2 * (k3 x y z).2.1 * wq qs b + (k3 x y z).2.2 * wq qs a ≤ 0) ↔ (x * c - 2 * y * b + z * a ≤ 0) := by
  obtain ⟨m, m0, e1, e2, e3, _⟩ := k3_props (disc_nz hk)
  have L0 : (0 : Rat) < ((lq qs : Nat) : Rat) := by rw [show (0 : Rat) = ((0 : Nat) : Rat) from rfl]; exact Rat.natCast_lt_natCast.mpr (lq_pos hs).1
  rw [← Rat.intCast_le_intCast, lit0]
  simp only [Rat.intCast_add, Rat.intCast_sub, Rat.intCast_mul, wq_is ha, wq_is hb, wq_is hc, e1, e2, e3, lit2]
  have : m * x * (((lq qs : Nat) : Rat) * c) - 2 * (m * y) * (((lq qs : Nat) : Rat) * b) + m * z * (((lq qs : Nat) : Rat) * a) = (m * ((lq qs : Nat) : Rat)) * (x * c - 2 * y * b + z * a) := by grind
  rw [this]
  exact pos_scale (Rat.mul_pos m0 L0)
theorem mem3 {α : Type} {P : α → Prop} {a b c : α} (ha : P a) (hb : P b) (hc : P c) : ∀ q ∈ [a, b, c], P q := fun q hq => by
  simp only [List.mem_cons, List.not_mem_nil, or_false] at hq
  rcases hq with rfl | rfl | rfl
  · exact ha
  · exact hb
  · exact hc
theorem gap_fine {a b c : Rat} (sa : Sz 1000 a) (sb : Sz 1000 b) (sc : Sz 1000 c) : (D.tup [fr a, fr b, fr c]).fine = true := fine_tup.mpr (f3 (fr_fine sa) (fr_fine sb) (fr_fine sc))
theorem excess_pos {x y z : Rat} (h : 0 < y * y - x * z) {qs : List Rat} {k : Nat} (hs : ∀ q ∈ qs, Sz k q) (ha : x ∈ qs) (hb : y ∈ qs) (hc : z ∈ qs) : 0 < wq qs y * wq qs y - wq qs x * wq qs z ∧ ¬ (wq qs x = 0 ∧ wq qs y = 0 ∧ wq qs z = 0) ∧ kd (wq qs x : Rat) (wq qs y : Rat) (wq qs z : Rat) = kd x y z := by
  have L0 : (0 : Rat) < ((lq qs : Nat) : Rat) := by rw [show (0 : Rat) = ((0 : Nat) : Rat) from rfl]; exact Rat.natCast_lt_natCast.mpr (lq_pos hs).1
  have k1 : 0 < wq qs y * wq qs y - wq qs x * wq qs z := by
    rw [← Rat.intCast_pos]
    simp only [Rat.intCast_sub, Rat.intCast_mul, wq_is ha, wq_is hb, wq_is hc]
    have : ((lq qs : Nat) : Rat) * y * (((lq qs : Nat) : Rat) * y) - ((lq qs : Nat) : Rat) * x * (((lq qs : Nat) : Rat) * z) = (((lq qs : Nat) : Rat) * ((lq qs : Nat) : Rat)) * (y * y - x * z) := by grind
    rw [this]
    exact Rat.mul_pos (Rat.mul_pos L0 L0) h
  refine ⟨k1, ?_, kd_eq L0 (disc_nz h) (wq_is ha) (wq_is hb) (wq_is hc)⟩
  rintro ⟨e1, e2, e3⟩
  rw [e1, e2, e3] at k1
  exact absurd k1 (by decide)

/-- a cut at whose sides simp does not look -/
structure Tag (m n : MS) : Type where
def mCutT (m n : MS) (u : Tag m n) : MS := mCut m n
theorem jss_cutT {C : Ct} {w : Option Addr} {X : Cx} {st : Stmt} {rest : List Stmt} {m n : MS} (h1 : JS C w X st m) (h2 : JSs C w X rest n) : JSs C w X (st :: rest) (mCutT m n ⟨⟩) := jss_cut h1 h2
theorem mCut_at {m n : MS} {u : Tag m n} {D : DE} {l L : Sl} {c c' : Nat} (h1 : m { D with nx := fun l2 c2 => l2 = L ∧ c2 = c' } l c) (h2 : n D L c') : mCutT m n u D l c :=
  ⟨fun l2 c2 => l2 = L ∧ c2 = c', h1, fun l' c2 ⟨e1, e2⟩ => by subst e1; subst e2; exact h2⟩
theorem mCut_mid {m n : MS} {u : Tag m n} {D : DE} {l : Sl} {c : Nat} (Mid : Sl → Cr) (h1 : m { D with nx := Mid } l c) (h2 : ∀ l' c', Mid l' c' → n D l' c') : mCutT m n u D l c := ⟨Mid, h1, h2⟩
theorem repr_eq {d : D} (hs : d.shy = true) (ht : ∃ xs, d = .tup xs ∨ d = .lst xs) (hd : d.dp ≤ 50) (hw : d.cost ≤ 10000000) : ∀ (P : D → Cr) (n : Nat), gRepr d P n = P (.str d.py.shown) n := fun P n => propext ⟨fun h => h.2, fun h => repr_of hs ht hd hw h⟩
theorem rng_lt {i : Nat} {d : D} {a : Int} {k : Nat} (h : (rangeD a k)[i]? = some d) : i < k := by
  have := (List.getElem?_eq_some_iff.mp h).1
  unfold rangeD at this
  rw [List.length_map, List.length_range] at this
  exact this
theorem rng_len {a : Int} {k : Nat} : (rangeD a k).length = k := by unfold rangeD; rw [List.length_map, List.length_range]

theorem repr_bls {bs : List Bool} (h : bs.length ≤ 1000) : ∀ (P : D → Cr) (n : Nat), gRepr (.lst (bs.map D.bl)) P n = P (.str (D.lst (bs.map D.bl)).py.shown) n := by
  have h1 : ∀ bs : List Bool, shyL (bs.map D.bl) = true := fun bs => by
    induction bs with
    | nil => rfl
    | cons b bs ih => rw [List.map_cons, shyL_cons, shy_bl, ih]; rfl
  have h2 : ∀ bs : List Bool, dpL (bs.map D.bl) ≤ 1 := fun bs => by
    induction bs with
    | nil => decide
    | cons b bs ih => rw [List.map_cons, dpL, show (D.bl b).dp = 1 from rfl]; omega
  have h3 : ∀ bs : List Bool, costL (bs.map D.bl) ≤ 7 * bs.length := fun bs => by
    induction bs with
    | nil => decide
    | cons b bs ih => rw [List.map_cons, costL, show (D.bl b).cost = 5 from rfl, List.length_cons]; omega
  refine repr_eq (by rw [shy_lst]; exact h1 bs) ⟨_, .inr rfl⟩ ?_ ?_
  · rw [D.dp]; have := h2 bs; omega
  · rw [D.cost]; have := h3 bs; omega
theorem rb5 {a b c d e : Bool} (P : D → Cr) (n : Nat) : gRepr (.lst [.bl a, .bl b, .bl c, .bl d, .bl e]) P n = P (.str (D.lst [.bl a, .bl b, .bl c, .bl d, .bl e]).py.shown) n := repr_bls (bs := [a, b, c, d, e]) (by simp) P n
theorem form_over {x y z a b c m : Rat} (hm : 0 < m) : (x * (c / m) - 2 * y * (b / m) + z * (a / m) ≤ 0) ↔ (x * c - 2 * y * b + z * a ≤ 0) := by
  have e : x * (c / m) - 2 * y * (b / m) + z * (a / m) = m⁻¹ * (x * c - 2 * y * b + z * a) := by
    rw [Rat.div_def, Rat.div_def, Rat.div_def]; grind
  rw [e]
  exact pos_scale (Rat.inv_pos.mpr hm)
theorem gap_over {a b c m : Int} (hm : 0 < m) (a0 : 0 ≤ a) (c0 : 0 ≤ c) (ac : 0 < a + c) (bb : b * b ≤ a * c) : 0 ≤ (a : Rat) / m ∧ 0 ≤ (c : Rat) / m ∧ (a : Rat) / m + (c : Rat) / m ≠ 0 ∧ (b : Rat) / m * ((b : Rat) / m) ≤ (a : Rat) / m * ((c : Rat) / m) := by
  have hm' : (0 : Rat) < m := Rat.intCast_pos.mpr hm
  have hi := Rat.inv_pos.mpr hm'
  have ha : (0 : Rat) ≤ a := Rat.intCast_nonneg.mpr a0
  have hc : (0 : Rat) ≤ c := Rat.intCast_nonneg.mpr c0
  have hac : (0 : Rat) < a + c := by rw [← Rat.intCast_add]; exact Rat.intCast_pos.mpr ac
  have hbb : (b : Rat) * b ≤ (a : Rat) * c := by rw [← Rat.intCast_mul, ← Rat.intCast_mul]; exact Rat.intCast_le_intCast.mpr bb
  rw [Rat.div_def, Rat.div_def, Rat.div_def]
  refine ⟨Rat.mul_nonneg ha (Rat.le_of_lt hi), Rat.mul_nonneg hc (Rat.le_of_lt hi), ?_, ?_⟩
  · have := Rat.mul_pos hac hi
    grind
  · have := Rat.mul_le_mul_of_nonneg_right hbb (Rat.le_of_lt (Rat.mul_pos hi hi))
    grind
end DJ

set_option Elab.async false
set_option linter.all false
set_option maxRecDepth 100000
set_option maxHeartbeats 1000000
/-! repr of bools and ints, bit_length, the divisor of the later laws -/
namespace DJ
open PySem PySem.Spec PyProof.Rows L2 GxR GX
def gReprA : D → (D → Cr) → Cr
  | .bl b, P => P (.str (D.bl b).py.shown)
  | d, P => gRepr d P
section
variable {C : Ct} {w : Option Addr} {X : Cx} {F : Fz} {H : Hp} {b : Bool} {xs : List D} {P : D → Cr}
theorem eRAb : gReprA (.bl b) P = P (.str (D.bl b).py.shown) := rfl
theorem eRAt : gReprA (.tup xs) P = gRepr (.tup xs) P := rfl
theorem eRAl : gReprA (.lst xs) P = gRepr (.lst xs) P := rfl
theorem d_reprA (hK : C.K = X.K) (hg : X.A.guards = some []) (hu : X.A.units + 64 < cLine) : CallR X (.builtin "repr") (rC C w (g1 gReprA)) := by
  intro pins s σ H xs us Q I r ⟨F, ds, P, g0, rl, hq, f⟩
  obtain ⟨d, rfl, hq⟩ := g1_inv hq
  by_cases hb : ∃ b, d = .bl b
  · obtain ⟨b, rfl⟩ := hb
    obtain ⟨v, rfl, rv⟩ := repL1 rl
    obtain ⟨u, rfl, ru⟩ : ∃ u, us = [u] ∧ RelV v u := by
      cases r with
      | cons h t => cases t; exact ⟨_, rfl, h⟩
    obtain rfl := rep_bl' rv
    obtain rfl : u = Value.bool b := ru
    have e : (D.bl b).py.shown = (if b then "True" else "False" : Str) := by
      show (PyData.bool b).shown = _
      rw [PyData.shown_bool]
    refine PySem.P.repr_of_bool ⟨.str _, H, I.tok _, ⟨_, rfl⟩, ?_⟩
    rw [← e]
    exact f.here g0 hq rep_str
  · have hq : gRepr d P F.n := by
      cases d <;> first | exact hq | exact absurd ⟨_, rfl⟩ hb
    exact d_repr hK hg hu pins s σ H xs us Q I r ⟨F, [d], P, g0, rl, hq, f⟩
def mBits (m : ME) : ME := fun l P => m l fun d => gInt d fun i => P (.int ((Builtin.Int.intBits i : Nat) : Int))
theorem je_bits {o : Expr} {apos pos : Pos} {m : ME} (h : JE C w X o m) (hbase : attributeBase o "bit_length" X.env (eval o X.env) = eval o X.env := by rfl) (hline : (apos.endLine == pos.line) = true := by rfl) : JE C w X (.Call (.Attribute o "bit_length" apos) [] [] pos) (mBits m) := PE.imp (pe_bits h hbase hline) fun σ H Q ⟨F, l, P, g0, r, h, f⟩ => by
  refine ⟨F, l, _, g0, r, h, fun x v F1 H1 h1 s1 r1 => ?_⟩
  obtain ⟨i, rfl, q⟩ := gInt_inv h1
  exact ⟨i, rep_int' r1, f.at s1 q rep_int⟩
end

/-! ### constants of a module -/
def isTupC (o : Obj) : Bool := match o.cls with
  | .type s => s == "tuple"
  | _ => false
mutual
def cstOk (K : PySem.W.Frag) : D → Value → Bool
  | .int i, .int j _ => decide (i = j)
  | .tup xs, .ref a => match K.lookup a with
    | some o => isTupC o && (match o.data with
      | .seq its _ => decide (its.size ≤ sizeLine) && cstOkL K xs its.toList
      | _ => false)
    | none => false
  | _, _ => false
def cstOkL (K : PySem.W.Frag) : List D → List Value → Bool
  | [], [] => true
  | d :: ds, v :: vs => cstOk K d v && cstOkL K ds vs
  | _, _ => false
end
theorem isTupC_ok {o : Obj} (h : isTupC o = true) : o.cls = .type "tuple" := by
  unfold isTupC at h
  split at h
  · rename_i s e
    rw [e, eq_of_beq h]
  · cases h
mutual
theorem cst_rep {C : Ct} {w : Option Addr} : ∀ {d : D} {v : Value}, cstOk C.K d v = true → ∃ u, RelV u v ∧ ∀ F : Hp, Rep C w F d u
  | .int i, v, h => by
    cases v <;> first | (simp only [cstOk] at h; cases h; done) | skip
    simp only [cstOk, decide_eq_true_eq] at h
    subst h
    exact ⟨.int i, ⟨_, rfl⟩, fun F => rep_int⟩
  | .tup xs, v, h => by
    cases v <;> first | (simp only [cstOk] at h; cases h; done) | skip
    rename_i a
    simp only [cstOk] at h
    cases e : C.K.lookup a with
    | none => rw [e] at h; cases h
    | some o =>
      rw [e] at h
      simp only [Bool.and_eq_true] at h
      obtain ⟨h1, h2⟩ := h
      cases e2 : o.data <;> rw [e2] at h2 <;> first | (cases h2; done) | skip
      rename_i its n
      simp only [Bool.and_eq_true, decide_eq_true_eq] at h2
      obtain ⟨us, r, q⟩ := cst_repL (C := C) (w := w) h2.2
      refine ⟨.ref a, rfl, fun F => rep_tup (vs := us) (.inr ⟨o, its, n, e, isTupC_ok h1, e2, h2.1, r⟩) (q F)⟩
  | .non, _, h => by simp only [cstOk] at h; cases h
  | .bl _, _, h => by simp only [cstOk] at h; cases h
  | .str _, _, h => by simp only [cstOk] at h; cases h
  | .lst _, _, h => by simp only [cstOk] at h; cases h
  | .dic _ _, _, h => by simp only [cstOk] at h; cases h
  | .scr _, _, h => by simp only [cstOk] at h; cases h
  | .well, _, h => by simp only [cstOk] at h; cases h
  | .ty _, _, h => by simp only [cstOk] at h; cases h
  | .adr _, _, h => by simp only [cstOk] at h; cases h
theorem cst_repL {C : Ct} {w : Option Addr} : ∀ {ds : List D} {vs : List Value}, cstOkL C.K ds vs = true → ∃ us, Vals us vs ∧ ∀ F : Hp, RepL C w F ds us
  | [], vs, h => by
    cases vs with
    | nil => exact ⟨[], .nil, fun _ => RepL.nil⟩
    | cons => simp only [cstOkL] at h; cases h
  | d :: ds, vs, h => by
    cases vs with
    | nil => simp only [cstOkL] at h; cases h
    | cons v vs =>
      simp only [cstOkL, Bool.and_eq_true] at h
      obtain ⟨u, r, q⟩ := cst_rep (C := C) (w := w) h.1
      obtain ⟨us, rs, qs⟩ := cst_repL (C := C) (w := w) h.2
      exact ⟨u :: us, .cons r rs, fun F => RepL.cons (q F) (qs F)⟩
end
/-- what a name of the module is bound to -/
structure Cst (K : PySem.W.Frag) (mg : Str → Option Value) (x : Str) (d : D) : Prop where
  ex : ∃ v, mg x = some v ∧ cstOk K d v = true
def cstO (K : PySem.W.Frag) (p : Str × D) : Bool := match PySem.W.nsIn K mainGlobals p.1 with
  | some (some v) => cstOk K p.2 v
  | _ => false
theorem cst_of {K : PySem.W.Frag} {mg : Str → Option Value} {h : Heap} (inH : K.In h) (ns : h.Ns mainGlobals mg) {cl : List (Str × D)} (ok : cl.all (cstO K) = true) {x : Str} {d : D} (hx : (x, d) ∈ cl) : Cst K mg x d := by
  have e : cstO K (x, d) = true := List.all_eq_true.mp ok (x, d) hx
  unfold cstO at e
  split at e
  · rename_i v q
    have q : PySem.W.nsIn K mainGlobals x = some (some v) := q
    exact ⟨v, PySem.W.mg_of inH ns q, e⟩
  · cases e
theorem je_cst {C : Ct} {w : Option Addr} {X : Cx} {x : Str} {pos : Pos} {d : D} (c : Cst C.K X.mg x d) (hg : Gl X x := by rfl) (hdb : (x == ("__debug__" : Str)) = false := by decide) : JE C w X (.Name x pos) (mC d) := by
  obtain ⟨v, hm, ok⟩ := c.ex
  obtain ⟨u, r, q⟩ := cst_rep (C := C) (w := w) ok
  exact ⟨fun pins s σ H Q I ⟨F, l, P, g, rr, h2, f⟩ => ld_glob I hg hm ⟨u, H, I, r, f.here g h2 (q F)⟩ hdb⟩
/-! ### zip of two lists or of two tuples -/
def zipD (xs ys : List D) : List D := (xs.zip ys).map fun p => .tup [p.1, p.2]
def gZip : D → D → (List D → Cr) → Cr
  | .tup xs, .tup ys, P => P (zipD xs ys)
  | .lst xs, .lst ys, P => P (zipD xs ys)
  | _, _, _ => fun _ => False
def mZip (m n : ME) : MI := fun l P => m l fun d => n l fun e => gZip d e P
theorem zipD_get {xs ys : List D} {i : Nat} {d : D} (h : (zipD xs ys)[i]? = some d) : ∃ x y, xs[i]? = some x ∧ ys[i]? = some y ∧ d = .tup [x, y] := by
  unfold zipD at h
  rw [List.getElem?_map] at h
  cases e : (xs.zip ys)[i]? with
  | none => rw [e] at h; cases h
  | some p =>
    rw [e] at h
    cases h
    rw [List.getElem?_zip_eq_some] at e
    exact ⟨p.1, p.2, e.1, e.2, rfl⟩
theorem zipD_len {xs ys : List D} : (zipD xs ys).length = min xs.length ys.length := by
  unfold zipD
  rw [List.length_map, List.length_zip]
section
variable {C : Ct} {w : Option Addr} {X : Cx} {F : Fz} {H : Hp}
theorem walk_zipT {a b : Addr} {xs ys : List D} {vs us : List V} (h : SqT C.K F a vs) (r : RepL C w F xs vs) (h' : SqT C.K F b us) (r' : RepL C w F ys us) : WalkD C w (RZ.ItzT C.K a b) F (zipD xs ys) := fun i F' H' g s => by
  have q1 : SqT C.K H' a vs := Ex.t g.sub (Ex.t s h)
  have q2 : SqT C.K H' b us := Ex.t g.sub (Ex.t s h')
  refine ⟨fun d e => ?_, fun hl => ?_⟩
  · obtain ⟨x, y, ex, ey, rfl⟩ := zipD_get e
    obtain ⟨v, e1, r1⟩ := r.get ex
    obtain ⟨u, e2, r2⟩ := r'.get ey
    refine ⟨⟨vs, us, v, u, q1, q2, e1, e2⟩, fun z H'' yl => ?_⟩
    obtain ⟨T, x', y', rfl, hT, rfl, f1, f2⟩ := yl
    have z1 := f1 vs q1
    rw [e1] at z1; cases z1
    have z2 := f2 us q2
    rw [e2] at z2; cases z2
    have s2 := Step.new (o := .tup [v, u]) g hT
    exact ⟨F'.upd T (.tup [v, u]), rfl, s2, rep_tup (SqT.of upd_same) (RepL.cons ((r1.ex s).ex s2.ex) (RepL.cons ((r2.ex s).ex s2.ex) RepL.nil))⟩
  · refine ⟨vs, us, q1, q2, ?_⟩
    rw [zipD_len] at hl
    rw [← r.length, ← r'.length]
    omega
theorem walk_zipL {a b : Addr} {xs ys : List D} {vs us : List V} (h : SqL C.K F a vs) (r : RepL C w F xs vs) (h' : SqL C.K F b us) (r' : RepL C w F ys us) : WalkD C w (Itz C.K a b) F (zipD xs ys) := fun i F' H' g s => by
  have q1 : SqL C.K H' a vs := Ex.l g.sub (Ex.l s h)
  have q2 : SqL C.K H' b us := Ex.l g.sub (Ex.l s h')
  refine ⟨fun d e => ?_, fun hl => ?_⟩
  · obtain ⟨x, y, ex, ey, rfl⟩ := zipD_get e
    obtain ⟨v, e1, r1⟩ := r.get ex
    obtain ⟨u, e2, r2⟩ := r'.get ey
    refine ⟨⟨vs, us, v, u, q1, q2, e1, e2⟩, fun z H'' yl => ?_⟩
    obtain ⟨T, x', y', rfl, hT, rfl, f1, f2⟩ := yl
    have z1 := f1 vs q1
    rw [e1] at z1; cases z1
    have z2 := f2 us q2
    rw [e2] at z2; cases z2
    have s2 := Step.new (o := .tup [v, u]) g hT
    exact ⟨F'.upd T (.tup [v, u]), rfl, s2, rep_tup (SqT.of upd_same) (RepL.cons ((r1.ex s).ex s2.ex) (RepL.cons ((r2.ex s).ex s2.ex) RepL.nil))⟩
  · refine ⟨vs, us, q1, q2, ?_⟩
    rw [zipD_len] at hl
    rw [← r.length, ← r'.length]
    omega
theorem ji_zip {a b : Expr} {p pos tpos : Pos} {elts : List Expr} {kk} {m n : ME} (hK : C.K = X.K) (hg : Gl X "zip") (hm : X.mg "zip" = none) (h : JE C w X a m) (h' : JE C w X b n) (hs : starEach [a, b] X.env = (false, eval a X.env) :: starEach [b] X.env := by rfl) (hs2 : starEach [b] X.env = (false, eval b X.env) :: starEach [] X.env := by rfl) (hpl : (backTo pos (starEach [b] X.env)).any (·.1) = false := by rfl) :
    JI C w X (.Tuple elts kk tpos) (.Call (.Name "zip" p) [a, b] [] pos) (mZip m n) := PI.imp (RZ.pi_zipA hg hm (ja_cons h (ja_cons h' ja_nil hs2) hs) hs hpl) fun σ H R ⟨F, l, P, g0, r, h, f⟩ => by
  refine ⟨F, l, fun ds => match ds with | [d, e] => gZip d e P | _ => fun _ => False, g0, r, h, fun ds vs F1 H1 h1 s1 r1 => ?_⟩
  match ds, h1, r1 with
  | [d, e], h1, r1 =>
    obtain ⟨v, u, rfl, q1, q2⟩ := repL2 r1
    have h1 : gZip d e P F1.n := h1
    cases d <;> cases e <;> first | exact h1.elim | skip
    · obtain ⟨a, vs, rfl, t1, t2⟩ := rep_tup' q1
      obtain ⟨b, us, rfl, t3, t4⟩ := rep_tup' q2
      refine ⟨a, b, vs, us, rfl, .inr ⟨?_, ?_, ?_⟩⟩
      · rw [← hK]; exact Ex.t s1.gd.sub t1
      · rw [← hK]; exact Ex.t s1.gd.sub t3
      · rw [← hK]; exact f.at s1 h1 (walk_zipT t1 t2 t3 t4)
    · obtain ⟨a, vs, rfl, t1, t2⟩ := rep_lst' q1
      obtain ⟨b, us, rfl, t3, t4⟩ := rep_lst' q2
      refine ⟨a, b, vs, us, rfl, .inl ⟨SqL.of (s1.gd.sub _ _ t1), SqL.of (s1.gd.sub _ _ t3), ?_⟩⟩
      rw [← hK]; exact f.at s1 h1 (walk_zipL (SqL.of t1) t2 (SqL.of t3) t4)
end
/-! ### enumerate of a tuple -/
def enD (xs : List D) : List D := xs.zipIdx.map fun p => .tup [.int (p.2 : Nat), p.1]
def gEnum : D → (List D → Cr) → Cr
  | .tup xs, P => P (enD xs)
  | _, _ => fun _ => False
def mEnum (m : ME) : MI := fun l P => m l fun d => gEnum d P
theorem enD_get {xs : List D} {i : Nat} {d : D} (h : (enD xs)[i]? = some d) : ∃ x, xs[i]? = some x ∧ d = .tup [.int (i : Nat), x] := by
  unfold enD at h
  rw [List.getElem?_map, List.getElem?_zipIdx] at h
  cases e : xs[i]? with
  | none => rw [e] at h; cases h
  | some x =>
    rw [e] at h
    cases h
    exact ⟨x, rfl, by simp⟩
theorem enD_len {xs : List D} : (enD xs).length = xs.length := by
  unfold enD
  rw [List.length_map, List.length_zipIdx]
section
variable {C : Ct} {w : Option Addr} {X : Cx} {F : Fz} {H : Hp}
theorem walk_enum {a : Addr} {xs : List D} {vs : List V} (h : SqT C.K F a vs) (r : RepL C w F xs vs) : WalkD C w (IteT C.K a) F (enD xs) := fun i F' H' g s => by
  have q1 : SqT C.K H' a vs := Ex.t g.sub (Ex.t s h)
  refine ⟨fun d e => ?_, fun hl => ?_⟩
  · obtain ⟨x, ex, rfl⟩ := enD_get e
    obtain ⟨v, e1, r1⟩ := r.get ex
    refine ⟨⟨vs, v, q1, e1⟩, fun z H'' yl => ?_⟩
    obtain ⟨T, x', rfl, hT, rfl, f1⟩ := yl
    have z1 := f1 vs q1
    rw [e1] at z1; cases z1
    have s2 := Step.new (o := .tup [.int (i : Nat), v]) g hT
    exact ⟨F'.upd T (.tup [.int (i : Nat), v]), rfl, s2, rep_tup (SqT.of upd_same) (RepL.cons rep_int (RepL.cons ((r1.ex s).ex s2.ex) RepL.nil))⟩
  · rw [enD_len] at hl
    exact ⟨vs, q1, by rw [← r.length]; exact hl⟩
theorem ji_enum {a : Expr} {p pos tpos : Pos} {elts : List Expr} {kk} {m : ME} (hK : C.K = X.K) (hg : Gl X "enumerate") (hm : X.mg "enumerate" = none) (h : JE C w X a m) (hs : starEach [a] X.env = (false, eval a X.env) :: starEach [] X.env := by rfl) :
    JI C w X (.Tuple elts kk tpos) (.Call (.Name "enumerate" p) [a] [] pos) (mEnum m) := PI.imp (piEnT hg hm (ja_cons h ja_nil hs) hs) fun σ H R ⟨F, l, P, g0, r, h, f⟩ => by
  refine ⟨F, l, fun ds => match ds with | [d] => gEnum d P | _ => fun _ => False, g0, r, h, fun ds vs F1 H1 h1 s1 r1 => ?_⟩
  match ds, h1, r1 with
  | [d], h1, r1 =>
    obtain ⟨v, rfl, q1⟩ := repL1 r1
    have h1 : gEnum d P F1.n := h1
    cases d <;> first | exact h1.elim | skip
    obtain ⟨a, vs, rfl, t1, t2⟩ := rep_tup' q1
    refine ⟨a, vs, rfl, ?_, ?_⟩
    · rw [← hK]; exact Ex.t s1.gd.sub t1
    · rw [← hK]; exact f.at s1 h1 (walk_enum t1 t2)
end
end DJ

set_option Elab.async false
set_option linter.all false
set_option maxRecDepth 100000
set_option maxHeartbeats 1000000
namespace DJ
open PySem PySem.Spec PyProof.Rows L2 GxR GX
/-! ### the divisor within a told number of turns -/
theorem halve {x y : Nat} (hy : 0 < y) (hxy : y ≤ x) : 2 * (y * (x % y)) ≤ x * y := by
  have h1 : x % y < y := Nat.mod_lt _ hy
  have h2 := Nat.div_add_mod x y
  have h3 : 1 ≤ x / y := Nat.div_pos hxy hy
  have h4 : y * 1 ≤ y * (x / y) := Nat.mul_le_mul_left _ h3
  have h5 : 2 * (x % y) ≤ x := by omega
  calc 2 * (y * (x % y)) = y * (2 * (x % y)) := by ac_rfl
    _ ≤ y * x := Nat.mul_le_mul_left _ h5
    _ = x * y := Nat.mul_comm _ _
/-- after i turns: the same divisor; y has not ended, or it is so small -/
def eucI (n m : Nat) (i : Nat) (x y : Nat) : Prop := Nat.gcd x y = Nat.gcd n m ∧ (y = 0 ∨ i = 0 ∧ x = n ∧ y = m ∨ 0 < i ∧ y ≤ x ∧ x * y * 2 ^ (i - 1) ≤ m * m)
theorem eucI_step {n m i x y : Nat} (h : eucI n m i x y) (hy : 0 < y) : eucI n m (i + 1) y (x % y) := by
  obtain ⟨hg, h⟩ := h
  refine ⟨by rw [← hg, Nat.gcd_comm x y, Nat.gcd_rec y x, Nat.gcd_comm], .inr (.inr ⟨by omega, Nat.le_of_lt (Nat.mod_lt _ hy), ?_⟩)⟩
  rcases h with h | ⟨rfl, rfl, rfl⟩ | ⟨i0, hxy, hp⟩
  · omega
  · rw [Nat.zero_add, Nat.sub_self, Nat.pow_zero, Nat.mul_one]
    exact Nat.mul_le_mul_left _ (Nat.le_of_lt (Nat.mod_lt _ hy))
  · have h2 := halve hy hxy
    obtain ⟨j, rfl⟩ : ∃ j, i = j + 1 := ⟨i - 1, by omega⟩
    rw [Nat.add_sub_cancel] at hp ⊢
    calc y * (x % y) * 2 ^ (j + 1) = 2 * (y * (x % y)) * 2 ^ j := by rw [Nat.pow_succ]; ac_rfl
      _ ≤ x * y * 2 ^ j := Nat.mul_le_mul_right _ h2
      _ ≤ m * m := hp
theorem eucI_end {n m b x y : Nat} (hb : m < 2 ^ b) (h : eucI n m (2 * b + 3) x y) (h0 : 0 < x ∨ y = 0) : y = 0 := by
  obtain ⟨_, h⟩ := h
  rcases h with h | ⟨h, _⟩ | ⟨_, hxy, hp⟩
  · exact h
  · omega
  · rcases h0 with h0 | h0
    · refine Nat.eq_zero_of_not_pos fun hy => ?_
      have h1 : 1 ≤ x * y := Nat.mul_pos h0 hy
      have h2 : m * m < 2 ^ b * 2 ^ b := Nat.mul_lt_mul'' hb hb
      have h3 : 2 ^ b * 2 ^ b = 2 ^ (2 * b) := by rw [← Nat.pow_add]; congr 1; omega
      have h4 : 2 ^ (2 * b) ≤ 2 ^ (2 * b + 3 - 1) := Nat.pow_le_pow_right (by decide) (by omega)
      have h5 : 1 * 2 ^ (2 * b + 3 - 1) ≤ x * y * 2 ^ (2 * b + 3 - 1) := Nat.mul_le_mul_right _ h1
      omega
    · exact h0
theorem bits_lt (i : Int) : i.natAbs < 2 ^ Builtin.Int.intBits i := by
  unfold Builtin.Int.intBits
  split
  · rename_i h
    have : i = 0 := by simpa using h
    rw [this]; decide
  · exact Nat.lt_log2_self
theorem bits_le {i : Int} {k : Nat} (h : Bt k i) (hk : 0 < k) : Builtin.Int.intBits i ≤ k := by
  unfold Builtin.Int.intBits
  split
  · omega
  · have := h.log (Nat.le_refl _) hk; omega
def sCommon : Spec := g2 fun d e P => gInt d fun a => gInt e fun b n => Bt 8000 b ∧ P (.int ((Nat.gcd a.natAbs b.natAbs : Nat) : Int)) n
def sPickA : Spec := fun ds P c => ∃ (xs : List D) (e : D), ds = [.well, e] ∧ (e = .tup xs ∨ e = .lst xs) ∧ 0 < xs.length ∧ xs.length < 1000000 ∧ c < 1000000000 ∧ ∀ d ∈ xs, ∀ c', c' ≤ c + 1 → P d c'
/-! ### sizes of fractions -/
def qabs (q : Rat) : Rat := if q < 0 then -q else q
theorem qabs_nn (q : Rat) : 0 ≤ qabs q := by unfold qabs; split <;> grind
instance {p : Rat} {a b : Nat} [h : SzP p a b] : SzP (qabs p) a b := ⟨by unfold qabs; split; exact h.sz.neg; exact h.sz⟩
theorem fr_abs (q : Rat) : D.tup [.int (if q.num < 0 then -q.num else q.num), .int ((q.den : Nat) : Int)] = fr (qabs q) := by
  unfold qabs
  have h : q.num < 0 ↔ q < 0 := by
    rw [← Int.not_le, ← Rat.not_le, Rat.num_nonneg]
  by_cases hq : q < 0
  · rw [if_pos hq, if_pos (h.mpr hq), fr_neg]
  · rw [if_neg hq, if_neg (fun z => hq (h.mp z))]; rfl
theorem le_q0 {p q : Rat} : (p.num * ((q.den : Nat) : Int) - q.num * ((p.den : Nat) : Int) ≤ 0) ↔ p ≤ q := by
  rw [← le_q (p := p) (q := q)]; omega
def sSize : Spec := g1 fun d P n => ∃ q, d = fr q ∧ P (fr (qabs q)) n
def sBeyond : Spec := g2 fun d e P => gPr d fun a b => gPr e fun c f n => (Bt 3000 a ∧ Bt 3000 b ∧ Bt 3000 c ∧ Bt 3000 f) ∧ P (.int (a * f - c * b)) n
def sUpTo : Spec := g2 fun d e P n => ∃ p q, (d = fr p ∧ e = fr q) ∧ (Sz 3000 p ∧ Sz 3000 q) ∧ P (.bl (decide (p ≤ q))) n
/-! ### discs -/
def dsc (C R : Rat) : D := .tup [fr C, fr R]
def discB (d : D) : Bool := match d with
  | .tup [x, .tup [.int a, .int b]] => fracB x && fracB (.tup [.int a, .int b]) && decide (0 ≤ a)
  | _ => false
def sIsDisc : Spec := g1 fun d P n => d.fine = true ∧ P (.bl (discB d)) n
theorem discB_dsc {C R : Rat} (h : 0 ≤ R) : discB (dsc C R) = true := by
  show (fracB (fr C) && fracB (fr R) && decide (0 ≤ R.num)) = true
  rw [fracB_fr, fracB_fr, decide_eq_true (Rat.num_nonneg.mpr h)]; rfl
theorem dsc_fine {C R : Rat} (h1 : Sz 1000 C) (h2 : Sz 1000 R) : (dsc C R).fine = true := fine_tup.mpr (f2 (fr_fine h1) (fr_fine h2))
theorem discB_no {d : D} (h : fracsB d 2 = false) : discB d = false := by
  unfold discB
  split
  · rename_i x a b
    have h : (decide ((([x, .tup [.int a, .int b]] : List D).length : Int) = 2) && ([x, .tup [.int a, .int b]] : List D).all fracB) = false := h
    simp only [List.length_cons, List.length_nil, List.all_cons, List.all_nil, Bool.and_true] at h
    have e : decide ((((0 + 1 + 1 : Nat)) : Int) = 2) = true := rfl
    rw [e, Bool.true_and] at h
    rw [h]; rfl
  · rfl
section
variable {C R : Rat} {P : D → Cr}
theorem dsc_inj {C' R' : Rat} : dsc C R = dsc C' R' ↔ C = C' ∧ R = R' := by
  unfold dsc
  simp only [D.tup.injEq, List.cons.injEq, and_true, fr_inj]
theorem eIxD0 : gIx (dsc C R) (.int 0) P = P (fr C) := funext fun n => propext ⟨fun ⟨d, e, h⟩ => by rw [at0] at e; cases e; exact h, fun h => ⟨_, at0, h⟩⟩
theorem eIxD1 : gIx (dsc C R) (.int 1) P = P (fr R) := funext fun n => propext ⟨fun ⟨d, e, h⟩ => by rw [at1] at e; cases e; exact h, fun h => ⟨_, at1, h⟩⟩
theorem eTupD2 {t : MGs} {l : Sl} {W : Sl → Cr} : gTupD 2 t (dsc C R) l W = t [fr C, fr R] l W := funext fun c => propext ⟨fun ⟨es, e, _, h⟩ => by cases e; exact h, fun h => ⟨_, rfl, rfl, h⟩⟩
theorem dsc_shy (h1 : Sz 1000 C) (h2 : Sz 1000 R) : (dsc C R).shy = true := by
  unfold dsc
  rw [shy_tup, shyL_cons, shyL_cons, shyL_nil, fr_shy h1, fr_shy h2]; rfl
theorem dsc_dp : (dsc C R).dp = 3 := rfl
theorem dsc_cost : (dsc C R).cost = 4025 := rfl
end
/-- of one disc, of two, of a disc and a number -/
def sDsc1 (k : Nat) (f : Rat → Rat → D) : Spec := g1 fun d P n => ∃ C R, d = dsc C R ∧ (Sz k C ∧ Sz k R ∧ 0 ≤ R) ∧ P (f C R) n
def sDsc2 (k : Nat) (f : Rat → Rat → Rat → Rat → D) : Spec := g2 fun d e P n => ∃ C R C' R', (d = dsc C R ∧ e = dsc C' R') ∧ (Sz k C ∧ Sz k R ∧ Sz k C' ∧ Sz k R') ∧ (0 ≤ R ∧ 0 ≤ R') ∧ P (f C R C' R') n
def sDscF (k : Nat) (f : Rat → Rat → Rat → D) : Spec := g2 fun d e P n => ∃ C R q, (d = dsc C R ∧ e = fr q) ∧ (Sz k C ∧ Sz k R ∧ Sz k q) ∧ 0 ≤ R ∧ P (f C R q) n
def sDscP (k : Nat) (f : Rat → Rat → Rat → Rat → D) : Spec := g2 fun d e P n => ∃ C R p q, (d = dsc C R ∧ e = dsc p q) ∧ (Sz k C ∧ Sz k R ∧ Sz k p ∧ Sz k q) ∧ 0 ≤ R ∧ P (f C R p q) n
def liesB (C R C' R' : Rat) : Bool := decide (qabs (C - C') + R ≤ R')
def hasB (C R p q : Rat) : Bool := decide ((p - C) * (p - C) + q * q ≤ R * R)
/-! ### what these laws draw -/
def sNum : Spec := fun ds P n => ∃ t m : Int, ds = [.well, .int t, .int m] ∧ (0 < t ∧ t ≤ 1000) ∧ (0 < m ∧ m ≤ 1000) ∧ n < 999000000 ∧ ∀ (q : Rat) (n' : Nat), Sz 12 q → n' ≤ n + 2 → P (fr q) n'
def sRim : Spec := fun ds P n => ds = [.well] ∧ n < 999000000 ∧ ∀ (x y : Rat) (n' : Nat), Sz 12 x → Sz 12 y → x * x + y * y = 1 → n' ≤ n + 3 → P (dsc x y) n'
def sDiscD : Spec := fun ds P n => ds = [.well] ∧ n < 999000000 ∧ ∀ (C R : Rat) (n' : Nat), Sz 12 C → Sz 12 R → 0 ≤ R → n' ≤ n + 4 → P (dsc C R) n'
def sAbout : Spec := fun ds P n => ∃ C R, ds = [.well, dsc C R] ∧ ∃ k : Nat, k ≤ 200 ∧ (Sz k C ∧ Sz k R ∧ 0 ≤ R) ∧ n < 999000000 ∧ ∀ (C' R' : Rat) (n' : Nat), Sz (k + 40) C' → Sz (k + 40) R' → 0 ≤ R' → n' ≤ n + 3 → P (dsc C' R') n'
def sTurnOf : Spec := fun ds P n => ∃ C R, ds = [.well, dsc C R] ∧ ∃ k : Nat, k ≤ 200 ∧ (Sz k C ∧ Sz k R ∧ 0 ≤ R) ∧ n < 999000000 ∧ ∀ (p q : Rat) (n' : Nat), Sz (2 * k + 40) p → Sz (2 * k + 40) q → (p - C) * (p - C) + q * q ≤ R * R → n' ≤ n + 4 → P (dsc p q) n'
theorem half_q : ((1 : Int) : Rat) / ((2 : Int) : Rat) = 1 / 2 := by decide +kernel
theorem dsc_eta {C R : Rat} : D.tup [fr C, fr R] = dsc C R := rfl
def sOfEnds : Spec := g2 fun d e P n => ∃ x y, (d = fr x ∧ e = fr y) ∧ (Sz 1000 x ∧ Sz 1000 y) ∧ P (dsc (1 / 2 * (x + y)) (1 / 2 * qabs (x - y))) n
theorem within_lies {C R C' R' : Rat} : (decide (C' - R' ≤ C - R) && decide (C + R ≤ C' + R')) = liesB C R C' R' := by
  unfold liesB qabs
  rw [← Bool.decide_and]
  refine decide_eq_decide.mpr ?_
  split <;> constructor <;> intro h <;> (try constructor) <;> grind
instance : SzP (1 / 2 : Rat) 1 2 := ⟨by unfold Sz2; decide +kernel⟩
theorem szD {k : Nat} {q : Rat} (h : Sz k q) : SzC q k := ⟨h⟩
theorem half_of {x y : Rat} (h : 0 ≤ y) : 1 / 2 * (x - y + (x + y)) = x ∧ 1 / 2 * qabs (x - y - (x + y)) = y := by
  refine ⟨by grind, ?_⟩
  unfold qabs
  split <;> grind
theorem sum_ends {C R C' R' : Rat} (h : 0 ≤ R) (h' : 0 ≤ R') : 1 / 2 * (C - R + (C' - R') + (C + R + (C' + R'))) = C + C' ∧ 1 / 2 * qabs (C - R + (C' - R') - (C + R + (C' + R'))) = R + R' := by
  refine ⟨by grind, ?_⟩
  unfold qabs
  split <;> grind
theorem mul_ends {C R q : Rat} (h : 0 ≤ R) : 1 / 2 * (q * (C - R) + q * (C + R)) = q * C ∧ 1 / 2 * qabs (q * (C - R) - q * (C + R)) = qabs q * R := by
  refine ⟨by grind, ?_⟩
  have e : q * (C - R) - q * (C + R) = -(2 * (q * R)) := by grind
  rw [e]
  unfold qabs
  by_cases hq : q < 0
  · have h2 : q * R ≤ 0 := by
      have := Rat.mul_nonneg (show 0 ≤ -q by grind) h
      grind
    rw [if_pos hq]
    split <;> grind
  · have h2 : 0 ≤ q * R := Rat.mul_nonneg (Rat.not_lt.mp hq) h
    rw [if_neg hq]
    split <;> grind
theorem on_rim {C R t x y : Rat} (hr : 0 ≤ R) (ht : 0 ≤ t) (ht1 : t ≤ 1) (e : x * x + y * y = 1) : (C + R * t * x - C) * (C + R * t * x - C) + R * t * y * (R * t * y) ≤ R * R := by
  have e1 : (C + R * t * x - C) * (C + R * t * x - C) + R * t * y * (R * t * y) = R * R * (t * t) * (x * x + y * y) := by grind
  rw [e1, e, Rat.mul_one]
  have h1 : t * t ≤ 1 := by
    have := Rat.mul_le_mul_of_nonneg_left ht1 ht
    grind
  have := Rat.mul_le_mul_of_nonneg_left h1 (Rat.mul_nonneg hr hr)
  grind
theorem fr_of {q : Rat} {a b : Int} (h1 : q.num = a) (h2 : ((q.den : Nat) : Int) = b) : D.tup [.int a, .int b] = fr q := by unfold fr; rw [h1, h2]
theorem sq_le_abs {a R : Rat} (hr : 0 ≤ R) (h : a * a ≤ R * R) : a ≤ R ∧ -R ≤ a := by
  constructor
  · refine Rat.not_lt.mp fun hn => ?_
    have h1 := Rat.mul_lt_mul_of_pos_left hn (show 0 < a by grind)
    have h2 := Rat.mul_le_mul_of_nonneg_left (Rat.le_of_lt hn) hr
    grind
  · refine Rat.not_lt.mp fun hn => ?_
    have h1 := Rat.mul_lt_mul_of_pos_left (show R < -a by grind) (show 0 < -a by grind)
    have h2 := Rat.mul_le_mul_of_nonneg_left (show R ≤ -a by grind) hr
    grind
theorem sq_nnq (a : Rat) : 0 ≤ a * a := by
  rcases Rat.le_total (a := 0) (b := a) with h | h
  · exact Rat.mul_nonneg h h
  · have := Rat.mul_nonneg (show 0 ≤ -a by grind) (show 0 ≤ -a by grind)
    grind
theorem sq_mono {a b : Rat} (h0 : 0 ≤ a) (h : a ≤ b) : a * a ≤ b * b := by
  have h1 := Rat.mul_le_mul_of_nonneg_left h h0
  have h2 := Rat.mul_le_mul_of_nonneg_right h (show 0 ≤ b by grind)
  grind
theorem lies_has {C R C' R' p q : Rat} (hr : 0 ≤ R) (h : qabs (C - C') + R ≤ R') (hp : (p - C) * (p - C) + q * q ≤ R * R) : (p - C') * (p - C') + q * q ≤ R' * R' := by
  have hq := sq_nnq q
  obtain ⟨a1, a2⟩ := sq_le_abs (a := p - C) hr (by grind)
  have n0 := qabs_nn (C - C')
  have e1 : (p - C') * (p - C') + q * q = ((p - C) * (p - C) + q * q) + 2 * ((p - C) * (C - C')) + (C - C') * (C - C') := by grind
  have e2 : (p - C) * (C - C') ≤ R * qabs (C - C') := by
    unfold qabs
    split
    · rename_i hn
      have := Rat.mul_nonneg (show 0 ≤ (p - C) + R by grind) (show 0 ≤ -(C - C') by grind)
      grind
    · rename_i hn
      have := Rat.mul_nonneg (show 0 ≤ R - (p - C) by grind) (show 0 ≤ C - C' by grind)
      grind
  have e3 : (C - C') * (C - C') = qabs (C - C') * qabs (C - C') := by unfold qabs; split <;> grind
  have e4 := sq_mono (a := qabs (C - C') + R) (b := R') (by grind) h
  grind
theorem sum_has {C R C' R' p q p' q' : Rat} (hr : 0 ≤ R) (hr' : 0 ≤ R') (h : (p - C) * (p - C) + q * q ≤ R * R) (h' : (p' - C') * (p' - C') + q' * q' ≤ R' * R') : (p + p' - (C + C')) * (p + p' - (C + C')) + (q + q') * (q + q') ≤ (R + R') * (R + R') := by
  have e0 : (p + p' - (C + C')) * (p + p' - (C + C')) + (q + q') * (q + q') = ((p - C) * (p - C) + q * q) + ((p' - C') * (p' - C') + q' * q') + 2 * ((p - C) * (p' - C') + q * q') := by grind
  have c1 : ((p - C) * (p' - C') + q * q') * ((p - C) * (p' - C') + q * q') ≤ (R * R') * (R * R') := by
    have s := sq_nnq ((p - C) * q' - q * (p' - C'))
    have n1 : 0 ≤ (p' - C') * (p' - C') + q' * q' := by have := sq_nnq (p' - C'); have := sq_nnq q'; grind
    have m1 := Rat.mul_le_mul_of_nonneg_right h n1
    have m2 := Rat.mul_le_mul_of_nonneg_left h' (sq_nnq R)
    grind
  have c2 := (sq_le_abs (Rat.mul_nonneg hr hr') c1).1
  grind
theorem mul_has {C R p q b : Rat} (h : (p - C) * (p - C) + q * q ≤ R * R) : (b * p - b * C) * (b * p - b * C) + b * q * (b * q) ≤ qabs b * R * (qabs b * R) := by
  have e1 : qabs b * R * (qabs b * R) = b * b * (R * R) := by unfold qabs; split <;> grind
  have := Rat.mul_le_mul_of_nonneg_left h (sq_nnq b)
  grind
theorem qabs_mul {a b : Rat} : qabs (a * b) = qabs a * qabs b := by
  have n : ∀ {x y : Rat}, 0 ≤ x → 0 ≤ y → 0 ≤ x * y := fun h k => Rat.mul_nonneg h k
  unfold qabs
  by_cases ha : a < 0 <;> by_cases hb : b < 0
  · have := n (show 0 ≤ -a by grind) (show 0 ≤ -b by grind)
    simp only [ha, hb, if_true]
    split <;> grind
  · have := n (show 0 ≤ -a by grind) (show 0 ≤ b by grind)
    simp only [ha, hb, if_true, if_false]
    split <;> grind
  · have := n (show 0 ≤ a by grind) (show 0 ≤ -b by grind)
    simp only [ha, hb, if_true, if_false]
    split <;> grind
  · have := n (show 0 ≤ a by grind) (show 0 ≤ b by grind)
    simp only [ha, hb, if_false]
    split <;> grind
theorem lies_sum {C R C' R' D' S : Rat} : liesB (C + D') (R + S) (C' + D') (R' + S) = liesB C R C' R' := by
  unfold liesB
  rw [show C + D' - (C' + D') = C - C' by grind]
  refine decide_eq_decide.mpr ⟨fun h => by grind, fun h => by grind⟩
theorem lies_mul {C R C' R' b : Rat} (hb : b ≠ 0) : liesB (b * C) (qabs b * R) (b * C') (qabs b * R') = liesB C R C' R' := by
  have b0 : 0 < qabs b := by unfold qabs; split <;> grind
  unfold liesB
  rw [show b * C - b * C' = b * (C - C') by grind, qabs_mul, ← Rat.mul_add]
  exact decide_eq_decide.mpr ⟨fun h => Rat.le_of_mul_le_mul_left h b0, fun h => Rat.mul_le_mul_of_nonneg_left h (Rat.le_of_lt b0)⟩
def sKnown : Spec := g1 fun d P n => ∃ ps : List (Rat × Rat), d = .lst (ps.map fun p => dsc p.1 p.2) ∧ ps.length ≤ 20 ∧ (∀ p ∈ ps, Sz 900 p.1 ∧ Sz 900 p.2 ∧ 0 ≤ p.2) ∧ P (.bl true) n
theorem cut1 {a b : D} : cutD [a, b] none (some 1) = [a] := rfl
theorem fineT {xs : List D} : (D.tup xs).fine = fineL xs := by rw [D.fine]
theorem fineS {xs : List D} : (D.lst xs).fine = fineL xs := by rw [D.fine]
theorem fineN : fineL [] = true := rfl
theorem fineC {d : D} {ds : List D} : fineL (d :: ds) = (d.fine && fineL ds) := by rw [fineL]
theorem fine0 : (D.int 0).fine = true := by decide +kernel
theorem fine1 : (D.int 1).fine = true := by decide +kernel
theorem fine2 : (D.int 2).fine = true := by decide +kernel
theorem fine3 : (D.int 3).fine = true := by decide +kernel
theorem finem : (D.int (-1)).fine = true := by decide +kernel
theorem db1 {C R : Rat} : discB (.lst [fr C, fr R]) = false := rfl
theorem db2 {C R : Rat} : discB (.tup [fr C, fr R, .tup [.int 0, .int 1]]) = false := rfl
theorem db3 {C : Rat} : discB (.tup [fr C]) = false := rfl
theorem db4 {C : Rat} : discB (.tup [fr C, .tup [.int (-1), .int 3]]) = false := by
  show (fracB (fr C) && fracB (.tup [.int (-1), .int 3]) && decide ((0 : Int) ≤ -1)) = false
  rw [show decide ((0 : Int) ≤ -1) = false from rfl, Bool.and_false]
theorem db5 {R : Rat} : discB (.tup [.tup [.int 2, .int 2], fr R]) = false := by
  show (fracB (.tup [.int 2, .int 2]) && fracB (fr R) && decide (0 ≤ R.num)) = false
  rw [show fracB (.tup [.int 2, .int 2]) = false by decide +kernel]; rfl
theorem db6 {C : Rat} : discB (.tup [fr C, .lst [.int 0, .int 1]]) = false := rfl
theorem rep2 {a : D} : (List.replicate (2 : Nat) [a]).flatten = [a, a] := rfl
theorem rep6 {a : D} : (List.replicate (6 : Nat) [a]).flatten = [a, a, a, a, a, a] := rfl
theorem rb8 {a b c d e f g h : Bool} (P : D → Cr) (n : Nat) : gRepr (.lst [.bl a, .bl b, .bl c, .bl d, .bl e, .bl f, .bl g, .bl h]) P n = P (.str (D.lst [.bl a, .bl b, .bl c, .bl d, .bl e, .bl f, .bl g, .bl h]).py.shown) n := repr_bls (bs := [a, b, c, d, e, f, g, h]) (by simp) P n
theorem rb2 {a b : Bool} (P : D → Cr) (n : Nat) : gRepr (.lst [.bl a, .bl b]) P n = P (.str (D.lst [.bl a, .bl b]).py.shown) n := repr_bls (bs := [a, b]) (by simp) P n
theorem eRAd {C R : Rat} {P : D → Cr} : gReprA (dsc C R) P = gRepr (dsc C R) P := rfl
theorem eInT {neg : Bool} {x : D} {xs : List D} {P : D → Cr} : gIn neg x (.tup xs) P = fun n => (flatD x = true ∧ xs.all flatD = true) ∧ P (.bl (if neg then !inD x xs else inD x xs)) n := rfl
theorem rng_get {i k : Nat} {d : D} {a : Int} (h : (rangeD a k)[i]? = some d) : d = .int (a + (i : Nat)) := by
  unfold rangeD at h
  rw [List.getElem?_map] at h
  cases e : (List.range k)[i]? with
  | none => rw [e] at h; cases h
  | some j =>
    rw [e] at h; cases h
    obtain ⟨_, h2⟩ := List.getElem?_eq_some_iff.mp e
    rw [List.getElem_range] at h2
    rw [h2]


end DJ

set_option Elab.async false
set_option linter.all false
set_option maxRecDepth 100000
set_option maxHeartbeats 1000000
namespace DJ
open PySem PySem.Spec PyProof.Rows L2 GxR GX
/-! ### fractions and rows compared as values -/
theorem fr_eqv (p q : Rat) : PyData.eqv (fr p).py (fr q).py = decide (p = q) := by
  show PyData.eqv (.tuple [.int p.num, .int ((p.den : Nat) : Int)]) (.tuple [.int q.num, .int ((q.den : Nat) : Int)]) = decide (p = q)
  have e : PyData.eqv (.tuple [.int p.num, .int ((p.den : Nat) : Int)]) (.tuple [.int q.num, .int ((q.den : Nat) : Int)]) = (decide (p.num = q.num) && decide (((p.den : Nat) : Int) = ((q.den : Nat) : Int))) := by
    simp only [PyData.eqv, PyData.eqvAll, Bool.and_true]; rfl
  rw [e, ← Bool.decide_and]
  refine decide_eq_decide.mpr ⟨fun h => Rat.ext h.1 (by omega), fun h => by rw [h]; exact ⟨rfl, rfl⟩⟩
theorem fr_okE (q : Rat) : okE (fr q) = true := rfl
def rwD (qs : List Rat) : D := .tup (qs.map fr)
theorem rw_plain : ∀ qs : List Rat, plainL (qs.map fr) = true
  | [] => rfl
  | q :: qs => by rw [List.map_cons, plainL, rw_plain qs]; rfl
theorem rw_lay : ∀ qs : List Rat, PyData.canLayAll0 (pyL (qs.map fr)) = true ∧ PyData.depthAll (pyL (qs.map fr)) ≤ 2
  | [] => ⟨rfl, by rw [List.map_nil, pyL, PyData.depthAll]; decide⟩
  | q :: qs => by
    obtain ⟨h1, h2⟩ := rw_lay qs
    rw [List.map_cons, pyL]
    refine ⟨by rw [PyData.canLayAll0, h1]; rfl, ?_⟩
    rw [PyData.depthAll]
    have : PyData.depth (fr q).py = 1 := rfl
    omega
theorem rw_okE (qs : List Rat) : okE (rwD qs) = true := by
  obtain ⟨h1, h2⟩ := rw_lay qs
  unfold okE rwD
  rw [D.plain, rw_plain qs, D.py]
  have e1 : PyData.canLay0 (.tuple (pyL (qs.map fr))) = true := by rw [PyData.canLay0]; exact h1
  have e2 : PyData.depth (.tuple (pyL (qs.map fr))) ≤ 64 := by rw [PyData.depth]; omega
  show (true && (PyData.canLay0 _ && decide (PyData.depth _ ≤ 64))) = true
  rw [e1, decide_eq_true e2]; rfl
theorem rw_eqvL : ∀ qs rs : List Rat, PyData.eqvAll (pyL (qs.map fr)) (pyL (rs.map fr)) = decide (qs = rs)
  | [], [] => rfl
  | [], r :: rs => by simp [pyL, PyData.eqvAll]
  | q :: qs, [] => by simp [pyL, PyData.eqvAll]
  | q :: qs, r :: rs => by
    rw [List.map_cons, List.map_cons, pyL, pyL, PyData.eqvAll, fr_eqv, rw_eqvL qs rs, ← Bool.decide_and]
    exact decide_eq_decide.mpr ⟨fun h => by rw [h.1, h.2], fun h => by cases h; exact ⟨rfl, rfl⟩⟩
theorem rw_eqv (qs rs : List Rat) : PyData.eqv (rwD qs).py (rwD rs).py = decide (qs = rs) := by
  unfold rwD
  rw [D.py, D.py, PyData.eqv, rw_eqvL]
theorem eEqR {qs rs : List Rat} {P : D → Cr} : gEq (rwD qs) (rwD rs) P = P (.bl (decide (qs = rs))) := funext fun n => propext ⟨fun h => by have := h.2; rw [rw_eqv] at this; exact this, fun h => ⟨⟨rw_okE qs, rw_okE rs⟩, by rw [rw_eqv]; exact h⟩⟩
theorem eEqF {p q : Rat} {P : D → Cr} : gEq (fr p) (fr q) P = P (.bl (decide (p = q))) := funext fun n => propext ⟨fun h => by have := h.2; rw [fr_eqv] at this; exact this, fun h => ⟨⟨rfl, rfl⟩, by rw [fr_eqv]; exact h⟩⟩
theorem eNeF {p q : Rat} {P : D → Cr} : gNe (fr p) (fr q) P = P (.bl (!decide (p = q))) := funext fun n => propext ⟨fun h => by have := h.2; rw [fr_eqv] at this; exact this, fun h => ⟨⟨rfl, rfl⟩, by rw [fr_eqv]; exact h⟩⟩
/-! ### sums of products -/
def comb (a b : Rat) (p q : List Rat) : List Rat := List.zipWith (fun s t => a * s + b * t) p q
def dotq (p q : List Rat) : Rat := (p.zip q).foldl (fun t s => t + s.1 * s.2) 0
def dotr : List Rat → List Rat → Rat
  | p :: ps, q :: qs => p * q + dotr ps qs
  | _, _ => 0
theorem dot_fold : ∀ (p q : List Rat) (t : Rat), (p.zip q).foldl (fun t s => t + s.1 * s.2) t = t + dotr p q
  | [], _, t => by unfold dotr; simp [Rat.add_zero]
  | _ :: _, [], t => by unfold dotr; simp [Rat.add_zero]
  | p :: ps, q :: qs, t => by
    rw [List.zip_cons_cons, List.foldl_cons, dot_fold ps qs, dotr]
    grind
theorem dotq_eq (p q : List Rat) : dotq p q = dotr p q := by unfold dotq; rw [dot_fold]; grind
theorem dot_comb : ∀ (p q : List Rat) (a b c d : Rat), p.length = q.length → dotr (comb a b p q) (comb c d p q) = a * c * dotr p p + (a * d + b * c) * dotr p q + b * d * dotr q q
  | [], [], a, b, c, d, _ => by unfold comb dotr; simp; grind
  | p :: ps, q :: qs, a, b, c, d, h => by
    have ih := dot_comb ps qs a b c d (by simpa using h)
    unfold comb at ih ⊢
    rw [List.zipWith_cons_cons, List.zipWith_cons_cons, dotr, dotr, dotr, dotr, ih]
    grind
theorem comb_len {a b : Rat} {p q : List Rat} (h : p.length = q.length) : (comb a b p q).length = p.length := by
  unfold comb; rw [List.length_zipWith]; omega
/-- differences of combined rows are combined differences -/
theorem comb_comb : ∀ {x u y v : List Rat} {a b : Rat}, x.length = u.length → y.length = v.length → x.length = y.length → comb 1 (-1) (comb a b x u) (comb a b y v) = comb a b (comb 1 (-1) x y) (comb 1 (-1) u v)
  | [], [], [], [], a, b, _, _, _ => rfl
  | x :: xs, u :: us, y :: ys, v :: vs, a, b, h1, h2, h3 => by
    have ih := comb_comb (x := xs) (u := us) (y := ys) (v := vs) (a := a) (b := b) (by simpa using h1) (by simpa using h2) (by simpa using h3)
    unfold comb at ih ⊢
    rw [List.zipWith_cons_cons, List.zipWith_cons_cons, List.zipWith_cons_cons, List.zipWith_cons_cons, List.zipWith_cons_cons, List.zipWith_cons_cons, ih]
    congr 1
    grind
  | [], _ :: _, _, _, _, _, h, _, _ => by cases h
  | _ :: _, [], _, _, _, _, h, _, _ => by cases h
  | [], [], _ :: _, _, _, _, _, _, h => by cases h
  | [], [], [], _ :: _, _, _, _, h, _ => by cases h
  | _ :: _, _ :: _, [], _, _, _, _, _, h => by cases h
  | _ :: _, _ :: _, _ :: _, [], _, _, _, h, _ => by cases h
theorem comb_l {p q : List Rat} (h : p.length = q.length) : comb 1 0 p q = p := by
  unfold comb
  refine List.ext_getElem (by rw [List.length_zipWith]; omega) fun i h1 h2 => ?_
  rw [List.getElem_zipWith]; grind
theorem comb_r {p q : List Rat} (h : p.length = q.length) : comb 0 1 p q = q := by
  unfold comb
  refine List.ext_getElem (by rw [List.length_zipWith]; omega) fun i h1 h2 => ?_
  rw [List.getElem_zipWith]; grind
theorem dot_comm : ∀ p q : List Rat, dotr p q = dotr q p
  | [], [] => rfl
  | [], _ :: _ => rfl
  | _ :: _, [] => rfl
  | p :: ps, q :: qs => by rw [dotr, dotr, dot_comm ps qs]; grind
/-! sizes -/
def Rz (a b : Nat) (qs : List Rat) : Prop := ∀ q ∈ qs, Sz2 a b q
theorem dot_sz : ∀ {p q : List Rat} {a b : Nat}, Rz a b p → Rz a b q → p.length ≤ q.length → 0 < p.length → Sz2 (2 * a + 2 * b * (p.length - 1) + p.length) (2 * b * p.length) (dotr p q)
  | [p], q :: qs, a, b, hp, hq, _, _ => by
    have := (hp p (by simp)).mul (hq q (by simp))
    rw [dotr, show dotr [] qs = 0 by unfold dotr; rfl, Rat.add_zero]
    refine ⟨Nat.lt_of_lt_of_le this.1 (Nat.pow_le_pow_right (by decide) (by simp; omega)), Nat.lt_of_lt_of_le this.2 (Nat.pow_le_pow_right (by decide) (by simp; omega))⟩
  | p :: p2 :: ps, q :: qs, a, b, hp, hq, hl, _ => by
    have ih := dot_sz (p := p2 :: ps) (q := qs) (fun r hr => hp r (List.mem_cons_of_mem _ hr)) (fun r hr => hq r (List.mem_cons_of_mem _ hr)) (by simpa using hl) (by simp)
    have := ((hp p (by simp)).mul (hq q (by simp))).add ih
    rw [dotr]
    have e1 : (p :: p2 :: ps).length = ps.length + 2 := rfl
    have e2 : (p2 :: ps).length = ps.length + 1 := rfl
    rw [e2] at this
    rw [e1]
    have m1 : 2 * b * (ps.length + 1) = 2 * b * ps.length + 2 * b := Nat.mul_succ _ _
    have m2 : 2 * b * (ps.length + 2) = 2 * b * ps.length + 2 * b + 2 * b := by rw [Nat.mul_add]; omega
    have m3 : 2 * b * (ps.length + 2 - 1) = 2 * b * ps.length + 2 * b := by rw [show ps.length + 2 - 1 = ps.length + 1 by omega, m1]
    rw [m1, Nat.add_sub_cancel] at this
    rw [m2, m3]
    refine ⟨Nat.lt_of_lt_of_le this.1 (Nat.pow_le_pow_right (by decide) (by omega)), Nat.lt_of_lt_of_le this.2 (Nat.pow_le_pow_right (by decide) (by omega))⟩
  | _ :: _, [], _, _, _, _, h, _ => by simp at h
theorem comb_sz {p q : List Rat} {a b c d e f : Nat} {x y : Rat} [hx : SzP x c d] [hy : SzP y e f] (hp : Rz a b p) (hq : Rz a b q) : Rz (max (c + a + (f + b)) (e + a + (d + b)) + 1) (d + b + (f + b)) (comb x y p q) := by
  intro r hr
  unfold comb at hr
  obtain ⟨i, hi, rfl⟩ := List.mem_iff_getElem.mp hr
  rw [List.getElem_zipWith]
  exact (hx.sz.mul (hp _ (List.getElem_mem _))).add (hy.sz.mul (hq _ (List.getElem_mem _)))
theorem Rz.mono {a b c d : Nat} {p : List Rat} (h : Rz a b p) (l1 : a ≤ c) (l2 : b ≤ d) : Rz c d p := fun q hq => ⟨Nat.lt_of_lt_of_le (h q hq).1 (Nat.pow_le_pow_right (by decide) l1), Nat.lt_of_lt_of_le (h q hq).2 (Nat.pow_le_pow_right (by decide) l2)⟩
/-! squares: the gap of rows -/
theorem dot_nn : ∀ p : List Rat, 0 ≤ dotr p p
  | [] => by unfold dotr; decide
  | p :: ps => by rw [dotr]; have := dot_nn ps; have := sq_nnq p; grind
theorem dot_zero : ∀ p : List Rat, dotr p p = 0 → ∀ r ∈ p, r = 0
  | [], _, _, h => by cases h
  | p :: ps, h, r, hr => by
    rw [dotr] at h
    have h1 := dot_nn ps
    have h2 := sq_nnq p
    rcases List.mem_cons.mp hr with rfl | hr
    · have : r * r = 0 := by grind
      rcases Rat.mul_eq_zero.mp this with h | h <;> exact h
    · exact dot_zero ps (by grind) r hr
theorem dot_cs {p q : List Rat} (h : p.length = q.length) : dotr p q * dotr p q ≤ dotr p p * dotr q q := by
  have h1 := dot_nn (comb (dotr q q) (-(dotr p q)) p q)
  rw [dot_comb p q _ _ _ _ h] at h1
  have h2 := dot_nn q
  by_cases h0 : dotr q q = 0
  · have hz := dot_zero q h0
    have : dotr p q = 0 := by
      have key : ∀ (p q : List Rat), (∀ r ∈ q, r = 0) → dotr p q = 0 := by
        intro p
        induction p with
        | nil => intro q _; unfold dotr; rfl
        | cons a p ih =>
          intro q hq
          cases q with
          | nil => rfl
          | cons b q => rw [dotr, ih q fun r hr => hq r (List.mem_cons_of_mem _ hr), hq b (by simp)]; grind
      exact key p q hz
    rw [this, h0]; grind
  · have h3 : 0 < dotr q q := by grind
    have e : dotr q q * dotr q q * dotr p p + (dotr q q * -dotr p q + -dotr p q * dotr q q) * dotr p q + -dotr p q * -dotr p q * dotr q q = dotr q q * (dotr p p * dotr q q - dotr p q * dotr p q) := by grind
    rw [e] at h1
    have : 0 ≤ dotr p p * dotr q q - dotr p q * dotr p q := by
      refine Rat.le_of_mul_le_mul_left (c := dotr q q) ?_ h3
      rw [Rat.mul_zero]; exact h1
    grind
end DJ

set_option Elab.async false
set_option linter.all false
set_option maxRecDepth 100000
set_option maxHeartbeats 1000000
namespace DJ
open PySem PySem.Spec PyProof.Rows L2 GxR GX
/-! ### leads -/
def ld (e f g h : Rat) : D := .tup [.tup [fr e, fr f], .tup [fr g, fr h]]
def tr (a b c : Rat) : D := .tup [fr a, fr b, fr c]
def lA (x y z e f : Rat) : Rat := e * e * x + (e * f + f * e) * y + f * f * z
def lB (x y z e f g h : Rat) : Rat := e * g * x + (e * h + f * g) * y + f * h * z
theorem ld_disc {x y z e f g h : Rat} : lB x y z e f g h * lB x y z e f g h - lA x y z e f * lA x y z g h = (e * h - f * g) * (e * h - f * g) * (y * y - x * z) := by unfold lA lB; grind
theorem tr_shy {a b c : Rat} (h1 : Sz 1000 a) (h2 : Sz 1000 b) (h3 : Sz 1000 c) : (tr a b c).shy = true := by
  unfold tr
  rw [shy_tup, shyL_cons, shyL_cons, shyL_cons, shyL_nil, fr_shy h1, fr_shy h2, fr_shy h3]; rfl
theorem tr_dp {a b c : Rat} : (tr a b c).dp = 3 := rfl
theorem tr_cost {a b c : Rat} : (tr a b c).cost = 6036 := rfl
theorem ld_shy {e f g h : Rat} (h1 : Sz 1000 e) (h2 : Sz 1000 f) (h3 : Sz 1000 g) (h4 : Sz 1000 h) : (ld e f g h).shy = true := by
  unfold ld
  simp only [shy_tup, shyL_cons, shyL_nil, fr_shy h1, fr_shy h2, fr_shy h3, fr_shy h4, Bool.and_true]
theorem ld_dp {e f g h : Rat} : (ld e f g h).dp = 4 := rfl
theorem ld_cost {e f g h : Rat} : (ld e f g h).cost = 8057 := rfl
theorem ld_fine {e f g h : Rat} (h1 : Sz 1000 e) (h2 : Sz 1000 f) (h3 : Sz 1000 g) (h4 : Sz 1000 h) : (ld e f g h).fine = true := by
  unfold ld
  simp only [fineT, fineC, fineN, fr_fine h1, fr_fine h2, fr_fine h3, fr_fine h4, Bool.and_true]
theorem ld_eta {e f g h : Rat} : D.tup [.tup [fr e, fr f], .tup [fr g, fr h]] = ld e f g h := rfl
section
variable {e f g h a b c : Rat} {P : D → Cr} {t : MGs} {l : Sl} {W : Sl → Cr}
theorem eTupLd : gTupD 2 t (ld e f g h) l W = t [.tup [fr e, fr f], .tup [fr g, fr h]] l W := funext fun c => propext ⟨fun ⟨es, e, _, h⟩ => by cases e; exact h, fun h => ⟨_, rfl, rfl, h⟩⟩
theorem eTupTr : gTupD 3 t (tr a b c) l W = t [fr a, fr b, fr c] l W := funext fun c => propext ⟨fun ⟨es, e, _, h⟩ => by cases e; exact h, fun h => ⟨_, rfl, rfl, h⟩⟩
theorem tr_inj {a' b' c' : Rat} : tr a b c = tr a' b' c' ↔ a = a' ∧ b = b' ∧ c = c' := by
  unfold tr; simp only [D.tup.injEq, List.cons.injEq, and_true, fr_inj]
theorem ld_inj {e' f' g' h' : Rat} : ld e f g h = ld e' f' g' h' ↔ (e = e' ∧ f = f') ∧ g = g' ∧ h = h' := by
  unfold ld; simp only [D.tup.injEq, List.cons.injEq, and_true, fr_inj]
theorem eIxT0 : gIx (tr a b c) (.int 0) P = P (fr a) := funext fun n => propext ⟨fun ⟨d, e, h⟩ => by rw [at0] at e; cases e; exact h, fun h => ⟨_, at0, h⟩⟩
theorem eIxT1 : gIx (tr a b c) (.int 1) P = P (fr b) := funext fun n => propext ⟨fun ⟨d, e, h⟩ => by rw [at1] at e; cases e; exact h, fun h => ⟨_, at1, h⟩⟩
theorem eIxT2 : gIx (tr a b c) (.int 2) P = P (fr c) := funext fun n => propext ⟨fun ⟨d, e, h⟩ => by rw [at2] at e; cases e; exact h, fun h => ⟨_, at2, h⟩⟩
theorem eRAtr : gReprA (tr a b c) P = gRepr (tr a b c) P := rfl
theorem eIxK0 {x y z : Rat} : gIx (kd x y z) (.int 0) P = P (.int (k3 x y z).1) := funext fun n => propext ⟨fun ⟨d, e, h⟩ => by rw [at0] at e; cases e; exact h, fun h => ⟨_, at0, h⟩⟩
theorem eIxK1 {x y z : Rat} : gIx (kd x y z) (.int 1) P = P (.int (k3 x y z).2.1) := funext fun n => propext ⟨fun ⟨d, e, h⟩ => by rw [at1] at e; cases e; exact h, fun h => ⟨_, at1, h⟩⟩
theorem eIxK2 {x y z : Rat} : gIx (kd x y z) (.int 2) P = P (.int (k3 x y z).2.2) := funext fun n => propext ⟨fun ⟨d, e, h⟩ => by rw [at2] at e; cases e; exact h, fun h => ⟨_, at2, h⟩⟩
end
def sDet : Spec := g1 fun d P n => ∃ e f g h, d = ld e f g h ∧ (Sz 400 e ∧ Sz 400 f ∧ Sz 400 g ∧ Sz 400 h) ∧ P (fr (e * h - f * g)) n
def sIsLead : Spec := g1 fun d P n => ∃ e f g h, d = ld e f g h ∧ (Sz 400 e ∧ Sz 400 f ∧ Sz 400 g ∧ Sz 400 h) ∧ P (.bl (!decide (e * h - f * g = 0))) n
def sChkLead : Spec := g1 fun d P n => ∃ e f g h, d = ld e f g h ∧ (Sz 400 e ∧ Sz 400 f ∧ Sz 400 g ∧ Sz 400 h) ∧ e * h - f * g ≠ 0 ∧ P .non n
def sChkStep : Spec := g1 fun d P n => ∃ q, d = fr q ∧ (Sz 400 q ∧ q ≠ 0) ∧ P .non n
def sOpp : Spec := g1 fun d P n => ∃ q, d = fr q ∧ P (fr (-q)) n
/-- rows of two, three numbers; sizes for the products -/
def sPaired : Spec := g3 fun d e' f' P n => ∃ e f g h a b c, (d = .tup [fr e, fr f] ∧ e' = .tup [fr g, fr h] ∧ f' = tr a b c) ∧ (Sz2 34 22 e ∧ Sz2 34 22 f ∧ Sz2 34 22 g ∧ Sz2 34 22 h) ∧ (Sz2 420 420 a ∧ Sz2 420 420 b ∧ Sz2 420 420 c) ∧ P (fr (lB a b c e f g h)) n
def sLedN : Spec := g2 fun d e' P n => ∃ a b c e f g h, (d = tr a b c ∧ e' = ld e f g h) ∧ (Sz2 34 22 e ∧ Sz2 34 22 f ∧ Sz2 34 22 g ∧ Sz2 34 22 h) ∧ (Sz2 420 420 a ∧ Sz2 420 420 b ∧ Sz2 420 420 c) ∧ P (tr (lA a b c e f) (lB a b c e f g h) (lA a b c g h)) n
def sLed : Spec := g2 fun d e' P n => ∃ x y z e f g h, (d = kd x y z ∧ e' = ld e f g h) ∧ (Sz2 34 22 e ∧ Sz2 34 22 f ∧ Sz2 34 22 g ∧ Sz2 34 22 h) ∧ (Sz 60 x ∧ Sz 60 y ∧ Sz 60 z) ∧ 0 < y * y - x * z ∧ e * h - f * g ≠ 0 ∧ P (kd (lA x y z e f) (lB x y z e f g h) (lA x y z g h)) n
def sGapLed : Spec := g2 fun d e' P n => ∃ a b c e f g h, (d = tr a b c ∧ e' = ld e f g h) ∧ (Sz2 34 22 e ∧ Sz2 34 22 f ∧ Sz2 34 22 g ∧ Sz2 34 22 h) ∧ (Sz2 420 420 a ∧ Sz2 420 420 b ∧ Sz2 420 420 c) ∧ (0 ≤ a ∧ 0 ≤ c ∧ a + c ≠ 0 ∧ b * b ≤ a * c) ∧ e * h - f * g ≠ 0 ∧ P (tr (lA a b c e f) (lB a b c e f g h) (lA a b c g h)) n
def sStepL (F : Rat → D) : Spec := g1 fun d P n => ∃ q, d = fr q ∧ (Sz 400 q ∧ q ≠ 0) ∧ P (F q) n
/-! ### rows -/
theorem rw_inj : ∀ {qs rs : List Rat}, rwD qs = rwD rs ↔ qs = rs := fun {qs rs} => by
  constructor
  · intro h
    unfold rwD at h
    have h : qs.map fr = rs.map fr := by simpa using h
    exact List.map_inj_right (fun a b e => fr_inj.mp e) |>.mp h
  · rintro rfl; rfl
theorem rw_get {qs : List Rat} {i : Nat} {d : D} (h : (qs.map fr)[i]? = some d) : ∃ q, qs[i]? = some q ∧ d = fr q := by
  rw [List.getElem?_map] at h
  cases e : qs[i]? with
  | none => rw [e] at h; cases h
  | some q => rw [e] at h; cases h; exact ⟨q, rfl, rfl⟩
def sChkRow : Spec := g2 fun d e P n => ∃ (qs : List Rat) (ns : List Int), (d = rwD qs ∧ e = .tup (ns.map .int)) ∧ qs.length ≤ 20 ∧ (qs.length : Int) ∈ ns ∧ (∀ q ∈ qs, Sz 1000 q) ∧ P .non n
def sRowMinus : Spec := g2 fun d e P n => ∃ qs rs, (d = rwD qs ∧ e = rwD rs) ∧ (qs.length ≤ 20 ∧ qs.length = rs.length) ∧ (∀ q ∈ qs, Sz 1000 q) ∧ (∀ q ∈ rs, Sz 1000 q) ∧ P (rwD (comb 1 (-1) qs rs)) n
def sDot : Spec := g2 fun d e P n => ∃ (qs rs : List Rat) (a b : Nat), (d = rwD qs ∧ e = rwD rs) ∧ (a ≤ 300 ∧ b ≤ 300) ∧ (qs.length ≤ 4 ∧ qs.length = rs.length) ∧ (Rz a b qs ∧ Rz a b rs) ∧ P (fr (dotr qs rs)) n
def gp (x u y v : List Rat) : D := tr (dotr (comb 1 (-1) x y) (comb 1 (-1) x y)) (dotr (comb 1 (-1) x y) (comb 1 (-1) u v)) (dotr (comb 1 (-1) u v) (comb 1 (-1) u v))
def g4s (P0 : List Rat → List Rat → List Rat → List Rat → Prop) : Spec := g4 fun d1 d2 d3 d4 P n => ∃ (x u y v : List Rat) (a b : Nat), (d1 = rwD x ∧ d2 = rwD u ∧ d3 = rwD y ∧ d4 = rwD v) ∧ (a ≤ 149 ∧ b ≤ 110) ∧ (0 < x.length ∧ x.length ≤ 4 ∧ u.length = x.length ∧ y.length = x.length ∧ v.length = x.length) ∧ (Rz a b x ∧ Rz a b u ∧ Rz a b y ∧ Rz a b v) ∧ P0 x u y v ∧ P (gp x u y v) n
def sGapOf : Spec := g4s fun x u y v => ¬ (x = y ∧ u = v)
def sGapBtw : Spec := g4s fun _ _ _ _ => True
def sJoined : Spec := g3 fun d e f P n => ∃ (x : List Rat) (q : Rat) (y : List Rat), (d = rwD x ∧ (e = fr q ∨ e = .tup [.int q.num, .int q.den])  ∧ f = rwD y) ∧ (x.length ≤ 20 ∧ x.length = y.length) ∧ (∀ r ∈ x, Sz 900 r) ∧ (∀ r ∈ y, Sz 900 r) ∧ Sz 900 q ∧ P (rwD (comb 1 q x y)) n
/-! lists of what is told -/
theorem eSeqK {x y z : Rat} {W : List D → Cr} : gSeq (kd x y z) W = W [.int (k3 x y z).1, .int (k3 x y z).2.1, .int (k3 x y z).2.2] := rfl
theorem fr_int (n : Int) : D.tup [.int n, .int 1] = fr (n : Rat) := rfl
theorem kdled {x y z e f g h : Rat} (hk : 0 < y * y - x * z) (hd : e * h - f * g ≠ 0) : ∃ k : Rat, 0 < k ∧ (((k3 x y z).1 : Int) : Rat) = k * x ∧ (((k3 x y z).2.1 : Int) : Rat) = k * y ∧ (((k3 x y z).2.2 : Int) : Rat) = k * z ∧ 0 < lB (k3 x y z).1 (k3 x y z).2.1 (k3 x y z).2.2 e f g h * lB (k3 x y z).1 (k3 x y z).2.1 (k3 x y z).2.2 e f g h - lA (k3 x y z).1 (k3 x y z).2.1 (k3 x y z).2.2 e f * lA (k3 x y z).1 (k3 x y z).2.1 (k3 x y z).2.2 g h ∧ kd (lA (k3 x y z).1 (k3 x y z).2.1 (k3 x y z).2.2 e f) (lB (k3 x y z).1 (k3 x y z).2.1 (k3 x y z).2.2 e f g h) (lA (k3 x y z).1 (k3 x y z).2.1 (k3 x y z).2.2 g h) = kd (lA x y z e f) (lB x y z e f g h) (lA x y z g h) := by
  obtain ⟨k, k0, e1, e2, e3, _⟩ := k3_props (disc_nz hk)
  have hd2 : 0 < (e * h - f * g) * (e * h - f * g) := by
    have := sq_nnq (e * h - f * g)
    have : (e * h - f * g) * (e * h - f * g) ≠ 0 := fun h => by rcases Rat.mul_eq_zero.mp h with h | h <;> exact hd h
    grind
  have hq : 0 < lB x y z e f g h * lB x y z e f g h - lA x y z e f * lA x y z g h := by
    rw [ld_disc]; exact Rat.mul_pos hd2 hk
  refine ⟨k, k0, e1, e2, e3, ?_, ?_⟩
  · rw [ld_disc, e1, e2, e3]
    have : k * y * (k * y) - k * x * (k * z) = k * k * (y * y - x * z) := by grind
    rw [this]
    exact Rat.mul_pos hd2 (Rat.mul_pos (Rat.mul_pos k0 k0) hk)
  · rw [e1, e2, e3]
    exact kd_eq k0 (disc_nz hq) (by unfold lA; grind) (by unfold lB; grind) (by unfold lA; grind)
theorem int2sz {n : Int} {k : Nat} (h : Bt k n) : SzP (n : Rat) k 1 := ⟨Sz2.int h⟩
theorem fracs2 {e f : Rat} : fracsB (.tup [fr e, fr f]) 2 = true := by
  show (decide ((2 : Int) = 2) && (fracB (fr e) && (fracB (fr f) && true))) = true
  rw [fracB_fr, fracB_fr]; rfl
theorem zip_fr : ∀ {qs rs : List Rat}, zipD (qs.map fr) (rs.map fr) = (qs.zip rs).map fun p => D.tup [fr p.1, fr p.2]
  | [], _ => rfl
  | _ :: _, [] => rfl
  | q :: qs, r :: rs => by
    have := zip_fr (qs := qs) (rs := rs)
    unfold zipD at this ⊢
    rw [List.map_cons, List.map_cons, List.zip_cons_cons, List.zip_cons_cons, List.map_cons, List.map_cons, this]
theorem comb_map {a b : Rat} : ∀ {qs rs : List Rat}, (comb a b qs rs).map fr = (qs.zip rs).map fun p => fr (a * p.1 + b * p.2)
  | [], _ => rfl
  | _ :: _, [] => rfl
  | q :: qs, r :: rs => by
    have := comb_map (a := a) (b := b) (qs := qs) (rs := rs)
    unfold comb at this ⊢
    rw [List.zipWith_cons_cons, List.map_cons, List.zip_cons_cons, List.map_cons, this]
theorem zip_mem {qs rs : List Rat} {p : Rat × Rat} (h : p ∈ qs.zip rs) : p.1 ∈ qs ∧ p.2 ∈ rs := ⟨(List.of_mem_zip h).1, (List.of_mem_zip h).2⟩
theorem dot_snoc : ∀ {qs rs : List Rat} {i : Nat} {q r : Rat}, qs[i]? = some q → rs[i]? = some r → dotr (qs.take (i + 1)) (rs.take (i + 1)) = dotr (qs.take i) (rs.take i) + q * r
  | [], _, _, _, _, h, _ => by simp at h
  | _ :: _, [], _, _, _, _, h => by simp at h
  | q :: qs, r :: rs, 0, _, _, h, k => by
    simp at h k
    subst h; subst k
    simp [dotr]; grind
  | q :: qs, r :: rs, i + 1, _, _, h, k => by
    have := dot_snoc (qs := qs) (rs := rs) (i := i) (by simpa using h) (by simpa using k)
    rw [List.take_succ_cons, List.take_succ_cons, List.take_succ_cons, List.take_succ_cons, dotr, dotr, this]
    grind
theorem dot_part {qs rs : List Rat} {a b i : Nat} (la : a ≤ 300) (lb : b ≤ 300) (hl : qs.length ≤ 4) (hl2 : qs.length = rs.length) (h1 : Rz a b qs) (h2 : Rz a b rs) : Sz 3000 (dotr (qs.take i) (rs.take i)) := by
  by_cases h0 : qs.take i = []
  · rw [h0]
    unfold dotr
    exact szc (by decide)
  · have hp : 0 < (qs.take i).length := List.length_pos_iff.mpr h0
    have hle : (qs.take i).length ≤ 4 := by rw [List.length_take]; omega
    have := dot_sz (p := qs.take i) (q := rs.take i) (fun q hq => h1 q (List.mem_of_mem_take hq)) (fun q hq => h2 q (List.mem_of_mem_take hq)) (by rw [List.length_take, List.length_take]; omega) hp
    have m1 : 2 * b * ((qs.take i).length - 1) ≤ 2 * b * 3 := Nat.mul_le_mul_left _ (by omega)
    have m2 : 2 * b * (qs.take i).length ≤ 2 * b * 4 := Nat.mul_le_mul_left _ hle
    exact this.sz (by omega)
theorem inD_int {n : Int} : ∀ {ns : List Int}, n ∈ ns → inD (.int n) (ns.map .int) = true ∧ (ns.map D.int).all flatD = true
  | m :: ns, h => by
    have hf : ∀ ns : List Int, (ns.map D.int).all flatD = true := fun ns => by
      induction ns with
      | nil => rfl
      | cons a ns ih => rw [List.map_cons, List.all_cons, ih]; rfl
    refine ⟨?_, hf _⟩
    unfold inD
    rw [List.map_cons, List.any_cons]
    rcases List.mem_cons.mp h with rfl | h
    · simp [eqD]
    · have := (inD_int h).1
      unfold inD at this
      rw [this, Bool.or_true]
def sRowD : Spec := fun ds P n => ∃ k : Int, ds = [.well, .int k] ∧ 0 < k ∧ k ≤ 3 ∧ n < 990000000 ∧ ∀ (qs : List Rat) (n' : Nat), (qs.length : Int) = k → Rz 22 10 qs → n' ≤ n + 12 → P (rwD qs) n'
def sTurned : Spec := g3 fun d e f P n => ∃ p t q r, (d = fr p ∧ e = fr t ∧ f = rwD [q, r]) ∧ (Sz2 22 10 p ∧ Sz2 22 10 t ∧ Sz2 24 11 q ∧ Sz2 24 11 r) ∧ P (rwD [p * q + -t * r, t * q + p * r]) n
def sLeads : Spec := g1 fun d P n => ∃ q, d = fr q ∧ Sz2 22 10 q ∧ P (.lst [ld 0 1 1 0, ld 1 0 1 (-q), ld 1 q 1 0, ld 1 q 1 (-q), ld 1 0 (1 - q) q]) n
def sPairsLed : Spec := g3 fun d e f P n => ∃ q x u, (d = fr q ∧ e = rwD x ∧ f = rwD u) ∧ Sz2 22 10 q ∧ (x.length ≤ 20 ∧ u.length = x.length) ∧ (Rz 70 45 x ∧ Rz 70 45 u) ∧ P (.lst [.tup [rwD u, rwD x], .tup [rwD x, rwD (comb 1 (-q) x u)], .tup [rwD (comb 1 q x u), rwD x], .tup [rwD (comb 1 q x u), rwD (comb 1 (-q) x u)], .tup [rwD x, rwD (comb (1 - q) q x u)]]) n
theorem comb_mean {q : Rat} : ∀ {x u : List Rat}, x.length = u.length → comb 1 q (comb 1 (-q) x x) u = comb (1 - q) q x u
  | [], [], _ => rfl
  | x :: xs, u :: us, h => by
    have ih := comb_mean (q := q) (x := xs) (u := us) (by simpa using h)
    unfold comb at ih ⊢
    rw [List.zipWith_cons_cons, List.zipWith_cons_cons, List.zipWith_cons_cons, ih]
    congr 1
    grind
  | [], _ :: _, h => by cases h
  | _ :: _, [], h => by cases h
/-- the gap of led pairs is the led gap -/
theorem gp_led {x u y v : List Rat} {e f g h : Rat} (h1 : u.length = x.length) (h2 : y.length = x.length) (h3 : v.length = x.length) :
    gp (comb e f x u) (comb g h x u) (comb e f y v) (comb g h y v) = tr (lA (dotr (comb 1 (-1) x y) (comb 1 (-1) x y)) (dotr (comb 1 (-1) x y) (comb 1 (-1) u v)) (dotr (comb 1 (-1) u v) (comb 1 (-1) u v)) e f) (lB (dotr (comb 1 (-1) x y) (comb 1 (-1) x y)) (dotr (comb 1 (-1) x y) (comb 1 (-1) u v)) (dotr (comb 1 (-1) u v) (comb 1 (-1) u v)) e f g h) (lA (dotr (comb 1 (-1) x y) (comb 1 (-1) x y)) (dotr (comb 1 (-1) x y) (comb 1 (-1) u v)) (dotr (comb 1 (-1) u v) (comb 1 (-1) u v)) g h) := by
  have l1 : (comb 1 (-1) x y).length = (comb 1 (-1) u v).length := by rw [comb_len (by omega), comb_len (by omega)]; omega
  unfold gp lA lB
  rw [comb_comb (by omega) (by omega) (by omega), comb_comb (by omega) (by omega) (by omega), dot_comb _ _ _ _ _ _ l1, dot_comb _ _ _ _ _ _ l1, dot_comb _ _ _ _ _ _ l1]
theorem comb_nil {x y : List Rat} (h : x.length = y.length) (h0 : ∀ r ∈ comb 1 (-1) x y, r = 0) : x = y := by
  unfold comb at h0
  refine List.ext_getElem h fun i h1 h2 => ?_
  have h3 : i < (List.zipWith (fun s t => (1 : Rat) * s + -1 * t) x y).length := by rw [List.length_zipWith]; omega
  have := h0 _ (List.getElem_mem h3)
  rw [List.getElem_zipWith] at this
  grind
theorem gp_ok {x u y v : List Rat} (h1 : u.length = x.length) (h2 : y.length = x.length) (h3 : v.length = x.length) (hne : ¬ (x = y ∧ u = v)) :
    (0 ≤ dotr (comb 1 (-1) x y) (comb 1 (-1) x y) ∧ 0 ≤ dotr (comb 1 (-1) u v) (comb 1 (-1) u v)) ∧ dotr (comb 1 (-1) x y) (comb 1 (-1) x y) + dotr (comb 1 (-1) u v) (comb 1 (-1) u v) ≠ 0 ∧ dotr (comb 1 (-1) x y) (comb 1 (-1) u v) * dotr (comb 1 (-1) x y) (comb 1 (-1) u v) ≤ dotr (comb 1 (-1) x y) (comb 1 (-1) x y) * dotr (comb 1 (-1) u v) (comb 1 (-1) u v) := by
  have a0 := dot_nn (comb 1 (-1) x y)
  have c0 := dot_nn (comb 1 (-1) u v)
  refine ⟨⟨a0, c0⟩, fun e => hne ⟨comb_nil (by omega) (dot_zero _ (by grind)), comb_nil (by omega) (dot_zero _ (by grind))⟩, dot_cs (by rw [comb_len (by omega), comb_len (by omega)]; omega)⟩
/-- pairs led are unlike where the lead is one -/
theorem led_ne {x u y v : List Rat} {e f g h : Rat} (hd : e * h - f * g ≠ 0) (h1 : u.length = x.length) (h2 : y.length = x.length) (h3 : v.length = x.length) (hne : ¬ (x = y ∧ u = v)) : ¬ (comb e f x u = comb e f y v ∧ comb g h x u = comb g h y v) := by
  rintro ⟨e1, e2⟩
  refine hne ⟨List.ext_getElem (by omega) fun i i1 i2 => ?_, List.ext_getElem (by omega) fun i i1 i2 => ?_⟩
  all_goals
    have q1 : x[i]? = some (x[i]'(by omega)) := List.getElem?_eq_getElem _
    have k1 : (comb e f x u)[i]'(by rw [comb_len (by omega)]; omega) = (comb e f y v)[i]'(by rw [comb_len (by omega)]; omega) := by simp only [e1]
    have k2 : (comb g h x u)[i]'(by rw [comb_len (by omega)]; omega) = (comb g h y v)[i]'(by rw [comb_len (by omega)]; omega) := by simp only [e2]
    unfold comb at k1 k2
    rw [List.getElem_zipWith, List.getElem_zipWith] at k1 k2
    have m1 : (e * h - f * g) * (x[i]'(by omega) - y[i]'(by omega)) = 0 := by grind
    have m2 : (e * h - f * g) * (u[i]'(by omega) - v[i]'(by omega)) = 0 := by grind
    rcases Rat.mul_eq_zero.mp m1 with m1 | m1
    · exact absurd m1 hd
    rcases Rat.mul_eq_zero.mp m2 with m2 | m2
    · exact absurd m2 hd
    grind
theorem gp_sz {x u y v : List Rat} {a b k n : Nat} (hx : Rz a b x) (hu : Rz a b u) (hy : Rz a b y) (hv : Rz a b v) (h0 : 0 < x.length) (h1 : u.length = x.length) (h2 : y.length = x.length) (h3 : v.length = x.length) (hk : x.length ≤ k) (hn : 2 * (a + 3 + b) + 2 * ((2 * b + 2) * (k - 1)) + k ≤ n) (hm : 2 * ((2 * b + 2) * k) ≤ n) :
    Sz n (dotr (comb 1 (-1) x y) (comb 1 (-1) x y)) ∧ Sz n (dotr (comb 1 (-1) x y) (comb 1 (-1) u v)) ∧ Sz n (dotr (comb 1 (-1) u v) (comb 1 (-1) u v)) := by
  have z1 : Rz (a + 3 + b) (2 * b + 2) (comb 1 (-1) x y) := (comb_sz hx hy).mono (by omega) (by omega)
  have z2 : Rz (a + 3 + b) (2 * b + 2) (comb 1 (-1) u v) := (comb_sz hu hv).mono (by omega) (by omega)
  have n1 : (comb 1 (-1) x y).length = x.length := comb_len (by omega)
  have n2 : (comb 1 (-1) u v).length = x.length := by rw [comb_len (by omega)]; omega
  have m1 : (2 * b + 2) * (x.length - 1) ≤ (2 * b + 2) * (k - 1) := Nat.mul_le_mul_left _ (by omega)
  have m2 : (2 * b + 2) * x.length ≤ (2 * b + 2) * k := Nat.mul_le_mul_left _ hk
  have fin : ∀ {p q : List Rat}, Rz (a + 3 + b) (2 * b + 2) p → Rz (a + 3 + b) (2 * b + 2) q → p.length = x.length → q.length = x.length → Sz n (dotr p q) := by
    intro p q hp hq lp lq
    have := dot_sz hp hq (by omega) (by omega)
    rw [lp, Nat.mul_assoc, Nat.mul_assoc] at this
    exact this.sz (by omega)
  exact ⟨fin z1 z1 n1 n1, fin z1 z2 n1 n2, fin z2 z2 n2 n2⟩
theorem g4_mk {h : D → D → D → D → (D → Cr) → Cr} {a b c d : D} {P : D → Cr} {n : Nat} (q : h a b c d P n) : g4 h [a, b, c, d] P n := q
theorem g2_mk {h : D → D → (D → Cr) → Cr} {a b : D} {P : D → Cr} {n : Nat} (q : h a b P n) : g2 h [a, b] P n := q
theorem g3_mk {h : D → D → D → (D → Cr) → Cr} {a b c : D} {P : D → Cr} {n : Nat} (q : h a b c P n) : g3 h [a, b, c] P n := q
theorem g4s_do {P0 : List Rat → List Rat → List Rat → List Rat → Prop} {x u y v : List Rat} {a b : Nat} (la : a ≤ 149) (lb : b ≤ 110) (l0 : 0 < x.length ∧ x.length ≤ 4) (l1 : u.length = x.length) (l2 : y.length = x.length) (l3 : v.length = x.length) (hx : Rz a b x) (hu : Rz a b u) (hy : Rz a b y) (hv : Rz a b v) (h0 : P0 x u y v) {P : D → Cr} {n : Nat} (h : P (gp x u y v) n) : g4s P0 [rwD x, rwD u, rwD y, rwD v] P n :=
  g4_mk ⟨x, u, y, v, a, b, ⟨rfl, rfl, rfl, rfl⟩, ⟨la, lb⟩, ⟨l0.1, l0.2, l1, l2, l3⟩, ⟨hx, hu, hy, hv⟩, h0, h⟩
def sForm2 : Spec := g2 fun d e P => g3I d fun A B C => g3I e fun a b c n => ((Bt 3000 A ∧ Bt 3000 B ∧ Bt 3000 C) ∧ Bt 6000 a ∧ Bt 6000 b ∧ Bt 6000 c) ∧ P (.int (A * c - 2 * B * b + C * a)) n
def sHolds2 : Spec := g2 fun d e P n => ∃ x y z a b c, (d = kd x y z ∧ e = tr a b c) ∧ (Sz 200 x ∧ Sz 200 y ∧ Sz 200 z ∧ Sz 1000 a ∧ Sz 1000 b ∧ Sz 1000 c) ∧ (0 < y * y - x * z ∧ 0 ≤ a ∧ 0 ≤ c ∧ a + c ≠ 0 ∧ b * b ≤ a * c) ∧ P (.bl (decide (x * c - 2 * y * b + z * a ≤ 0))) n
def prOk (x u y v : List Rat) : Prop := (0 < x.length ∧ u.length = x.length ∧ y.length = x.length ∧ v.length = x.length) ∧ (∃ a b k, (a ≤ 69 ∧ b ≤ 42) ∧ x.length ≤ k ∧ k ≤ 3 ∧ 2 * (a + b + 36 + 3 + (2 * b + 22)) + 2 * ((2 * (2 * b + 22) + 2) * (k - 1)) + k ≤ 1000 ∧ 2 * ((2 * (2 * b + 22) + 2) * k) ≤ 1000 ∧ (2 * (a + 3 + b) + 2 * ((2 * b + 2) * (k - 1)) + k ≤ 420 ∧ 2 * ((2 * b + 2) * k) ≤ 420) ∧ (Rz a b x ∧ Rz a b u ∧ Rz a b y ∧ Rz a b v)) ∧ ¬ (x = y ∧ u = v)
def sPairsRight : Spec := g3 fun d e f P n => ∃ A B C q x u y v, (d = .tup [.int A, .int B, .int C] ∧ e = fr q ∧ f = .tup [.tup [rwD x, rwD u], .tup [rwD y, rwD v]]) ∧ (Sz2 22 10 q ∧ q ≠ 0) ∧ (Bt 31 A ∧ Bt 31 B ∧ Bt 31 C ∧ gcd3 A B C = 1 ∧ 0 < B * B - A * C) ∧ prOk x u y v ∧ P (.bl true) n
theorem form_led {x y z a b c e f g h : Rat} : lA x y z e f * lA a b c g h - 2 * lB x y z e f g h * lB a b c e f g h + lA x y z g h * lA a b c e f = (e * h - f * g) * (e * h - f * g) * (x * c - 2 * y * b + z * a) := by unfold lA lB; grind
theorem form_led_iff {x y z a b c e f g h : Rat} (hd : e * h - f * g ≠ 0) : (lA x y z e f * lA a b c g h - 2 * lB x y z e f g h * lB a b c e f g h + lA x y z g h * lA a b c e f ≤ 0) ↔ x * c - 2 * y * b + z * a ≤ 0 := by
  have p : 0 < (e * h - f * g) * (e * h - f * g) := by
    have := sq_nnq (e * h - f * g)
    have : (e * h - f * g) * (e * h - f * g) ≠ 0 := fun h => by rcases Rat.mul_eq_zero.mp h with h | h <;> exact hd h
    grind
  rw [form_led]
  constructor
  · intro hh
    refine Rat.le_of_mul_le_mul_left (c := (e * h - f * g) * (e * h - f * g)) ?_ p
    grind
  · intro hh
    have := Rat.mul_nonneg (Rat.le_of_lt p) (show 0 ≤ -(x * c - 2 * y * b + z * a) by grind)
    grind
theorem eRAld {e f g h : Rat} {P : D → Cr} : gReprA (ld e f g h) P = gRepr (ld e f g h) P := rfl
theorem eIxL {ls : List D} {i : Nat} {P : D → Cr} {d : D} (h : atI ls (0 + (i : Int)) = some d) : gIx (.lst ls) (.int (0 + (i : Int))) P = P d := funext fun n => propext ⟨fun ⟨d', e, q⟩ => by rw [h] at e; cases e; exact q, fun q => ⟨_, h, q⟩⟩
def sNames8 : Spec := g2 fun d e P n => ∃ t s, (d = fr t ∧ e = fr s) ∧ (Sz2 22 10 t ∧ Sz2 22 10 s) ∧ (0 < t ∧ 0 < s) ∧ P (.bl true) n
theorem int3_eqv (a b c : Int) : PyData.eqv (D.tup [.int a, .int b, .int c]).py (D.tup [.int a, .int b, .int c]).py = true := by
  show PyData.eqv (.tuple [.int a, .int b, .int c]) (.tuple [.int a, .int b, .int c]) = true
  simp [PyData.eqv, PyData.eqvAll]
theorem eNeS {a b c : Int} {P : D → Cr} : gNe (.tup [.int a, .int b, .int c]) (.tup [.int a, .int b, .int c]) P = P (.bl false) := funext fun n => propext ⟨fun h => by have := h.2; rw [int3_eqv] at this; exact this, fun h => ⟨⟨rfl, rfl⟩, by rw [int3_eqv]; exact h⟩⟩
theorem kd_back {s : Rat} (s0 : 0 < s) : kd (-(s * s)) 0 1 = .tup [.int (0 - (s * s).num), .int 0, .int (((s * s).den : Nat) : Int)] := by
  have g : gcd3 (0 - (s * s).num) 0 (((s * s).den : Nat) : Int) = 1 := by
    have := (s * s).reduced
    unfold gcd3
    rw [Int.zero_sub, Int.natAbs_neg]
    first | simpa [Nat.Coprime] using this | (simp; exact this)
  rw [← kd_int g]
  have dp := den_pos (s * s)
  have e := q_eq (s * s)
  refine (kd_eq (k := ((((s * s).den : Nat) : Int) : Rat)) ?_ ?_ ?_ ?_ ?_).symm
  · exact dp
  · rintro ⟨_, _, h⟩; exact absurd h (by decide)
  · rw [Rat.intCast_sub]; grind
  · grind
  · grind
theorem eIxR0 {q : Rat} {qs : List Rat} {P : D → Cr} : gIx (rwD (q :: qs)) (.int 0) P = P (fr q) := by
  unfold rwD
  rw [List.map_cons]
  exact funext fun n => propext ⟨fun ⟨d, e, h⟩ => by rw [at0] at e; cases e; exact h, fun h => ⟨_, at0, h⟩⟩
theorem sIx1 (n : Nat) : HT.sIx (n + 1) 0 (some 1) = 1 := by
  unfold HT.sIx
  first | (simp; done) | (simp; omega) | omega
theorem eSlR {q : Rat} {qs : List Rat} {P : D → Cr} : gSl (rwD (q :: qs)) (some 1) none P = P (rwD qs) := by
  unfold rwD
  rw [eSl1, List.map_cons]
  congr 2
  unfold cutD
  rw [List.length_cons, sIx1, show HT.sIx ((qs.map fr).length + 1) ((qs.map fr).length + 1) none = (qs.map fr).length + 1 from rfl, List.drop_succ_cons, List.drop_zero, Nat.add_sub_cancel]
  exact List.take_of_length_le (Nat.le_refl _)
theorem eAddR {q : Rat} {qs : List Rat} {P : D → Cr} : gAdd (.tup [fr q]) (rwD qs) P = fun n => qs.length ≤ 99999 ∧ P (rwD (q :: qs)) n := by
  unfold rwD
  rw [eAdd2]
  refine funext fun n => propext ⟨fun h => ⟨by have := h.1; simp at this; omega, h.2⟩, fun h => ⟨by have := h.1; simp; omega, h.2⟩⟩
theorem eIxR1 {q r : Rat} {qs : List Rat} {P : D → Cr} : gIx (rwD (q :: r :: qs)) (.int 1) P = P (fr r) := by
  unfold rwD
  rw [List.map_cons, List.map_cons]
  exact funext fun n => propext ⟨fun ⟨d, e, h⟩ => by rw [at1] at e; cases e; exact h, fun h => ⟨_, at1, h⟩⟩
theorem rw2_eta {q r : Rat} : D.tup [fr q, fr r] = rwD [q, r] := rfl


end DJ

set_option Elab.async false
set_option linter.all false
set_option maxRecDepth 100000
set_option maxHeartbeats 1000000
namespace GX
open PySem
open PySem.Sem (wp)
open RZ
abbrev ZK (h : Heap) (z TI TO : Addr) (f0 f1 : Value) : Prop := h.get? z = some { cls := .type "zip", dict := none, data := .fields #[f0, f1, .bool false, .ref TI, .ref TO], slots := #[] }
def F0 (f0 : Value) : Prop := f0 = .none ∨ ∃ a : Addr, f0 = rawInt a
section
variable {prog : Program} {w : World} {A : Around} {E : Value → Shared → Prop} {s : Shared}
theorem ownFree {z TI TO : Addr} {f0 f1 : Value} {Q : Bool → Shared → Prop} (hz : ZK s.heap z TI TO f0 f1) (h0 : F0 f0) (hf : Q true s)
    (hk : ∀ h' f1', ZK h' z TI TO f0 f1' → Heap.SameBut z s.heap h' → Q false { s with heap := h' }) : wpAny (model prog w) A (Builtin.SmallTypes.ownedTupleIsFree (.ref z)) Q E s := by
  unfold Builtin.SmallTypes.ownedTupleIsFree
  rcases h0 with rfl | ⟨a, rfl⟩
  · exact wpAny_bind (wpAny_field hz rfl (x := .none) rfl (wpAny_pure hf))
  · refine wpAny_bind (wpAny_field hz rfl (x := rawInt a) rfl ?_)
    show wpAny _ _ (loadIfAlive _ >>= _) _ _ _
    refine wpAny_bind ?_
    have al : ∀ {x : Addr} {Q : Option Obj → Shared → Prop}, Q (s.heap.get? x) s → wpAny (model prog w) A (loadIfAlive x) Q E s := fun h _ _ _ => h
    refine al ?_
    cases e : s.heap.get? ((a : Int).toNat) with
    | none =>
      simp only [Option.isNone_none, if_true]
      exact wpAny_pure hf
    | some o =>
      simp only [Option.isNone_some, Bool.false_eq_true, if_false]
      refine wpAny_bind (wpAny_field hz rfl (x := f1) rfl ?_)
      split
      · refine wpAny_bind (wpAny_setField_rec hz (by simp) fun h' hz' hs' => ?_)
        exact wpAny_pure (hk h' _ hz' hs')
      · exact wpAny_pure (hk s.heap f1 hz (Heap.SameBut.refl ..))

theorem zipK_next_item {z TI TO i1 i2 l1 l2 : Addr} {k1 k2 : Nat} {xs ys : Array Value} {x y a b f0 f1 : Value} {Q : Value → Shared → Prop} (D : ZipApart z TI TO i1 i2 l1 l2)
    (hz : ZK s.heap z TI TO f0 f1) (h0 : F0 f0) (hTI : IsPair s.heap TI (.ref i1) (.ref i2)) (hTO : IsPair s.heap TO a b)
    (h1 : s.heap.IsTupleIter i1 l1 k1) (h2 : s.heap.IsTupleIter i2 l2 k2) (hl1 : s.heap.IsTuple l1 xs) (hl2 : s.heap.IsTuple l2 ys) (hx : xs[k1]? = some x) (hy : ys[k2]? = some y)
    (hQ : ∀ h' f0' f1' a' b', ZK h' z TI TO f0' f1' → F0 f0' → IsPair h' TO a' b' → h'.IsTupleIter i1 l1 (k1 + 1) → h'.IsTupleIter i2 l2 (k2 + 1) → IsPair h' s.heap.objs.size x y → h'.objs.size = s.heap.objs.size + 1 →
      (∀ c o, c ≠ z → c ≠ TO → c ≠ i1 → c ≠ i2 → s.heap.get? c = some o → h'.get? c = some o) → Q (.ref s.heap.objs.size) { s with heap := h' }) :
    wpAny (model prog w) A (Builtin.«zip.__next__» ⟨[.ref z], []⟩) (fun fin s' => ∃ v, fin = .done (.ret v) ∧ Q v s') E s := by
  show wpAny _ _ (field (.ref z) 2 >>= _) _ _ _
  refine wpAny_bind (wpAny_field hz rfl (x := .bool false) rfl ?_)
  show wpAny _ _ (field (.ref z) 3 >>= _) _ _ _
  refine wpAny_bind (wpAny_field hz rfl (x := .ref TI) rfl ?_)
  refine wpAny_bind (wpAny_seqItems hTI rfl ?_)
  show wpAny _ _ (Builtin.SmallTypes.ownedTupleIsFree (.ref z) >>= _) _ _ _
  refine wpAny_bind (ownFree hz h0 ?_ fun h₀ f1' hz₀ hs₀ => ?_)
  · simp only [if_true]
    refine wpAny_bind (wpAny_rule ?_)
    refine wpAny_bind (wpAny_field hz rfl (x := .ref TO) rfl ?_)
    refine wpAny_bind (wpAny_setField_rec hz (by simp) fun h₁ hz₁ hs₁ => ?_)
    replace hz₁ : ZK h₁ z TI TO .ellipsis f1 := hz₁
    refine wpAny_bind ?_
    simp only [List.zipIdx_cons, List.zipIdx_nil, List.forIn_cons, List.forIn_nil]
    refine wpAny_bind (wpAny_bind (wpAny_onRaise ?_))
    show wpAny _ _ (Builtin.SmallTypes.nextOf (.ref i1) >>= _) _ _ _
    refine wpAny_bind (nextOf_tuple_item (h1.extBut hs₁.extBut D.i1z) (hl1.extBut hs₁.extBut D.l1z) hx fun h₂ h1₂ hs₂ => wpAny_pure ?_)
    have hTO₂ : IsPair h₂ TO a b := hs₂.extBut _ _ D.TOi1 (hs₁.extBut _ _ D.TOz hTO)
    refine wpAny_bind (wpAny_seqItems hTO₂ rfl ?_)
    refine wpAny_bind (wpAny_updateSeq_pair hTO₂ fun h₃ hTO₃ hs₃ => ?_)
    replace hTO₃ : IsPair h₃ TO x b := hTO₃
    refine wpAny_bind (wpAny_letGo (wpAny_pure ?_))
    refine wpAny_bind (wpAny_bind (wpAny_onRaise ?_))
    show wpAny _ _ (Builtin.SmallTypes.nextOf (.ref i2) >>= _) _ _ _
    refine wpAny_bind (nextOf_tuple_item (((h2.extBut hs₁.extBut D.i2z).extBut hs₂.extBut D.i12.symm).extBut hs₃.extBut D.TOi2.symm)
      (((hl2.extBut hs₁.extBut D.l2z).extBut hs₂.extBut D.l2i1).extBut hs₃.extBut D.l2TO) hy fun h₄ h2₄ hs₄ => wpAny_pure ?_)
    have hTO₄ : IsPair h₄ TO x b := hs₄.extBut _ _ D.TOi2 hTO₃
    refine wpAny_bind (wpAny_seqItems hTO₄ rfl ?_)
    refine wpAny_bind (wpAny_updateSeq_pair hTO₄ fun h₅ hTO₅ hs₅ => ?_)
    replace hTO₅ : IsPair h₅ TO x y := hTO₅
    refine wpAny_bind (wpAny_letGo (wpAny_pure (wpAny_pure ?_)))
    refine wpAny_bind (wpAny_seqItems hTO₅ rfl ?_)
    refine wpAny_bind (wpAny_newTuple ?_)
    have hsz : h₅.objs.size = s.heap.objs.size := by rw [hs₅.1, hs₄.1, hs₃.1, hs₂.1, hs₁.1]
    have hz₅ : ZK h₅ z TI TO .ellipsis f1 := hs₅.extBut _ _ D.TOz.symm (hs₄.extBut _ _ D.i2z.symm (hs₃.extBut _ _ D.TOz.symm (hs₂.extBut _ _ D.i1z.symm hz₁)))
    have hk₅ : ∀ c o, c ≠ z → c ≠ TO → c ≠ i1 → c ≠ i2 → s.heap.get? c = some o → h₅.get? c = some o := fun c o c1 c2 c3 c4 e =>
      hs₅.extBut _ _ c2 (hs₄.extBut _ _ c4 (hs₃.extBut _ _ c2 (hs₂.extBut _ _ c3 (hs₁.extBut _ _ c1 e))))
    have h1₅ : h₅.IsTupleIter i1 l1 (k1 + 1) := ((h1₂.extBut hs₃.extBut D.TOi1.symm).extBut hs₄.extBut D.i12).extBut hs₅.extBut D.TOi1.symm
    have h2₅ : h₅.IsTupleIter i2 l2 (k2 + 1) := h2₄.extBut hs₅.extBut D.TOi2.symm
    have hzlt : z < h₅.objs.size := Heap.lt_size hz₅
    show wpAny _ _ (Builtin.SmallTypes.ownedTupleHandOut (.ref z) (.ref h₅.objs.size) >>= _) _ _ _
    refine wpAny_bind ?_
    unfold Builtin.SmallTypes.ownedTupleHandOut
    have hz₆ : ZK (h₅.push { cls := .type "tuple", data := .seq #[x, y] }) z TI TO .ellipsis f1 := Heap.get?_push_of_some _ hz₅
    refine wpAny_bind (wpAny_setField_rec hz₆ (by simp) fun h₇ hz₇ hs₇ => ?_)
    replace hz₇ : ZK h₇ z TI TO (rawInt h₅.objs.size) f1 := hz₇
    refine wpAny_setField_rec hz₇ (by simp) fun h₈ hz₈ hs₈ => ?_
    replace hz₈ : ZK h₈ z TI TO (rawInt h₅.objs.size) (.bool false) := hz₈
    have up : ∀ c o, c ≠ z → h₅.get? c = some o → h₈.get? c = some o := fun c o c1 e => hs₈.extBut _ _ c1 (hs₇.extBut _ _ c1 (Heap.get?_push_of_some _ e))
    have hT₈ : IsPair h₈ h₅.objs.size x y := hs₈.extBut _ _ (Nat.ne_of_gt hzlt) (hs₇.extBut _ _ (Nat.ne_of_gt hzlt) (Heap.get?_push_size _ rfl))
    have hz8 : h₈.objs.size = h₅.objs.size + 1 := by rw [hs₈.1, hs₇.1, Heap.size_push]
    rw [hsz] at hz₈ hT₈ hz8
    refine wpAny_pure ⟨_, rfl, ?_⟩
    show Q (.ref h₅.objs.size) _
    rw [hsz]
    exact hQ h₈ _ _ _ _ hz₈ (.inr ⟨_, rfl⟩) (up _ _ D.TOz hTO₅) (h1₅.at fun o e => up _ o D.i1z e) (h2₅.at fun o e => up _ o D.i2z e) hT₈ hz8 fun c o c1 c2 c3 c4 e => up c o c1 (hk₅ c o c1 c2 c3 c4 e)
  · simp only [Bool.false_eq_true, if_false]
    refine wpAny_bind ?_
    first
      | rw [List.forIn_toArray]
      | (rw [← Array.forIn_toList]; simp only [List.toList_toArray])
    simp only [List.forIn_cons, List.forIn_nil]
    refine wpAny_bind (wpAny_bind (wpAny_holding ?_))
    show wpAny _ _ (Builtin.SmallTypes.nextOf (.ref i1) >>= _) _ _ _
    refine wpAny_bind (nextOf_tuple_item (h1.extBut hs₀.extBut D.i1z) (hl1.extBut hs₀.extBut D.l1z) hx fun h₂ h1₂ hs₂ => wpAny_pure ?_)
    refine wpAny_pure ?_
    refine wpAny_bind (wpAny_bind (wpAny_holding ?_))
    show wpAny _ _ (Builtin.SmallTypes.nextOf (.ref i2) >>= _) _ _ _
    refine wpAny_bind (nextOf_tuple_item ((h2.extBut hs₀.extBut D.i2z).extBut hs₂.extBut D.i12.symm) ((hl2.extBut hs₀.extBut D.l2z).extBut hs₂.extBut D.l2i1) hy fun h₄ h2₄ hs₄ => wpAny_pure ?_)
    refine wpAny_pure (wpAny_pure ?_)
    refine wpAny_bind (wpAny_newTuple ?_ (by show (2 : Nat) ≤ sizeLine; decide))
    have hsz : h₄.objs.size = s.heap.objs.size := by rw [hs₄.1, hs₂.1, hs₀.1]
    have hkk : ∀ c o, c ≠ z → c ≠ TO → c ≠ i1 → c ≠ i2 → s.heap.get? c = some o → h₄.get? c = some o := fun c o c1 c2 c3 c4 e => hs₄.extBut _ _ c4 (hs₂.extBut _ _ c3 (hs₀.extBut _ _ c1 e))
    have up : ∀ c o, h₄.get? c = some o → (h₄.push { cls := .type "tuple", data := .seq #[x, y] }).get? c = some o := fun c o e => Heap.get?_push_of_some _ e
    have hT₈ : IsPair (h₄.push { cls := .type "tuple", data := .seq #[x, y] }) h₄.objs.size x y := Heap.get?_push_size _ rfl
    have hz8 : (h₄.push { cls := .type "tuple", data := .seq #[x, y] }).objs.size = s.heap.objs.size + 1 := by rw [Heap.size_push, hsz]
    refine wpAny_pure ⟨_, rfl, ?_⟩
    show Q (.ref h₄.objs.size) _
    rw [hsz] at hT₈ ⊢
    exact hQ _ f0 f1' a b (up _ _ (hs₄.extBut _ _ D.i2z.symm (hs₂.extBut _ _ D.i1z.symm hz₀))) h0 (up _ _ (hs₄.extBut _ _ D.TOi2 (hs₂.extBut _ _ D.TOi1 (hs₀.extBut _ _ D.TOz hTO)))) (((h1₂.extBut hs₄.extBut D.i12)).at fun o e => up _ o e) (h2₄.at fun o e => up _ o e) hT₈ hz8 fun c o c1 c2 c3 c4 e => up _ _ (hkk c o c1 c2 c3 c4 e)
theorem zipK_next_end {z TI TO i1 i2 l1 l2 : Addr} {k1 k2 : Nat} {xs ys : Array Value} {a b f0 f1 : Value} {Q : Fin → Shared → Prop} (hh : A.handled = none) (D : ZipApart z TI TO i1 i2 l1 l2)
    (hz : ZK s.heap z TI TO f0 f1) (h0 : F0 f0) (hTI : IsPair s.heap TI (.ref i1) (.ref i2)) (hTO : IsPair s.heap TO a b)
    (h1 : s.heap.IsTupleIter i1 l1 k1) (h2 : s.heap.IsTupleIter i2 l2 k2) (hl1 : s.heap.IsTuple l1 xs) (hl2 : s.heap.IsTuple l2 ys) (hend : xs[k1]? = none ∨ ys[k2]? = none)
    (hE : ∀ h' e, (∀ c o, c ≠ z → c ≠ TO → c ≠ i1 → c ≠ i2 → s.heap.get? c = some o → h'.get? c = some o) → (∃ o, h'.get? e = some o ∧ o.cls = .type "StopIteration") → E (.ref e) { s with heap := h' }) :
    wpAny (model prog w) A (Builtin.«zip.__next__» ⟨[.ref z], []⟩) Q E s := by
  show wpAny _ _ (field (.ref z) 2 >>= _) _ _ _
  refine wpAny_bind (wpAny_field hz rfl (x := .bool false) rfl ?_)
  show wpAny _ _ (field (.ref z) 3 >>= _) _ _ _
  refine wpAny_bind (wpAny_field hz rfl (x := .ref TI) rfl ?_)
  refine wpAny_bind (wpAny_seqItems hTI rfl ?_)
  show wpAny _ _ (Builtin.SmallTypes.ownedTupleIsFree (.ref z) >>= _) _ _ _
  refine wpAny_bind (ownFree hz h0 ?_ fun h₀ f1' hz₀ hs₀ => ?_)
  · simp only [if_true]
    refine wpAny_bind (wpAny_rule ?_)
    refine wpAny_bind (wpAny_field hz rfl (x := .ref TO) rfl ?_)
    refine wpAny_bind (wpAny_setField_rec hz (by simp) fun h₁ hz₁ hs₁ => ?_)
    replace hz₁ : ZK h₁ z TI TO .ellipsis f1 := hz₁
    refine wpAny_bind ?_
    simp only [List.zipIdx_cons, List.zipIdx_nil, List.forIn_cons, List.forIn_nil]
    refine wpAny_bind (wpAny_bind (wpAny_onRaise ?_))
    show wpAny _ _ (Builtin.SmallTypes.nextOf (.ref i1) >>= _) _ _ _
    cases hx : xs[k1]? with
    | none =>
      refine wpAny_bind (nextOf_tuple_end hh (h1.extBut hs₁.extBut D.i1z) (hl1.extBut hs₁.extBut D.l1z) hx fun h₂ e hs₂ he => ?_)
      obtain ⟨oe, hoe, hce⟩ := he
      have hz₂ : ZK h₂ z TI TO .ellipsis f1 := hs₂ _ _ D.i1z.symm hz₁
      have hez : e ≠ z := fun x => by subst x; rw [hz₂] at hoe; cases hoe; simp at hce
      refine wpAny_setField_rec hz₂ (by simp) fun h₃ _ hs₃ => hE h₃ e (fun c o c1 _ c3 _ x => hs₃.extBut _ _ c1 (hs₂ _ _ c3 (hs₁.extBut _ _ c1 x))) ⟨oe, hs₃.extBut _ _ hez hoe, hce⟩
    | some x =>
      have hy : ys[k2]? = none := by rcases hend with h | h; rw [hx] at h; cases h; exact h
      refine wpAny_bind (nextOf_tuple_item (h1.extBut hs₁.extBut D.i1z) (hl1.extBut hs₁.extBut D.l1z) hx fun h₂ h1₂ hs₂ => wpAny_pure ?_)
      have hTO₂ : IsPair h₂ TO a b := hs₂.extBut _ _ D.TOi1 (hs₁.extBut _ _ D.TOz hTO)
      refine wpAny_bind (wpAny_seqItems hTO₂ rfl ?_)
      refine wpAny_bind (wpAny_updateSeq_pair hTO₂ fun h₃ hTO₃ hs₃ => ?_)
      refine wpAny_bind (wpAny_letGo (wpAny_pure ?_))
      refine wpAny_bind (wpAny_bind (wpAny_onRaise ?_))
      show wpAny _ _ (Builtin.SmallTypes.nextOf (.ref i2) >>= _) _ _ _
      refine wpAny_bind (nextOf_tuple_end hh (((h2.extBut hs₁.extBut D.i2z).extBut hs₂.extBut D.i12.symm).extBut hs₃.extBut D.TOi2.symm)
        (((hl2.extBut hs₁.extBut D.l2z).extBut hs₂.extBut D.l2i1).extBut hs₃.extBut D.l2TO) hy fun h₄ e hs₄ he => ?_)
      obtain ⟨oe, hoe, hce⟩ := he
      have hz₄ : ZK h₄ z TI TO .ellipsis f1 := hs₄ _ _ D.i2z.symm (hs₃.extBut _ _ D.TOz.symm (hs₂.extBut _ _ D.i1z.symm hz₁))
      have hez : e ≠ z := fun x => by subst x; rw [hz₄] at hoe; cases hoe; simp at hce
      refine wpAny_setField_rec hz₄ (by simp) fun h₅ _ hs₅ => hE h₅ e (fun c o c1 c2 c3 c4 x => hs₅.extBut _ _ c1 (hs₄ _ _ c4 (hs₃.extBut _ _ c2 (hs₂.extBut _ _ c3 (hs₁.extBut _ _ c1 x))))) ⟨oe, hs₅.extBut _ _ hez hoe, hce⟩
  · simp only [Bool.false_eq_true, if_false]
    refine wpAny_bind ?_
    first
      | rw [List.forIn_toArray]
      | (rw [← Array.forIn_toList]; simp only [List.toList_toArray])
    simp only [List.forIn_cons, List.forIn_nil]
    refine wpAny_bind (wpAny_bind (wpAny_holding ?_))
    show wpAny _ _ (Builtin.SmallTypes.nextOf (.ref i1) >>= _) _ _ _
    cases hx : xs[k1]? with
    | none =>
      refine wpAny_bind (nextOf_tuple_end hh (h1.extBut hs₀.extBut D.i1z) (hl1.extBut hs₀.extBut D.l1z) hx fun h₂ e hs₂ he => ?_)
      exact hE h₂ e (fun c o c1 _ c3 _ x => hs₂ _ _ c3 (hs₀.extBut _ _ c1 x)) he
    | some x =>
      have hy : ys[k2]? = none := by rcases hend with h | h; rw [hx] at h; cases h; exact h
      refine wpAny_bind (nextOf_tuple_item (h1.extBut hs₀.extBut D.i1z) (hl1.extBut hs₀.extBut D.l1z) hx fun h₂ h1₂ hs₂ => wpAny_pure ?_)
      refine wpAny_pure ?_
      refine wpAny_bind (wpAny_bind (wpAny_holding ?_))
      show wpAny _ _ (Builtin.SmallTypes.nextOf (.ref i2) >>= _) _ _ _
      refine wpAny_bind (nextOf_tuple_end hh ((h2.extBut hs₀.extBut D.i2z).extBut hs₂.extBut D.i12.symm) ((hl2.extBut hs₀.extBut D.l2z).extBut hs₂.extBut D.l2i1) hy fun h₄ e hs₄ he => ?_)
      exact hE h₄ e (fun c o c1 c2 c3 c4 x => hs₄ _ _ c4 (hs₂.extBut _ _ c3 (hs₀.extBut _ _ c1 x))) he
theorem pyNext_zipK_item {z TI TO i1 i2 l1 l2 : Addr} {k1 k2 : Nat} {xs ys : Array Value} {x y a b f0 f1 : Value} {Q : Option Value → Shared → Prop} (D : ZipApart z TI TO i1 i2 l1 l2)
    (hz : ZK s.heap z TI TO f0 f1) (h0 : F0 f0) (hTI : IsPair s.heap TI (.ref i1) (.ref i2)) (hTO : IsPair s.heap TO a b)
    (h1 : s.heap.IsTupleIter i1 l1 k1) (h2 : s.heap.IsTupleIter i2 l2 k2) (hl1 : s.heap.IsTuple l1 xs) (hl2 : s.heap.IsTuple l2 ys) (hx : xs[k1]? = some x) (hy : ys[k2]? = some y)
    (hQ : ∀ h' f0' f1' a' b', ZK h' z TI TO f0' f1' → F0 f0' → IsPair h' TO a' b' → h'.IsTupleIter i1 l1 (k1 + 1) → h'.IsTupleIter i2 l2 (k2 + 1) → IsPair h' s.heap.objs.size x y → h'.objs.size = s.heap.objs.size + 1 →
      (∀ c o, c ≠ z → c ≠ TO → c ≠ i1 → c ≠ i2 → s.heap.get? c = some o → h'.get? c = some o) → Q (some (.ref s.heap.objs.size)) { s with heap := h' }) :
    wpAny (model prog w) A (pyNext (.ref z)) Q E s := by
  have hT : s.TypeIs (.ref z) "zip" := ⟨_, hz, rfl⟩
  unfold pyNext
  exact wpAny_bind (wpAny_attempt (wpAny_callSpecial?_slot (name := Str.ofString "__next__") hT F.slot_zip_next
    (wpAny_call_entry F.slot_zip_next hT F.entry_zip_next
      (zipK_next_item D hz h0 hTI hTO h1 h2 hl1 hl2 hx hy fun h' b0 b1 b2 b3 a1 a0 a2 a3 a4 a5 a6 a7 => wpAny_pure (hQ h' b0 b1 b2 b3 a1 a0 a2 a3 a4 a5 a6 a7)) (F.args_zip_next_1 _))))
theorem pyNext_zipK_end {z TI TO i1 i2 l1 l2 : Addr} {k1 k2 : Nat} {xs ys : Array Value} {a b f0 f1 : Value} {Q : Option Value → Shared → Prop} (hh : A.handled = none) (D : ZipApart z TI TO i1 i2 l1 l2)
    (hz : ZK s.heap z TI TO f0 f1) (h0 : F0 f0) (hTI : IsPair s.heap TI (.ref i1) (.ref i2)) (hTO : IsPair s.heap TO a b)
    (h1 : s.heap.IsTupleIter i1 l1 k1) (h2 : s.heap.IsTupleIter i2 l2 k2) (hl1 : s.heap.IsTuple l1 xs) (hl2 : s.heap.IsTuple l2 ys) (hend : xs[k1]? = none ∨ ys[k2]? = none)
    (hQ : ∀ h', (∀ c o, c ≠ z → c ≠ TO → c ≠ i1 → c ≠ i2 → s.heap.get? c = some o → h'.get? c = some o) → Q none { s with heap := h' }) : wpAny (model prog w) A (pyNext (.ref z)) Q E s := by
  have hT : s.TypeIs (.ref z) "zip" := ⟨_, hz, rfl⟩
  unfold pyNext
  refine wpAny_bind (wpAny_attempt (wpAny_callSpecial?_slot (name := Str.ofString "__next__") hT F.slot_zip_next
    (wpAny_call_entry F.slot_zip_next hT F.entry_zip_next (zipK_next_end hh D hz h0 hTI hTO h1 h2 hl1 hl2 hend fun h' e hk he => ?_) (F.args_zip_next_1 _))))
  obtain ⟨o, ho, hc⟩ := he
  refine wpAny_bind (wpAny_isInstance (T := "StopIteration") (b := true) ⟨o, ho, hc⟩ isSubtype_stop ?_)
  exact wpAny_pure (hQ _ hk)
end

open PySem.Spec PyProof.Rows L2 GxR
theorem turn_zipK {P : Program} {w : World} {K : PySem.W.Frag} {nm : Str} {tpos : Pos} {a b z TI TO i1 i2 : Addr} (D : ZipApart z TI TO i1 i2 a b) :
    Turn P w K (.Name nm tpos) (ItzT K a b) [z, TI, TO, i1, i2] z (fun i h => (∃ f0 f1, ZK h z TI TO f0 f1 ∧ F0 f0) ∧ IsPair h TI (.ref i1) (.ref i2) ∧ (∃ x y, IsPair h TO x y) ∧ h.IsTupleIter i1 a i ∧ h.IsTupleIter i2 b i) where
  mem := by simp
  obj := fun i h st c hc => by
    obtain ⟨⟨f0, f1, hz, _⟩, hTI, ⟨x, y, hTO⟩, ⟨o1, e1, _, d1⟩, ⟨o2, e2, _, d2⟩⟩ := st
    have e' : c = z ∨ c = TI ∨ c = TO ∨ c = i1 ∨ c = i2 := by simpa using hc
    rcases e' with q | q | q | q | q
    · rw [q]; exact ⟨_, hz, fun v q => nomatch q⟩
    · rw [q]; exact ⟨_, hTI, fun v q => nomatch q⟩
    · rw [q]; exact ⟨_, hTO, fun v q => nomatch q⟩
    · rw [q]; exact ⟨o1, e1, fun v q => by rw [d1] at q; cases q⟩
    · rw [q]; exact ⟨o2, e2, fun v q => by rw [d2] at q; cases q⟩
  keep := fun i h h' st k => by
    obtain ⟨⟨f0, f1, hz, h0⟩, hTI, ⟨x, y, hTO⟩, h1, h2⟩ := st
    exact ⟨⟨f0, f1, k z (by simp) _ hz, h0⟩, k TI (by simp) _ hTI, ⟨x, y, k TO (by simp) _ hTO⟩, h1.at fun o q => k i1 (by simp) o q, h2.at fun o q => k i2 (by simp) o q⟩
  item := by
    intro X hP hw hK hc i pins s σ H E I hf st hg
    subst hP hw hK
    obtain ⟨⟨f0, f1, hz, h0⟩, hTI, ⟨x0, y0, hTO⟩, h1, h2⟩ := st
    obtain ⟨xs, ys, x, y, hqx, hqy, hx, hy⟩ := hg
    obtain ⟨its, rv, p, _⟩ := I.tuple hqx
    obtain ⟨its2, rv2, p2, _⟩ := I.tuple hqy
    obtain ⟨u, hu, ru⟩ := rv.get hx
    obtain ⟨u2, hu2, ru2⟩ := rv2.get hy
    have hzl : z < s.heap.objs.size := Heap.lt_size hz
    refine pyNext_zipK_item D hz h0 hTI hTO h1 h2 p p2 (x := u) (y := u2) (by simpa using hu) (by simpa using hu2) fun h' f0' f1' a' b' z' h0' TO' h1' h2' hT hsz hk => ?_
    refine ⟨_, rfl, ?_⟩
    unfold letOwnedTupleGo
    refine wpAny_pure ?_
    have new : ObjOk X.prog X.w (upd H s.heap.objs.size (.tup [x, y])) h' s.heap.objs.size (.tup [x, y]) :=
      ⟨by show 2 ≤ sizeLine; decide, [u, u2], .cons ru (.cons ru2 .nil), ⟨_, hT, rfl, _, rfl⟩⟩
    have I1 : Inv X pins σ (upd H s.heap.objs.size (.tup [x, y])) { s with heap := h' } :=
      I.turnedNew (t' := s.toks) (ch := [z, TI, TO, i1, i2]) (fun c o hb q => hk c o (fun q' => hb (by simp [q'])) (fun q' => hb (by simp [q'])) (fun q' => hb (by simp [q'])) (fun q' => hb (by simp [q'])) q) hf (Nat.le_refl _) new
    refine ⟨.ref s.heap.objs.size, _, I1, rfl, ⟨_, x, y, rfl, I.hok.fresh (Nat.le_refl _), rfl, fun l hl => by rw [I.tuple_inj hl hqx]; exact hx, fun l hl => by rw [I.tuple_inj hl hqy]; exact hy⟩, ⟨⟨_, _, z', h0'⟩, ?_, ⟨_, _, TO'⟩, h1', h2'⟩, fun c hcm => ?_⟩
    · exact hk _ _ D.TIz D.TITO D.TIi1 D.TIi2 hTI
    · have hlt : c < s.heap.objs.size := by
        have e' : c = z ∨ c = TI ∨ c = TO ∨ c = i1 ∨ c = i2 := by simpa using hcm
        rcases e' with q | q | q | q | q
        · rw [q]; exact hzl
        · rw [q]; exact Heap.lt_size hTI
        · rw [q]; exact Heap.lt_size hTO
        · rw [q]; obtain ⟨_, e1, _⟩ := h1; exact Heap.lt_size e1
        · rw [q]; obtain ⟨_, e2, _⟩ := h2; exact Heap.lt_size e2
      rw [upd_ne (Nat.ne_of_lt hlt)]
      exact (hf c hcm).1
  done := by
    intro X hP hw hK hc i pins s σ H E I hf st hg
    subst hP hw hK
    obtain ⟨⟨f0, f1, hz, h0⟩, hTI, ⟨x0, y0, hTO⟩, h1, h2⟩ := st
    obtain ⟨xs, ys, hqx, hqy, hend⟩ := hg
    obtain ⟨its, rv, p, _⟩ := I.tuple hqx
    obtain ⟨its2, rv2, p2, _⟩ := I.tuple hqy
    have l1 := rv.length
    have l2 := rv2.length
    have he : its.toArray[i]? = none ∨ its2.toArray[i]? = none := by
      rcases hend with q | q
      · exact .inl (by simp; omega)
      · exact .inr (by simp; omega)
    exact pyNext_zipK_end (I.ok.hd hc) D hz h0 hTI hTO h1 h2 p p2 he fun h' hk => ⟨rfl, I.turnedL (t' := s.toks) (ch := [z, TI, TO, i1, i2]) (fun c o hb q =>
      hk c o (fun q' => hb (by simp [q'])) (fun q' => hb (by simp [q'])) (fun q' => hb (by simp [q'])) (fun q' => hb (by simp [q'])) q) hf⟩
  self := fun A i s Q E st h => by
    obtain ⟨⟨f0, f1, hz, _⟩, _⟩ := st
    have hT : s.TypeIs (.ref z) "zip" := ⟨_, hz, rfl⟩
    refine wpAny_pyIter_slot hT F.slot_zip_iter (wpAny_call_entry F.slot_zip_iter hT F.entry_zip_iter ?_ (F.args_zip_iter_1 _))
    show wpAny _ _ (ret (.ref z)) _ _ s
    exact wpAny_pure ⟨_, rfl, "zip", _, hT, F.slot_zip_next.lookup, h⟩
def iZipS (K : PySem.W.Frag) (te : TE) : L2.TI := fun σ H R => te σ H fun v H1 => ∃ t a b xs ys, v = .ref t ∧ SqT K H1 t [.ref a, .ref b] ∧ SqT K H1 a xs ∧ SqT K H1 b ys ∧ R (ItzT K a b) H1
theorem pi_zipS {X : Cx} {e : Expr} {te : TE} {p pos sp tpos : Pos} {nm : Str} (hg : Gl X "zip") (hm : X.mg "zip" = none) (he : PE X e te) (hst : starEach [.Starred e sp] X.env = [(true, eval e X.env)] := by rfl) :
    PI X (.Name nm tpos) (.Call (.Name "zip" p) [.Starred e sp] [] pos) (iZipS X.K te) := by
  refine ⟨fun pins s σ H R I h => ?_⟩
  refine Call_ (ld_blt I hg hm PyProof.Rows.boot_zip ?_)
  rw [hst]
  refine PySem.W.ks_call (P := fun _ => True) rfl (fun h _ => ⟨.machine, .inr (.inl rfl), .now⟩) (PySem.W.ks_lone (thn (he.run pins s σ H _ I h) fun v s0 ⟨y, H1, I0, ry, t, a, b, xs, ys, ey, hqt, hqx, hqy, q⟩ => ?_))
  subst ey
  obtain rfl : v = Value.ref t := ry
  refine StX.star_any I0 (.inl hqt) fun us s1 I1 r1 => ⟨trivial, ?_⟩
  cases r1 with
  | cons r rr =>
    cases rr with
    | cons r' rr =>
      cases rr
      cases r
      cases r'
      have fresh5 : ∀ c, c ∈ [s1.heap.objs.size + 4, s1.heap.objs.size + 2, s1.heap.objs.size + 3, s1.heap.objs.size, s1.heap.objs.size + 1] → FpOk X pins H1 c := fun c hcm => by
        have e' : c = s1.heap.objs.size + 4 ∨ c = s1.heap.objs.size + 2 ∨ c = s1.heap.objs.size + 3 ∨ c = s1.heap.objs.size ∨ c = s1.heap.objs.size + 1 := by simpa using hcm
        have hle : s1.heap.objs.size ≤ c := by
          rcases e' with z | z | z | z | z
          · rw [z]; exact Nat.le_add_right _ _
          · rw [z]; exact Nat.le_add_right _ _
          · rw [z]; exact Nat.le_add_right _ _
          · rw [z]; exact Nat.le_refl _
          · rw [z]; exact Nat.le_add_right _ _
        exact I1.fpOk hle (I1.hok.fresh hle)
      obtain ⟨its, rv, p1, _⟩ := I1.tuple hqx
      obtain ⟨its2, rv2, p2, _⟩ := I1.tuple hqy
      obtain ⟨o1, ho1, _⟩ := id p1
      obtain ⟨o2, ho2, _⟩ := id p2
      refine call_zipT (show s1.heap.IsTuple a its.toArray from p1) (show s1.heap.IsTuple b its2.toArray from p2) fun h' hz hTI hTO h1 h2 hsz hk => wpAny_pyIter_zip hz ?_
      have I2 : Inv X pins σ H1 { s1 with heap := h' } := I1.kept (t' := s1.toks) hk
      exact ⟨s1.heap.objs.size + 4, [s1.heap.objs.size + 4, s1.heap.objs.size + 2, s1.heap.objs.size + 3, s1.heap.objs.size, s1.heap.objs.size + 1], _, _, H1, rfl, I2, turn_zipK (PySem.W.ktu_apart s1.heap.objs.size a b (Heap.lt_size ho1) (Heap.lt_size ho2)), ⟨⟨_, _, hz, .inl rfl⟩, hTI, ⟨_, _, hTO⟩, h1, h2⟩, fresh5, q⟩
end GX

set_option Elab.async false
set_option linter.all false
set_option maxRecDepth 100000
set_option maxHeartbeats 1000000
namespace DJ
open PySem PySem.Spec PyProof.Rows L2 GxR GX
theorem len4 {m m2 m3 m4 : ME} : ∀ (l : Sl) (P : List D → Cr) (c : Nat), mCons m (mCons m2 (mCons m3 (mCons m4 mNil))) l P c → mCons m (mCons m2 (mCons m3 (mCons m4 mNil))) l (fun ds c => ds.length = 4 ∧ P ds c) c := fun l P c h => by
  unfold mCons mNil at h ⊢
  have e : (fun x => m2 l fun y => m3 l fun z => m4 l fun u => P [x, y, z, u]) = fun x => m2 l fun y => m3 l fun z => m4 l fun u c => ([x, y, z, u] : List D).length = 4 ∧ P [x, y, z, u] c := funext fun x => by
    congr 1; funext y; congr 1; funext z; congr 1; funext u; funext c; exact propext ⟨fun h => ⟨rfl, h⟩, fun h => h.2⟩
  rw [← e]; exact h
/-! ### zip(*table) of a table of two rows -/
def gZipS : D → (List D → Cr) → Cr
  | .tup [.tup xs, .tup ys], P => P (zipD xs ys)
  | _, _ => fun _ => False
def mZipS (m : ME) : MI := fun l P => m l fun d => gZipS d P
theorem gZipS_inv {d : D} {P : List D → Cr} {n : Nat} (h : gZipS d P n) : ∃ xs ys, d = .tup [.tup xs, .tup ys] ∧ P (zipD xs ys) n := by
  unfold gZipS at h
  split at h
  · exact ⟨_, _, rfl, h⟩
  · exact h.elim
section
variable {C : Ct} {w : Option Addr} {X : Cx} {F : Fz} {H : Hp}
theorem ji_zipS {e : Expr} {p pos sp tpos : Pos} {nm : Str} {m : ME} (hK : C.K = X.K) (hg : Gl X "zip") (hm : X.mg "zip" = none) (h : JE C w X e m) (hst : starEach [.Starred e sp] X.env = [(true, eval e X.env)] := by rfl) :
    JI C w X (.Name nm tpos) (.Call (.Name "zip" p) [.Starred e sp] [] pos) (mZipS m) := PI.imp (pi_zipS hg hm h hst) fun σ H R ⟨F, l, P, g0, r, h, f⟩ => by
  refine ⟨F, l, fun d => gZipS d P, g0, r, h, fun d v F1 H1 h1 s1 r1 => ?_⟩
  obtain ⟨xs, ys, rfl, h1⟩ := gZipS_inv h1
  obtain ⟨t, vs, rfl, q1, q2⟩ := rep_tup' r1
  obtain ⟨u1, vs', rfl, q3, q4⟩ := q2.inv
  obtain ⟨u2, vs'', rfl, q5, q6⟩ := q4.inv
  obtain rfl := q6.inv0
  obtain ⟨a, us, rfl, t1, t2⟩ := rep_tup' q3
  obtain ⟨b, ws, rfl, t3, t4⟩ := rep_tup' q5
  refine ⟨t, a, b, us, ws, rfl, ?_, ?_, ?_, ?_⟩
  · rw [← hK]; exact Ex.t s1.gd.sub q1
  · rw [← hK]; exact Ex.t s1.gd.sub t1
  · rw [← hK]; exact Ex.t s1.gd.sub t3
  · rw [← hK]; exact f.at s1 h1 (walk_zipT t1 t2 t3 t4)
end

/-! ### kinds by whole numbers -/
def kI (A B C : Int) : D := .tup [.int A, .int B, .int C]
def okI (n : Nat) (A B C : Int) : Prop := Bt n A ∧ Bt n B ∧ Bt n C ∧ gcd3 A B C = 1 ∧ 0 < B * B - A * C
section
variable {A B C : Int} {n m : Nat} {P : D → Cr}
theorem okI.mono (h : okI n A B C) (l : n ≤ m) : okI m A B C := ⟨h.1.mono l, h.2.1.mono l, h.2.2.1.mono l, h.2.2.2⟩
theorem okI.fine (h : okI n A B C) (l : n ≤ 1000) : (kI A B C).fine = true := fine_tup.mpr (f3 (fine_int.mpr (h.1.mono l)) (fine_int.mpr (h.2.1.mono l)) (fine_int.mpr (h.2.2.1.mono l)))
theorem okI.kindB (h : okI n A B C) : DJ.kindB (kI A B C) = true := by
  unfold kI
  rw [kindB_int, decide_eq_true h.2.2.2.2, Bool.and_true, decide_eq_true_eq]; exact h.2.2.2.1
theorem okI.dR (h : okI n A B C) : (0 : Rat) < (B : Rat) * B - (A : Rat) * C := by
  rw [← Rat.intCast_mul, ← Rat.intCast_mul, ← Rat.intCast_sub]; exact Rat.intCast_pos.mpr h.2.2.2.2
theorem okI.shy (h : okI n A B C) (l : n ≤ 1000) : (kI A B C).shy = true := by
  unfold kI
  rw [shy_tup, shyL_cons, shyL_cons, shyL_cons, shyL_nil, shy_int (h.1.mono l), shy_int (h.2.1.mono l), shy_int (h.2.2.1.mono l)]; rfl
theorem okI.kd (h : okI n A B C) : DJ.kd (A : Rat) (B : Rat) (C : Rat) = kI A B C := kd_int h.2.2.2.1
theorem kI_eta : D.tup [.int A, .int B, .int C] = kI A B C := rfl
theorem kI_dp : (kI A B C).dp = 2 := rfl
theorem kI_cost : (kI A B C).cost = 3012 := rfl
theorem eKI {R : Int → Int → Int → Cr} : g3I (kI A B C) R = R A B C := rfl
theorem eTupKI {t : MGs} {l : Sl} {W : Sl → Cr} : gTupD 3 t (kI A B C) l W = t [.int A, .int B, .int C] l W := funext fun c => propext ⟨fun ⟨es, e, _, h⟩ => by cases e; exact h, fun h => ⟨_, rfl, rfl, h⟩⟩
theorem eIxI0 : gIx (kI A B C) (.int 0) P = P (.int A) := funext fun n => propext ⟨fun ⟨d, e, h⟩ => by rw [at0] at e; cases e; exact h, fun h => ⟨_, at0, h⟩⟩
theorem eIxI1 : gIx (kI A B C) (.int 1) P = P (.int B) := funext fun n => propext ⟨fun ⟨d, e, h⟩ => by rw [at1] at e; cases e; exact h, fun h => ⟨_, at1, h⟩⟩
theorem eIxI2 : gIx (kI A B C) (.int 2) P = P (.int C) := funext fun n => propext ⟨fun ⟨d, e, h⟩ => by rw [at2] at e; cases e; exact h, fun h => ⟨_, at2, h⟩⟩
theorem eSeqI {W : List D → Cr} : gSeq (kI A B C) W = W [.int A, .int B, .int C] := rfl
theorem eRAk : gReprA (kI A B C) P = gRepr (kI A B C) P := rfl
theorem eLenKI : gLen (kI A B C) P = P (.int 3) := rfl
theorem kI_inj {A' B' C' : Int} : kI A B C = kI A' B' C' ↔ A = A' ∧ B = B' ∧ C = C' := by
  unfold kI; simp only [D.tup.injEq, List.cons.injEq, D.int.injEq, and_true]
theorem kI_eqv {A' B' C' : Int} : PyData.eqv (kI A B C).py (kI A' B' C').py = (decide (A = A') && decide (B = B') && decide (C = C')) := by
  show PyData.eqv (.tuple [.int A, .int B, .int C]) (.tuple [.int A', .int B', .int C']) = _
  simp only [PyData.eqv, PyData.eqvAll, Bool.and_true]; rw [← Bool.and_assoc]; rfl
theorem eEqKI {A' B' C' : Int} : gEq (kI A B C) (kI A' B' C') P = P (.bl (decide (A = A') && decide (B = B') && decide (C = C'))) := funext fun n => propext ⟨fun h => by have := h.2; rw [kI_eqv] at this; exact this, fun h => ⟨⟨rfl, rfl⟩, by rw [kI_eqv]; exact h⟩⟩
theorem eNeKI {A' B' C' : Int} : gNe (kI A B C) (kI A' B' C') P = P (.bl (!(decide (A = A') && decide (B = B') && decide (C = C')))) := funext fun n => propext ⟨fun h => by have := h.2; rw [kI_eqv] at this; exact this, fun h => ⟨⟨rfl, rfl⟩, by rw [kI_eqv]; exact h⟩⟩
end
/-- three whole numbers brought to lowest terms -/
theorem kd_ints {a b c : Int} {n : Nat} (h : 0 < b * b - a * c) (ha : Bt n a) (hb : Bt n b) (hc : Bt n c) :
    ∃ A B C : Int, kd (a : Rat) (b : Rat) (c : Rat) = kI A B C ∧ okI n A B C ∧ ∃ k : Rat, 0 < k ∧ (A : Rat) = k * a ∧ (B : Rat) = k * b ∧ (C : Rat) = k * c := by
  have nz : ¬ (a = 0 ∧ b = 0 ∧ c = 0) := by
    rintro ⟨rfl, rfl, rfl⟩; exact absurd h (by decide)
  have hr : (0 : Rat) < (b : Rat) * b - (a : Rat) * c := by
    rw [← Rat.intCast_mul, ← Rat.intCast_mul, ← Rat.intCast_sub, Rat.intCast_pos]; exact h
  obtain ⟨h1, h2⟩ := kd_pos hr
  obtain ⟨k, k0, e1, e2, e3, _⟩ := k3_props (disc_nz hr)
  have e := k3_is (a := a) (b := b) (c := c) (x := (a : Rat)) (y := (b : Rat)) (z := (c : Rat)) (k := 1) (by decide) nz (by grind) (by grind) (by grind)
  refine ⟨_, _, _, rfl, ⟨?_, ?_, ?_, h2, h1⟩, k, k0, e1, e2, e3⟩
  · rw [e]; exact ha.le (Int.natAbs_ediv_le_natAbs _ _)
  · rw [e]; exact hb.le (Int.natAbs_ediv_le_natAbs _ _)
  · rw [e]; exact hc.le (Int.natAbs_ediv_le_natAbs _ _)
/-! ### leads by whole numbers -/
def ldI (b : Nat) (e f g h : Rat) : Prop := ∃ (s : Rat) (i j k l : Int), s ≠ 0 ∧ (e = s * i ∧ f = s * j ∧ g = s * k ∧ h = s * l) ∧ Bt b i ∧ Bt b j ∧ Bt b k ∧ Bt b l
theorem ldI.mono {b c : Nat} {e f g h : Rat} (q : ldI b e f g h) (l : b ≤ c) : ldI c e f g h := by
  obtain ⟨s, i, j, k, l', s0, e1, b1, b2, b3, b4⟩ := q
  exact ⟨s, i, j, k, l', s0, e1, b1.mono l, b2.mono l, b3.mono l, b4.mono l⟩
theorem qsq_pos {s : Rat} (h : s ≠ 0) : 0 < s * s := by
  have := sq_nnq s
  have : s * s ≠ 0 := fun e => by rcases Rat.mul_eq_zero.mp e with e | e <;> exact h e
  grind
def iA (x y z e f : Int) : Int := e * e * x + (e * f + f * e) * y + f * f * z
def iB (x y z e f g h : Int) : Int := e * g * x + (e * h + f * g) * y + f * h * z
theorem iA_bt {n b : Nat} {x y z e f : Int} (hx : Bt n x) (hy : Bt n y) (hz : Bt n z) (he : Bt b e) (hf : Bt b f) : Bt (n + 2 * b + 3) (iA x y z e f) := by
  unfold iA
  refine Bt.mono (Bt.add (Bt.add ((he.mul he).mul hx) ((Bt.add (he.mul hf) (hf.mul he)).mul hy)) ((hf.mul hf).mul hz)) ?_
  simp only [Nat.max_def]; split <;> split <;> split <;> omega
theorem iB_bt {n b : Nat} {x y z e f g h : Int} (hx : Bt n x) (hy : Bt n y) (hz : Bt n z) (he : Bt b e) (hf : Bt b f) (hg : Bt b g) (hh : Bt b h) : Bt (n + 2 * b + 3) (iB x y z e f g h) := by
  unfold iB
  refine Bt.mono (Bt.add (Bt.add ((he.mul hg).mul hx) ((Bt.add (he.mul hh) (hf.mul hg)).mul hy)) ((hf.mul hh).mul hz)) ?_
  simp only [Nat.max_def]; split <;> split <;> split <;> omega
theorem iA_q {x y z e f : Int} : ((iA x y z e f : Int) : Rat) = lA x y z e f := by
  unfold iA lA; simp only [Rat.intCast_add, Rat.intCast_mul]
theorem iB_q {x y z e f g h : Int} : ((iB x y z e f g h : Int) : Rat) = lB x y z e f g h := by
  unfold iB lB; simp only [Rat.intCast_add, Rat.intCast_mul]
theorem lA_scale {x y z e f s : Rat} : lA x y z (s * e) (s * f) = s * s * lA x y z e f := by unfold lA; grind
theorem lB_scale {x y z e f g h s : Rat} : lB x y z (s * e) (s * f) (s * g) (s * h) = s * s * lB x y z e f g h := by unfold lB; grind
theorem det_scale {e f g h s : Rat} : s * e * (s * h) - s * f * (s * g) = s * s * (e * h - f * g) := by grind
theorem led_int {A B C : Int} {n b : Nat} {e f g h : Rat} (hk : okI n A B C) (hl : ldI b e f g h) (hd : e * h - f * g ≠ 0) :
    ∃ A' B' C' : Int, kd (lA A B C e f) (lB A B C e f g h) (lA A B C g h) = kI A' B' C' ∧ okI (n + 2 * b + 3) A' B' C' ∧ ∃ k : Rat, 0 < k ∧ (A' : Rat) = k * lA A B C e f ∧ (B' : Rat) = k * lB A B C e f g h ∧ (C' : Rat) = k * lA A B C g h := by
  obtain ⟨s, i, j, k, l, s0, ⟨rfl, rfl, rfl, rfl⟩, b1, b2, b3, b4⟩ := hl
  rw [det_scale] at hd
  have hd2 : (i : Rat) * l - (j : Rat) * k ≠ 0 := fun e => hd (by rw [e, Rat.mul_zero])
  have hq : (0 : Rat) < lB A B C i j k l * lB A B C i j k l - lA A B C i j * lA A B C k l := by
    rw [ld_disc]; exact Rat.mul_pos (qsq_pos hd2) hk.dR
  have hi : 0 < iB A B C i j k l * iB A B C i j k l - iA A B C i j * iA A B C k l := by
    rw [← Rat.intCast_pos, Rat.intCast_sub, Rat.intCast_mul, Rat.intCast_mul, iA_q, iA_q, iB_q]; exact hq
  obtain ⟨A', B', C', e1, e2, t, t0, q1, q2, q3⟩ := kd_ints hi (iA_bt hk.1 hk.2.1 hk.2.2.1 b1 b2) (iB_bt hk.1 hk.2.1 hk.2.2.1 b1 b2 b3 b4) (iA_bt hk.1 hk.2.1 hk.2.2.1 b3 b4)
  rw [iA_q, iA_q, iB_q] at e1
  rw [iA_q] at q1 q3
  rw [iB_q] at q2
  have ss := qsq_pos s0
  have ssn : s * s ≠ 0 := by grind
  refine ⟨A', B', C', ?_, e2, t * (s * s)⁻¹, Rat.mul_pos t0 (Rat.inv_pos.mpr ss), ?_, ?_, ?_⟩
  · rw [← e1]
    exact kd_eq ss (disc_nz hq) lA_scale lB_scale lA_scale
  · rw [lA_scale, q1]; grind
  · rw [lB_scale, q2]; grind
  · rw [lA_scale, q3]; grind
/-- fractions as a lead: over one bottom -/
theorem ldI_of {a b : Nat} {e f g h : Rat} (he : Sz2 a b e) (hf : Sz2 a b f) (hg : Sz2 a b g) (hh : Sz2 a b h) : ldI (a + 3 * b) e f g h := by
  have d : ∀ {q : Rat}, Sz2 a b q → Bt b ((q.den : Nat) : Int) := fun h => by unfold Bt; rw [Int.natAbs_natCast]; exact h.2
  have w : ∀ {p q r t : Rat}, Sz2 a b p → Sz2 a b q → Sz2 a b r → Sz2 a b t → Bt (a + 3 * b) (p.num * ((q.den : Nat) : Int) * ((r.den : Nat) : Int) * ((t.den : Nat) : Int)) := fun hp hq hr ht => ((((show Bt a _ from hp.1).mul (d hq)).mul (d hr)).mul (d ht)).mono (by omega)
  refine ⟨((((e.den : Nat) : Int) : Rat) * ((f.den : Nat) : Int) * ((g.den : Nat) : Int) * ((h.den : Nat) : Int))⁻¹, e.num * ((f.den : Nat) : Int) * ((g.den : Nat) : Int) * ((h.den : Nat) : Int), f.num * ((e.den : Nat) : Int) * ((g.den : Nat) : Int) * ((h.den : Nat) : Int), g.num * ((e.den : Nat) : Int) * ((f.den : Nat) : Int) * ((h.den : Nat) : Int), h.num * ((e.den : Nat) : Int) * ((f.den : Nat) : Int) * ((g.den : Nat) : Int), ?_, ?_, w he hf hg hh, w hf he hg hh, w hg he hf hh, w hh he hf hg⟩
  · exact Rat.ne_of_gt (Rat.inv_pos.mpr (Rat.mul_pos (Rat.mul_pos (Rat.mul_pos (den_pos e) (den_pos f)) (den_pos g)) (den_pos h)))
  · have h1 := q_eq e
    have h2 := q_eq f
    have h3 := q_eq g
    have h4 := q_eq h
    have n1 := den_ne e
    have n2 := den_ne f
    have n3 := den_ne g
    have n4 := den_ne h
    simp only [Rat.intCast_mul]
    refine ⟨?_, ?_, ?_, ?_⟩ <;> grind
theorem ldI_scale {b : Nat} {e f g h s : Rat} (s0 : s ≠ 0) (q : ldI b e f g h) : ldI b (s * e) (s * f) (s * g) (s * h) := by
  obtain ⟨t, i, j, k, l, t0, ⟨rfl, rfl, rfl, rfl⟩, r⟩ := q
  exact ⟨s * t, i, j, k, l, fun e => by rcases Rat.mul_eq_zero.mp e with e | e <;> contradiction, ⟨by grind, by grind, by grind, by grind⟩, r⟩
theorem ldI_back {b : Nat} {e f g h : Rat} (hd : e * h - f * g ≠ 0) (q : ldI b e f g h) : ldI b (h / (e * h - f * g)) (-f / (e * h - f * g)) (-g / (e * h - f * g)) (e / (e * h - f * g)) := by
  obtain ⟨t, i, j, k, l, t0, ⟨rfl, rfl, rfl, rfl⟩, b1, b2, b3, b4⟩ := q
  generalize t * i * (t * l) - t * j * (t * k) = D at *
  refine ⟨t / D, l, -j, -k, i, ?_, ?_, b4, b2.neg, b3.neg, b1⟩
  · intro e
    have : t = 0 := by
      rw [Rat.div_def] at e
      rcases Rat.mul_eq_zero.mp e with e | e
      · exact e
      · have := Rat.mul_inv_cancel D hd; rw [e, Rat.mul_zero] at this; exact absurd this (by decide)
    exact t0 this
  · refine ⟨?_, ?_, ?_, ?_⟩ <;> (try simp only [Rat.intCast_neg]) <;> grind

/-! ### promises -/
def s2q (a b : Nat) (e f g h : Rat) : Prop := Sz2 a b e ∧ Sz2 a b f ∧ Sz2 a b g ∧ Sz2 a b h
def gapq (a b c : Rat) : Prop := 0 ≤ a ∧ 0 ≤ c ∧ a + c ≠ 0 ∧ b * b ≤ a * c
def ldp (e f g h p q r s : Rat) : D := ld (e * p + f * r) (e * q + f * s) (g * p + h * r) (g * q + h * s)
def ldb (e f g h : Rat) : D := ld (h / (e * h - f * g)) (-f / (e * h - f * g)) (-g / (e * h - f * g)) (e / (e * h - f * g))
def kL (A B C e f g h : Rat) : D := kd (lA A B C e f) (lB A B C e f g h) (lA A B C g h)
def tL (a b c e f g h : Rat) : D := tr (lA a b c e f) (lB a b c e f g h) (lA a b c g h)
def sPaired7 : Spec := g3 fun d e' f' P n => ∃ e f g h a b c, (d = .tup [fr e, fr f] ∧ e' = .tup [fr g, fr h] ∧ f' = tr a b c) ∧ s2q 100 100 e f g h ∧ (Sz2 500 500 a ∧ Sz2 500 500 b ∧ Sz2 500 500 c) ∧ P (fr (lB a b c e f g h)) n
def sLedN7 : Spec := g2 fun d e' P n => ∃ a b c e f g h, (d = tr a b c ∧ e' = ld e f g h) ∧ s2q 100 100 e f g h ∧ (Sz2 500 500 a ∧ Sz2 500 500 b ∧ Sz2 500 500 c) ∧ P (tL a b c e f g h) n
def sLed7 : Spec := g2 fun d e' P n => ∃ A B C e f g h, (d = kI A B C ∧ e' = ld e f g h) ∧ s2q 100 100 e f g h ∧ okI 400 A B C ∧ e * h - f * g ≠ 0 ∧ P (kL A B C e f g h) n
def sGapLed7 : Spec := g2 fun d e' P n => ∃ a b c e f g h, (d = tr a b c ∧ e' = ld e f g h) ∧ s2q 100 100 e f g h ∧ (Sz2 500 500 a ∧ Sz2 500 500 b ∧ Sz2 500 500 c) ∧ gapq a b c ∧ e * h - f * g ≠ 0 ∧ P (tL a b c e f g h) n
def sHolds7 : Spec := g2 fun d e P n => ∃ A B C a b c, (d = kI A B C ∧ e = tr a b c) ∧ okI 900 A B C ∧ (Sz 1000 a ∧ Sz 1000 b ∧ Sz 1000 c) ∧ gapq a b c ∧ P (.bl (decide ((A : Rat) * c - 2 * B * b + C * a ≤ 0))) n
def sProdRow : Spec := g2 fun d e' P n => ∃ e f p q r s, (d = .tup [fr e, fr f] ∧ e' = ld p q r s) ∧ (Sz2 100 100 e ∧ Sz2 100 100 f ∧ s2q 100 100 p q r s) ∧ P (.tup [fr (e * p + f * r), fr (e * q + f * s)]) n
def sProdT : Spec := g2 fun d e' P n => ∃ e f g h p q r s, (d = ld e f g h ∧ e' = ld p q r s) ∧ (s2q 100 100 e f g h ∧ s2q 100 100 p q r s) ∧ P (ldp e f g h p q r s) n
def sLProd : Spec := g2 fun d e' P n => ∃ e f g h p q r s, (d = ld e f g h ∧ e' = ld p q r s) ∧ (s2q 100 100 e f g h ∧ s2q 100 100 p q r s) ∧ (e * h - f * g ≠ 0 ∧ p * s - q * r ≠ 0) ∧ P (ldp e f g h p q r s) n
def sBack : Spec := g1 fun d P n => ∃ e f g h, d = ld e f g h ∧ s2q 100 100 e f g h ∧ e * h - f * g ≠ 0 ∧ P (ldb e f g h) n
def sLeadD : Spec := fun ds P n => ds = [.well] ∧ n < 990000000 ∧ ∀ (e f g h : Rat) (n' : Nat), s2q 22 10 e f g h → e * h - f * g ≠ 0 → n' ≤ n + 13 → P (ld e f g h) n'
def sWholeL : Spec := g1 fun d P n => ∃ e f g h, d = ld e f g h ∧ s2q 1000 800 e f g h ∧ P (.tup [.int (e.num * ((f.den : Nat) : Int) * ((g.den : Nat) : Int) * ((h.den : Nat) : Int)), .int (f.num * ((e.den : Nat) : Int) * ((g.den : Nat) : Int) * ((h.den : Nat) : Int)), .int (g.num * ((e.den : Nat) : Int) * ((f.den : Nat) : Int) * ((h.den : Nat) : Int)), .int (h.num * ((e.den : Nat) : Int) * ((f.den : Nat) : Int) * ((g.den : Nat) : Int))]) n
def sLedL : Spec := g2 fun d e' P n => ∃ A B C e f g h, (d = kI A B C ∧ e' = ld e f g h) ∧ s2q 1000 800 e f g h ∧ okI 900 A B C ∧ e * h - f * g ≠ 0 ∧ P (kL A B C e f g h) n
def sBoth : Spec := g4 fun d e f g P => gFr 400 d fun p => gFr 400 e fun q => gFr 400 f fun r => gFr 400 g fun s => P (fr (p * q + r * s))
def sGapLedL : Spec := g3 fun d e f' P n => ∃ (a b c m : Int) (e' f g h : Rat), (d = kI a b c ∧ e = .int m ∧ f' = ld e' f g h) ∧ (Bt 100 a ∧ Bt 100 b ∧ Bt 100 c ∧ Bt 100 m ∧ 0 < m) ∧ s2q 200 200 e' f g h ∧ P (tL ((a : Rat) / m) ((b : Rat) / m) ((c : Rat) / m) e' f g h) n
def sFormL : Spec := g2 fun d e P n => ∃ A B C a b c : Int, (d = kI A B C ∧ e = kI a b c) ∧ (Bt 900 A ∧ Bt 900 B ∧ Bt 900 C ∧ Bt 900 a ∧ Bt 900 b ∧ Bt 900 c) ∧ P (.int (A * c - 2 * B * b + C * a)) n
def sIsSq : Spec := g1 fun d P n => ∃ N : Int, d = .int N ∧ (0 ≤ N ∧ Bt 8000 N) ∧ ∀ r : Bool, (r = true ↔ ∃ k : Int, k * k = N) → P (.bl r) n
def sGapsR : Spec := g4 fun d1 d2 d3 d4 P n => ∃ A B C e f g h p q r s, (d1 = .well ∧ d2 = kI A B C ∧ d3 = ld e f g h ∧ d4 = ld p q r s) ∧ n < 980000000 ∧ okI 31 A B C ∧ (s2q 22 10 e f g h ∧ s2q 22 10 p q r s) ∧ (e * h - f * g ≠ 0 ∧ p * s - q * r ≠ 0) ∧ ∀ n', n' ≤ n + 50 → P (.bl true) n'
theorem eZipLd {p q r s : Rat} {W : List D → Cr} : gZipS (ld p q r s) W = W [rwD [p, r], rwD [q, s]] := rfl
theorem eSeqLd {p q r s : Rat} {W : List D → Cr} : gSeq (ld p q r s) W = W [.tup [fr p, fr q], .tup [fr r, fr s]] := rfl
theorem dot2 {e f p r : Rat} : dotr [e, f] [p, r] = e * p + f * r := by unfold dotr; unfold dotr; unfold dotr; grind
theorem g1_mk {h : D → (D → Cr) → Cr} {a : D} {P : D → Cr} {n : Nat} (q : h a P n) : g1 h [a] P n := q
theorem whole3 {a b c : Rat} {k : Nat} {P : D → Cr} {n : Nat} (hk : k * 3 + 1 ≤ 5000) (hk2 : k ≤ 3000) (hs : ∀ q ∈ [a, b, c], Sz k q) (h : P (kI (wq [a, b, c] a) (wq [a, b, c] b) (wq [a, b, c] c)) n) : sWholeQ [tr a b c] P n :=
  ⟨[a, b, c], k, rfl, hk, hk2, by simp, hs, h⟩
theorem low_mk {a b c : Int} {P : D → Cr} {n : Nat} (nz : ¬ (a = 0 ∧ b = 0 ∧ c = 0)) (ba : Bt 8000 a) (bb : Bt 8000 b) (bc : Bt 8000 c) (h : P (kd (a : Rat) (b : Rat) (c : Rat)) n) : sLowT [kI a b c] P n := ⟨⟨nz, ba, bb, bc⟩, h⟩
theorem low3_mk {a b c : Int} {P : D → Cr} {n : Nat} (nz : ¬ (a = 0 ∧ b = 0 ∧ c = 0)) (ba : Bt 8000 a) (bb : Bt 8000 b) (bc : Bt 8000 c) (h : P (kd (a : Rat) (b : Rat) (c : Rat)) n) : sLow3 [.int a, .int b, .int c] P n := ⟨⟨nz, ba, bb, bc⟩, h⟩
/-! ### sizes of whole numbers, without a thought -/
class BtP (x : Int) (a : outParam Nat) : Prop where
  b : Bt a x
instance {x y : Int} {a b : Nat} [h : BtP x a] [k : BtP y b] : BtP (x * y) (a + b) := ⟨h.b.mul k.b⟩
instance {x y : Int} {a b : Nat} [h : BtP x a] [k : BtP y b] : BtP (x + y) (max a b + 1) := ⟨h.b.add k.b⟩
instance {x y : Int} {a b : Nat} [h : BtP x a] [k : BtP y b] : BtP (x - y) (max a b + 1) := ⟨h.b.sub k.b⟩
instance {x : Int} {a : Nat} [h : BtP x a] : BtP (-x) a := ⟨h.b.neg⟩
instance {q : Rat} {a b : Nat} [h : SzP q a b] : BtP q.num a := ⟨h.sz.1⟩
instance {q : Rat} {a b : Nat} [h : SzP q a b] : BtP ((q.den : Nat) : Int) b := ⟨by unfold Bt; rw [Int.natAbs_natCast]; exact h.sz.2⟩
instance : BtP (0 : Int) 1 := ⟨by unfold Bt; decide⟩
instance : BtP (1 : Int) 1 := ⟨by unfold Bt; decide⟩
instance : BtP (2 : Int) 2 := ⟨by unfold Bt; decide⟩
instance : BtP (3 : Int) 2 := ⟨by unfold Bt; decide⟩
instance : BtP (4 : Int) 3 := ⟨by unfold Bt; decide⟩
instance : BtP (5 : Int) 3 := ⟨by unfold Bt; decide⟩
theorem cmc {x y : Int} {a b : Nat} [h : BtP x a] [k : BtP y b] (l : a + b ≤ 900000) : CMulW x y := cm h.b k.b l
theorem btc {x : Int} {a n : Nat} [h : BtP x a] (l : a ≤ n) : Bt n x := h.b.mono l
theorem nd_inv {q : Rat} (h : q ≠ 0) : (((q.den : Nat) : Int) : Rat) / (q.num : Rat) = q⁻¹ := by
  have h1 := q_eq q
  have h2 := den_ne q
  have h3 : (q.num : Rat) ≠ 0 := fun e => h (by rw [h1, e, Rat.div_def, Rat.zero_mul])
  grind
theorem nd_inv' {q : Rat} (h : q ≠ 0) : ((0 - ((q.den : Nat) : Int) : Int) : Rat) / ((0 - q.num : Int) : Rat) = q⁻¹ := by
  rw [← nd_inv h, Rat.intCast_sub, Rat.intCast_sub, lit0]
  have h1 := q_eq q
  have h2 := den_ne q
  have h3 : (q.num : Rat) ≠ 0 := fun e => h (by rw [h1, e, Rat.div_def, Rat.zero_mul])
  grind
/-- a lead over one bottom, as the laws make it -/
theorem wl_is (e f g h : Rat) : ∃ S : Rat, 0 < S ∧ (((e.num * ((f.den : Nat) : Int) * ((g.den : Nat) : Int) * ((h.den : Nat) : Int) : Int) : Rat) = S * e ∧ ((f.num * ((e.den : Nat) : Int) * ((g.den : Nat) : Int) * ((h.den : Nat) : Int) : Int) : Rat) = S * f ∧ ((g.num * ((e.den : Nat) : Int) * ((f.den : Nat) : Int) * ((h.den : Nat) : Int) : Int) : Rat) = S * g ∧ ((h.num * ((e.den : Nat) : Int) * ((f.den : Nat) : Int) * ((g.den : Nat) : Int) : Int) : Rat) = S * h) ∧ ((((e.den : Nat) : Int) * ((f.den : Nat) : Int) * ((g.den : Nat) : Int) * ((h.den : Nat) : Int) : Int) : Rat) = S := by
  refine ⟨((((e.den : Nat) : Int) : Rat) * ((f.den : Nat) : Int) * ((g.den : Nat) : Int) * ((h.den : Nat) : Int)), Rat.mul_pos (Rat.mul_pos (Rat.mul_pos (den_pos e) (den_pos f)) (den_pos g)) (den_pos h), ?_, by simp only [Rat.intCast_mul]⟩
  have h1 := q_eq e
  have h2 := q_eq f
  have h3 := q_eq g
  have h4 := q_eq h
  have n1 := den_ne e
  have n2 := den_ne f
  have n3 := den_ne g
  have n4 := den_ne h
  simp only [Rat.intCast_mul]
  refine ⟨?_, ?_, ?_, ?_⟩ <;> grind
theorem root_is {lo N k : Int} (h0 : 0 ≤ lo) (h1 : lo * lo ≤ N) (h2 : N < (lo + 1) * (lo + 1)) (hk : k * k = N) : lo * lo = N := by
  have key : ∀ a : Int, 0 ≤ a → a * a = N → lo * lo = N := fun a a0 ha => by
    by_cases h3 : lo + 1 ≤ a
    · have := Int.mul_le_mul h3 h3 (by omega) a0
      omega
    · by_cases h4 : a + 1 ≤ lo
      · have := Int.mul_le_mul h4 h4 (by omega) h0
        have e : (a + 1) * (a + 1) = a * a + 2 * a + 1 := by grind
        omega
      · have : a = lo := by omega
        rw [← this]; exact ha
  rcases Int.le_total 0 k with h | h
  · exact key k h hk
  · exact key (-k) (by omega) (by rw [Int.neg_mul_neg]; exact hk)
theorem det_num {e f g h : Rat} : (e.num * h.num * ((f.den : Nat) : Int) * ((g.den : Nat) : Int) = f.num * g.num * ((e.den : Nat) : Int) * ((h.den : Nat) : Int)) ↔ e * h - f * g = 0 := by
  rw [← Rat.intCast_inj]
  simp only [Rat.intCast_mul]
  have h1 := q_eq e
  have h2 := q_eq f
  have h3 := q_eq g
  have h4 := q_eq h
  have n1 := den_ne e
  have n2 := den_ne f
  have n3 := den_ne g
  have n4 := den_ne h
  constructor <;> intro hh <;> grind
instance : SzP (1 / 2 : Rat) 1 2 := ⟨by unfold Sz2; decide +kernel⟩
instance : SzP (-1 / 2 : Rat) 1 2 := ⟨by unfold Sz2; decide +kernel⟩
theorem fr_z : D.tup [.int 0, .int 1] = fr 0 := rfl
theorem fr_o : D.tup [.int 1, .int 1] = fr 1 := rfl
theorem fr_mh : D.tup [.int (-1), .int 2] = fr (-1 / 2) := by
  unfold fr
  rw [show (-1 / 2 : Rat).num = -1 by decide +kernel, show (-1 / 2 : Rat).den = 2 by decide +kernel]; rfl
theorem s2q_mk {a b c d : Nat} {e f g h : Rat} [x1 : SzP e a b] [x2 : SzP f a b] [x3 : SzP g a b] [x4 : SzP h a b] (l : a ≤ c ∧ b ≤ d) : s2q c d e f g h := ⟨s2c l, s2c l, s2c l, s2c l⟩
theorem Sz2.mono {a b c d : Nat} {q : Rat} (h : Sz2 a b q) (l : a ≤ c ∧ b ≤ d) : Sz2 c d q :=
  ⟨Nat.lt_of_lt_of_le h.1 (Nat.pow_le_pow_right (by decide) l.1), Nat.lt_of_lt_of_le h.2 (Nat.pow_le_pow_right (by decide) l.2)⟩
theorem s2q.mono {a b c d : Nat} {e f g h : Rat} (q : s2q a b e f g h) (l : a ≤ c ∧ b ≤ d) : s2q c d e f g h := ⟨q.1.mono l, q.2.1.mono l, q.2.2.1.mono l, q.2.2.2.mono l⟩
/-- a cut whose middle simp does not see -/
theorem mCut_J {m n : MS} {u : Tag m n} {D : DE} {l : Sl} {c : Nat} (Mid : Sl → Cr) (h1 : ∀ J : Sl → Cr, (∀ l c, Mid l c → J l c) → m { D with nx := J } l c) (h2 : ∀ l' c', Mid l' c' → n D l' c') : mCutT m n u D l c := ⟨Mid, h1 Mid fun _ _ h => h, h2⟩
theorem mCut_J0 {m n : MS} {D : DE} {l : Sl} {c : Nat} (Mid : Sl → Cr) (h1 : ∀ J : Sl → Cr, (∀ l c, Mid l c → J l c) → m { D with nx := J } l c) (h2 : ∀ l' c', Mid l' c' → n D l' c') : mCut m n D l c := ⟨Mid, h1 Mid fun _ _ h => h, h2⟩
theorem mFor_J {g : MG} {mb : MS} {D : DE} {l : Sl} {c : Nat} {ds : List DJ.D} (I : Nat → Sl → Cr) (h0 : I 0 l c)
    (hs : ∀ (J : Sl → Cr) (i : Nat) (d : DJ.D) (l' : Sl) (c' : Nat), ds[i]? = some d → I i l' c' → (∀ l c, I (i + 1) l c → J l c) → g d l' (fun l2 => mb { nx := J, ct := J, bk := D.nx, rt := D.rt, rl := D.rl } l2) c')
    (hd : ∀ l' c', I ds.length l' c' → D.nx l' c') :
    ∃ I : Nat → Sl → Cr, I 0 l c ∧ (∀ i d l' c', ds[i]? = some d → I i l' c' → g d l' (fun l2 => mb { nx := I (i + 1), ct := I (i + 1), bk := D.nx, rt := D.rt, rl := D.rl } l2) c') ∧ ∀ l' c', I ds.length l' c' → D.nx l' c' :=
  ⟨I, h0, fun i d l' c' h1 h2 => hs (I (i + 1)) i d l' c' h1 h2 fun _ _ h => h, hd⟩
/-! ### leads one behind another -/
section
variable {a b c e f g h p q r s : Rat}
theorem lA_comp : lA (lA a b c p q) (lB a b c p q r s) (lA a b c r s) e f = lA a b c (e * p + f * r) (e * q + f * s) := by unfold lA lB; grind
theorem lB_comp : lB (lA a b c p q) (lB a b c p q r s) (lA a b c r s) e f g h = lB a b c (e * p + f * r) (e * q + f * s) (g * p + h * r) (g * q + h * s) := by unfold lA lB; grind
theorem lA_l : lA a b c 1 0 = a := by unfold lA; grind
theorem lA_r : lA a b c 0 1 = c := by unfold lA; grind
theorem lB_1 : lB a b c 1 0 0 1 = b := by unfold lB; grind
theorem back1 (hd : p * s - q * r ≠ 0) : (s / (p * s - q * r) * p + -q / (p * s - q * r) * r = 1 ∧ s / (p * s - q * r) * q + -q / (p * s - q * r) * s = 0) ∧ -r / (p * s - q * r) * p + p / (p * s - q * r) * r = 0 ∧ -r / (p * s - q * r) * q + p / (p * s - q * r) * s = 1 := by
  have := Rat.mul_inv_cancel _ hd
  simp only [Rat.div_def]
  generalize (p * s - q * r)⁻¹ = D at *
  refine ⟨⟨?_, ?_⟩, ?_, ?_⟩ <;> grind
theorem back_det (hd : p * s - q * r ≠ 0) : s / (p * s - q * r) * (p / (p * s - q * r)) - -q / (p * s - q * r) * (-r / (p * s - q * r)) ≠ 0 := by
  have := Rat.mul_inv_cancel _ hd
  simp only [Rat.div_def]
  intro h
  generalize hD : (p * s - q * r)⁻¹ = D at *
  have h2 : D = 0 := by grind
  rw [h2, Rat.mul_zero] at this
  exact absurd this (by decide)
theorem lA_back (hd : p * s - q * r ≠ 0) : lA (lA a b c p q) (lB a b c p q r s) (lA a b c r s) (s / (p * s - q * r)) (-q / (p * s - q * r)) = a := by
  obtain ⟨⟨e1, e2⟩, e3, e4⟩ := back1 hd
  rw [lA_comp, e1, e2, lA_l]
theorem lA_back2 (hd : p * s - q * r ≠ 0) : lA (lA a b c p q) (lB a b c p q r s) (lA a b c r s) (-r / (p * s - q * r)) (p / (p * s - q * r)) = c := by
  obtain ⟨⟨e1, e2⟩, e3, e4⟩ := back1 hd
  rw [lA_comp, e3, e4, lA_r]
theorem lB_back (hd : p * s - q * r ≠ 0) : lB (lA a b c p q) (lB a b c p q r s) (lA a b c r s) (s / (p * s - q * r)) (-q / (p * s - q * r)) (-r / (p * s - q * r)) (p / (p * s - q * r)) = b := by
  obtain ⟨⟨e1, e2⟩, e3, e4⟩ := back1 hd
  rw [lB_comp, e1, e2, e3, e4, lB_1]
theorem tL_back (hd : p * s - q * r ≠ 0) : tL (lA a b c p q) (lB a b c p q r s) (lA a b c r s) (s / (p * s - q * r)) (-q / (p * s - q * r)) (-r / (p * s - q * r)) (p / (p * s - q * r)) = tr a b c := by
  unfold tL
  rw [lA_back hd, lA_back2 hd, lB_back hd]
theorem back_back (hd : e * h - f * g ≠ 0) : ldb (h / (e * h - f * g)) (-f / (e * h - f * g)) (-g / (e * h - f * g)) (e / (e * h - f * g)) = ld e f g h := by
  have hi := Rat.mul_inv_cancel _ hd
  have d2 : h / (e * h - f * g) * (e / (e * h - f * g)) - -f / (e * h - f * g) * (-g / (e * h - f * g)) = (e * h - f * g)⁻¹ := by
    simp only [Rat.div_def]
    generalize (e * h - f * g)⁻¹ = D at *
    grind
  unfold ldb
  rw [d2]
  simp only [Rat.div_def, Rat.inv_inv]
  generalize (e * h - f * g)⁻¹ = D at *
  generalize e * h - f * g = E at *
  rw [ld_inj]
  refine ⟨⟨?_, ?_⟩, ?_, ?_⟩ <;> grind
theorem lA_nn (a0 : 0 ≤ a) (c0 : 0 ≤ c) (hb : b * b ≤ a * c) : 0 ≤ lA a b c e f := by
  unfold lA
  by_cases h : a = 0
  · have hb0 : b = 0 := by
      have h2 : b * b ≤ 0 := by rw [h] at hb; grind
      have h3 := sq_nnq b
      have : b * b = 0 := by grind
      rcases Rat.mul_eq_zero.mp this with h | h <;> exact h
    have := Rat.mul_nonneg (sq_nnq f) c0
    rw [h, hb0]; grind
  · have hp : 0 < a := by grind
    refine Rat.le_of_mul_le_mul_left (c := a) ?_ hp
    have h1 := sq_nnq (e * a + f * b)
    have h2 := Rat.mul_nonneg (sq_nnq f) (show 0 ≤ a * c - b * b by grind)
    grind
theorem gapq_led (hd : e * h - f * g ≠ 0) (hq : gapq a b c) : gapq (lA a b c e f) (lB a b c e f g h) (lA a b c g h) := by
  obtain ⟨a0, c0, ac, bb⟩ := hq
  have h1 := lA_nn (e := e) (f := f) a0 c0 bb
  have h2 := lA_nn (e := g) (f := h) a0 c0 bb
  have h3 : lB a b c e f g h * lB a b c e f g h ≤ lA a b c e f * lA a b c g h := by
    have e1 := ld_disc (x := a) (y := b) (z := c) (e := e) (f := f) (g := g) (h := h)
    have e2 := Rat.mul_nonneg (sq_nnq (e * h - f * g)) (show 0 ≤ a * c - b * b by grind)
    grind
  refine ⟨h1, h2, fun z => ac ?_, h3⟩
  have z1 : lA a b c e f = 0 := by grind
  have z2 : lA a b c g h = 0 := by grind
  have z3 : lB a b c e f g h = 0 := by
    rw [z1, Rat.zero_mul] at h3
    have := sq_nnq (lB a b c e f g h)
    have : lB a b c e f g h * lB a b c e f g h = 0 := by grind
    rcases Rat.mul_eq_zero.mp this with h | h <;> exact h
  have k1 := lA_back (a := a) (b := b) (c := c) hd
  have k2 := lA_back2 (a := a) (b := b) (c := c) hd
  rw [z1, z2, z3] at k1 k2
  rw [← k1, ← k2]
  unfold lA
  grind
end
section
variable {A B C : Int} {a b c e f g h k : Rat}
theorem kL_scale {a' b' c' : Rat} (hk : 0 < k) (hd : e * h - f * g ≠ 0) (hq : 0 < b * b - a * c) (e1 : a' = k * a) (e2 : b' = k * b) (e3 : c' = k * c) : kL a' b' c' e f g h = kL a b c e f g h := by
  have hp : 0 < lB a b c e f g h * lB a b c e f g h - lA a b c e f * lA a b c g h := by
    rw [ld_disc]; exact Rat.mul_pos (qsq_pos hd) hq
  unfold kL
  exact kd_eq hk (disc_nz hp) (by rw [e1, e2, e3]; unfold lA; grind) (by rw [e1, e2, e3]; unfold lB; grind) (by rw [e1, e2, e3]; unfold lA; grind)
end
theorem rep3 {a : D} : (List.replicate (3 : Nat) [a]).flatten = [a, a, a] := rfl
theorem rep4 {a : D} : (List.replicate (4 : Nat) [a]).flatten = [a, a, a, a] := rfl
/-- a whole number that is the square of a fraction is one of a whole number -/
theorem int_sq {N : Int} {r : Rat} (h : (N : Rat) = r * r) : ∃ k : Int, k * k = N := by
  have h1 := q_eq r
  have h2 := den_ne r
  have e : (N * (((r.den : Nat) : Int) * ((r.den : Nat) : Int)) : Int) = r.num * r.num := by
    rw [← Rat.intCast_inj]
    simp only [Rat.intCast_mul]
    rw [h]
    grind
  have hd : r.den ∣ r.num.natAbs * r.num.natAbs := by
    have e2 := congrArg Int.natAbs e
    simp only [Int.natAbs_mul, Int.natAbs_natCast] at e2
    exact ⟨N.natAbs * r.den, by rw [← e2]; ac_rfl⟩
  have hc : Nat.Coprime r.den r.num.natAbs := Nat.Coprime.symm r.reduced
  have h3 : r.den ∣ r.num.natAbs := hc.dvd_of_dvd_mul_left hd
  have h4 : r.den = 1 := by
    have := Nat.dvd_gcd h3 (Nat.dvd_refl r.den)
    rw [show Nat.gcd r.num.natAbs r.den = 1 from r.reduced] at this
    exact Nat.dvd_one.mp this
  refine ⟨r.num, ?_⟩
  rw [← e, h4]; simp
theorem Sz2.inv {a b : Nat} {q : Rat} (h : Sz2 a b q) (hq : q ≠ 0) : Sz2 b a q⁻¹ := by
  have h3 := num_ne hq
  rw [← nd_inv hq]
  exact Sz2.div h3 (by rw [Int.natAbs_natCast]; exact h.2) h.1
theorem back_sz {p q r s : Rat} (h : s2q 22 10 p q r s) (hd : p * s - q * r ≠ 0) : s2q 100 100 (s / (p * s - q * r)) (-q / (p * s - q * r)) (-r / (p * s - q * r)) (p / (p * s - q * r)) := by
  haveI : SzP p 22 10 := ⟨h.1⟩
  haveI : SzP q 22 10 := ⟨h.2.1⟩
  haveI : SzP r 22 10 := ⟨h.2.2.1⟩
  haveI : SzP s 22 10 := ⟨h.2.2.2⟩
  have hi : Sz2 40 65 (p * s - q * r)⁻¹ := Sz2.inv (s2c (by decide)) hd
  simp only [Rat.div_def]
  generalize (p * s - q * r)⁻¹ = D at *
  haveI : SzP D 40 65 := ⟨hi⟩
  exact ⟨s2c (by decide), s2c (by decide), s2c (by decide), s2c (by decide)⟩
theorem holds_led {A B C x y z e f g h A1 B1 C1 k : Rat} (k0 : 0 < k) (hd : e * h - f * g ≠ 0) (q1 : A1 = k * lA A B C e f) (q2 : B1 = k * lB A B C e f g h) (q3 : C1 = k * lA A B C g h) :
    decide (A1 * lA x y z g h - 2 * B1 * lB x y z e f g h + C1 * lA x y z e f ≤ 0) = decide (A * z - 2 * B * y + C * x ≤ 0) := by
  refine decide_eq_decide.mpr ?_
  have e1 : A1 * lA x y z g h - 2 * B1 * lB x y z e f g h + C1 * lA x y z e f = k * (lA A B C e f * lA x y z g h - 2 * lB A B C e f g h * lB x y z e f g h + lA A B C g h * lA x y z e f) := by rw [q1, q2, q3]; grind
  rw [e1, pos_scale k0, form_led_iff hd]
theorem lA_lin {a b c e f k : Rat} : lA (k * a) (k * b) (k * c) e f = k * lA a b c e f := by unfold lA; grind
theorem lB_lin {a b c e f g h k : Rat} : lB (k * a) (k * b) (k * c) e f g h = k * lB a b c e f g h := by unfold lB; grind
section
variable {A B C : Int} {n : Nat} {A1 B1 C1 e f g h p q r s k t : Rat}
theorem kL_back (hk : okI n A B C) (hd : e * h - f * g ≠ 0) (k0 : 0 < k) (q1 : A1 = k * lA A B C e f) (q2 : B1 = k * lB A B C e f g h) (q3 : C1 = k * lA A B C g h) :
    kL A1 B1 C1 (h / (e * h - f * g)) (-f / (e * h - f * g)) (-g / (e * h - f * g)) (e / (e * h - f * g)) = kI A B C := by
  rw [← hk.kd]
  unfold kL
  rw [q1, q2, q3, lA_lin, lA_lin, lB_lin, lA_back hd, lA_back2 hd, lB_back hd]
  exact kd_eq k0 (disc_nz hk.dR) rfl rfl rfl
theorem ldp_det (h1 : e * h - f * g ≠ 0) (h2 : p * s - q * r ≠ 0) : (e * p + f * r) * (g * q + h * s) - (e * q + f * s) * (g * p + h * r) ≠ 0 := by
  have e0 : (e * p + f * r) * (g * q + h * s) - (e * q + f * s) * (g * p + h * r) = (e * h - f * g) * (p * s - q * r) := by grind
  rw [e0]
  intro h0
  rcases Rat.mul_eq_zero.mp h0 with h0 | h0
  · exact h1 h0
  · exact h2 h0
theorem kL_comp (hk : okI n A B C) (h1 : e * h - f * g ≠ 0) (h2 : p * s - q * r ≠ 0) (k0 : 0 < k) (q1 : A1 = k * lA A B C p q) (q2 : B1 = k * lB A B C p q r s) (q3 : C1 = k * lA A B C r s) :
    kL A1 B1 C1 e f g h = kL A B C (e * p + f * r) (e * q + f * s) (g * p + h * r) (g * q + h * s) := by
  have hp : 0 < lB (A : Rat) B C (e * p + f * r) (e * q + f * s) (g * p + h * r) (g * q + h * s) * lB (A : Rat) B C (e * p + f * r) (e * q + f * s) (g * p + h * r) (g * q + h * s) - lA (A : Rat) B C (e * p + f * r) (e * q + f * s) * lA (A : Rat) B C (g * p + h * r) (g * q + h * s) := by
    rw [ld_disc]; exact Rat.mul_pos (qsq_pos (ldp_det h1 h2)) hk.dR
  unfold kL
  rw [q1, q2, q3, lA_lin, lA_lin, lB_lin, lA_comp, lA_comp, lB_comp]
  exact kd_eq k0 (disc_nz hp) rfl rfl rfl
theorem kL_wide (hk : okI n A B C) (hd : e * h - f * g ≠ 0) (t0 : t ≠ 0) : kL A B C (t * e) (t * f) (t * g) (t * h) = kL A B C e f g h := by
  have hp : 0 < lB (A : Rat) B C e f g h * lB (A : Rat) B C e f g h - lA (A : Rat) B C e f * lA (A : Rat) B C g h := by
    rw [ld_disc]; exact Rat.mul_pos (qsq_pos hd) hk.dR
  unfold kL
  exact kd_eq (qsq_pos t0) (disc_nz hp) lA_scale lB_scale lA_scale
end
theorem fr_m23 : D.tup [.int (-2), .int 3] = fr (-2 / 3) := by
  unfold fr
  rw [show (-2 / 3 : Rat).num = -2 by decide +kernel, show (-2 / 3 : Rat).den = 3 by decide +kernel]; rfl
theorem rb4 {a b c d : Bool} (P : D → Cr) (n : Nat) : gRepr (.lst [.bl a, .bl b, .bl c, .bl d]) P n = P (.str (D.lst [.bl a, .bl b, .bl c, .bl d]).py.shown) n := repr_bls (bs := [a, b, c, d]) (by simp) P n
theorem rb3 {a b c : Bool} (P : D → Cr) (n : Nat) : gRepr (.lst [.bl a, .bl b, .bl c]) P n = P (.str (D.lst [.bl a, .bl b, .bl c]).py.shown) n := repr_bls (bs := [a, b, c]) (by simp) P n
end DJ

set_option Elab.async false
set_option linter.all false
set_option maxRecDepth 100000
set_option maxHeartbeats 1000000
namespace DJ
open PySem PySem.Spec PyProof.Rows L2 GxR GX
/-! ### roots -/
theorem isq_of {N : Int} {r : Rat} (h : (N : Rat) = r * r) : ∃ k : Int, (k : Rat) = qabs r ∧ 0 ≤ k ∧ k * k = N ∧ ((Float64.isqrt N.toNat : Nat) : Int) = k := by
  obtain ⟨k, hk⟩ := int_sq h
  have hq : (k : Rat) * k = r * r := by rw [← h, ← hk, Rat.intCast_mul]
  have key : ∀ k : Int, 0 ≤ k → k * k = N → (k : Rat) * k = r * r → (k : Rat) = qabs r ∧ 0 ≤ k ∧ k * k = N ∧ ((Float64.isqrt N.toNat : Nat) : Int) = k := by
    intro k k0 hk hq
    have kR : (0 : Rat) ≤ k := Rat.intCast_nonneg.mpr k0
    refine ⟨?_, k0, hk, ?_⟩
    · have : (k - r) * (k + r) = 0 := by grind
      rcases Rat.mul_eq_zero.mp this with h | h
      · unfold qabs; split <;> grind
      · unfold qabs; split <;> grind
    · obtain ⟨h1, h2⟩ := PySem.Float64.isqrt_spec N.toNat
      obtain ⟨j, rfl⟩ := Int.eq_ofNat_of_zero_le k0
      have e : N.toNat = j * j := by rw [← hk, ← Int.natCast_mul, Int.toNat_natCast]
      rw [e] at h1 h2 ⊢
      generalize Float64.isqrt (j * j) = i at *
      have a1 : i ≤ j := Nat.le_of_not_lt fun hh => by
        have := Nat.mul_le_mul (show j + 1 ≤ i from hh) (show j + 1 ≤ i from hh)
        have e2 : (j + 1) * (j + 1) = j * j + 2 * j + 1 := by grind
        omega
      have a2 : j ≤ i := Nat.le_of_not_lt fun hh => by
        have := Nat.mul_le_mul (show i + 1 ≤ j from hh) (show i + 1 ≤ j from hh)
        omega
      omega
  rcases Int.le_total 0 k with h0 | h0
  · exact ⟨k, key k h0 hk hq⟩
  · exact ⟨-k, key (-k) (by omega) (by rw [Int.neg_mul_neg]; exact hk) (by rw [Rat.intCast_neg]; grind)⟩
/-! ### rows scaled, moved, exchanged -/
def scl (f : Rat) (x : List Rat) : List Rat := x.map (f * ·)
theorem sc_len {f : Rat} {x : List Rat} : (scl f x).length = x.length := by unfold scl; rw [List.length_map]
theorem comb_sc {f : Rat} : ∀ {x y : List Rat}, comb 1 (-1) (scl f x) (scl f y) = scl f (comb 1 (-1) x y)
  | [], _ => rfl
  | _ :: _, [] => rfl
  | x :: xs, y :: ys => by
    have ih := comb_sc (f := f) (x := xs) (y := ys)
    unfold comb scl at ih ⊢
    rw [List.map_cons, List.map_cons, List.zipWith_cons_cons, List.zipWith_cons_cons, List.map_cons, ih]
    congr 1
    grind
theorem dot_sc {f : Rat} : ∀ {p q : List Rat}, dotr (scl f p) (scl f q) = f * f * dotr p q
  | [], _ => by unfold scl; rw [List.map_nil]; unfold dotr; grind
  | _ :: _, [] => by unfold scl; rw [List.map_cons, List.map_nil]; unfold dotr; grind
  | p :: ps, q :: qs => by
    have ih := dot_sc (f := f) (p := ps) (q := qs)
    unfold scl at ih ⊢
    rw [List.map_cons, List.map_cons, dotr, dotr, ih]
    grind
theorem sc_inj {f : Rat} (hf : f ≠ 0) : ∀ {x y : List Rat}, scl f x = scl f y → x = y
  | [], [], _ => rfl
  | [], _ :: _, h => by unfold scl at h; cases h
  | _ :: _, [], h => by unfold scl at h; cases h
  | x :: xs, y :: ys, h => by
    unfold scl at h
    rw [List.map_cons, List.map_cons] at h
    obtain ⟨h1, h2⟩ := List.cons.inj h
    have e := sc_inj hf (x := xs) (y := ys) h2
    have h3 : f * (x - y) = 0 := by
      have : f * x = f * y := h1
      grind
    rcases Rat.mul_eq_zero.mp h3 with h3 | h3
    · exact absurd h3 hf
    · rw [e]; congr 1; grind
theorem comb_move {f : Rat} : ∀ {x y m : List Rat}, x.length = m.length → y.length = m.length → comb 1 (-1) (comb 1 f x m) (comb 1 f y m) = comb 1 (-1) x y
  | [], [], [], _, _ => rfl
  | x :: xs, y :: ys, m :: ms, h1, h2 => by
    have ih := comb_move (f := f) (x := xs) (y := ys) (m := ms) (by simpa using h1) (by simpa using h2)
    unfold comb at ih ⊢
    rw [List.zipWith_cons_cons, List.zipWith_cons_cons, List.zipWith_cons_cons, List.zipWith_cons_cons, ih]
    congr 1
    grind
  | [], _ :: _, _, h1, h2 => by simp at h1 h2; omega
  | _ :: _, [], _, h1, h2 => by simp at h1 h2; omega
  | [], [], _ :: _, h1, _ => by simp at h1
  | _ :: _, _ :: _, [], h1, _ => by simp at h1
theorem comb_neg : ∀ {x y : List Rat}, comb 1 (-1) y x = scl (-1) (comb 1 (-1) x y)
  | [], [] => rfl
  | [], _ :: _ => rfl
  | _ :: _, [] => rfl
  | x :: xs, y :: ys => by
    have ih := comb_neg (x := xs) (y := ys)
    unfold comb scl at ih ⊢
    rw [List.zipWith_cons_cons, List.zipWith_cons_cons, List.map_cons, ih]
    congr 1
    grind
theorem gp_sc {f : Rat} {x u y v : List Rat} : gp (scl f x) (scl f u) (scl f y) (scl f v) = tr (f * f * dotr (comb 1 (-1) x y) (comb 1 (-1) x y)) (f * f * dotr (comb 1 (-1) x y) (comb 1 (-1) u v)) (f * f * dotr (comb 1 (-1) u v) (comb 1 (-1) u v)) := by
  unfold gp; rw [comb_sc, comb_sc, dot_sc, dot_sc, dot_sc]
theorem gp_ex {x u y v : List Rat} : gp y v x u = gp x u y v := by
  unfold gp
  rw [comb_neg (x := x) (y := y), comb_neg (x := u) (y := v), dot_sc, dot_sc, dot_sc]
  congr 1 <;> grind
theorem gp_move {f : Rat} {x u y v m : List Rat} (h1 : x.length = m.length) (h2 : y.length = m.length) : gp (comb 1 f x m) u (comb 1 f y m) v = gp x u y v := by
  unfold gp; rw [comb_move h1 h2]
theorem gp_move2 {f : Rat} {x u y v m : List Rat} (h1 : u.length = m.length) (h2 : v.length = m.length) : gp x (comb 1 f u m) y (comb 1 f v m) = gp x u y v := by
  unfold gp; rw [comb_move h1 h2]
theorem comb_inj {f : Rat} {x y m : List Rat} (h1 : x.length = m.length) (h2 : y.length = m.length) (h : comb 1 f x m = comb 1 f y m) : x = y := by
  refine List.ext_getElem (by omega) fun i i1 i2 => ?_
  have k1 : (comb 1 f x m)[i]'(by rw [comb_len (by omega)]; omega) = (comb 1 f y m)[i]'(by rw [comb_len (by omega)]; omega) := by simp only [h]
  unfold comb at k1
  rw [List.getElem_zipWith, List.getElem_zipWith] at k1
  grind
theorem sc_sz {f : Rat} {x : List Rat} {a b c d : Nat} [hf : SzP f c d] (h : Rz a b x) : Rz (c + a) (d + b) (scl f x) := by
  intro r hr
  unfold scl at hr
  obtain ⟨q, hq, rfl⟩ := List.mem_map.mp hr
  exact hf.sz.mul (h q hq)
/-! ### one element of a row changed -/
theorem eIxRn {qs : List Rat} {i : Nat} {q : Rat} (h : qs[i]? = some q) {P : D → Cr} : gIx (rwD qs) (.int (i : Int)) P = P (fr q) := by
  unfold rwD
  have e : atI (qs.map fr) (i : Int) = some (fr q) := atI_nat (by rw [List.getElem?_map, h]; rfl)
  exact funext fun n => propext ⟨fun ⟨d, e2, h⟩ => by rw [e] at e2; cases e2; exact h, fun h => ⟨_, e, h⟩⟩
theorem eSlL {qs : List Rat} {i : Nat} (h : i ≤ qs.length) {P : D → Cr} : gSl (rwD qs) none (some (i : Int)) P = P (rwD (qs.take i)) := by
  unfold rwD
  rw [eSl1]
  congr 2
  unfold cutD
  rw [HT.sIx_nat, List.length_map, show HT.sIx qs.length 0 none = 0 from rfl, List.drop_zero, Nat.sub_zero, Nat.min_eq_left h, List.map_take]
theorem eSlRn {qs : List Rat} {i : Nat} (h : i ≤ qs.length) {P : D → Cr} : gSl (rwD qs) (some (i : Int)) none P = P (rwD (qs.drop i)) := by
  unfold rwD
  rw [eSl1]
  congr 2
  unfold cutD
  rw [HT.sIx_nat, List.length_map, show HT.sIx qs.length qs.length none = qs.length from rfl, Nat.min_eq_left h, ← List.map_drop]
  exact List.take_of_length_le (by rw [List.length_map, List.length_drop]; omega)
theorem eAddRR {qs rs : List Rat} {P : D → Cr} : gAdd (rwD qs) (rwD rs) P = fun n => qs.length + rs.length ≤ 100000 ∧ P (rwD (qs ++ rs)) n := by
  unfold rwD
  rw [eAdd2, List.map_append]
  refine funext fun n => propext ⟨fun h => ⟨by have := h.1; simp at this; omega, h.2⟩, fun h => ⟨by have := h.1; simp; omega, h.2⟩⟩
theorem rw1_eta {q : Rat} : D.tup [fr q] = rwD [q] := rfl
theorem rw3_eta {a b c : Rat} : tr a b c = rwD [a, b, c] := rfl
def sRowD4 : Spec := fun ds P n => ∃ k : Int, ds = [.well, .int k] ∧ 0 < k ∧ k ≤ 4 ∧ n < 990000000 ∧ ∀ (qs : List Rat) (n' : Nat), (qs.length : Int) = k → Rz 22 10 qs → n' ≤ n + 12 → P (rwD qs) n'
def sScaled : Spec := g2 fun d e P n => ∃ (f : Rat) (x : List Rat), (d = fr f ∧ e = rwD x) ∧ (x.length ≤ 20 ∧ Sz 500 f ∧ ∀ q ∈ x, Sz 500 q) ∧ P (rwD (scl f x)) n
def sMadeT : Spec := g2 fun d e P n => ∃ p t, (d = fr p ∧ e = fr t) ∧ P (ld p (-t) t p) n
def sTurnT : Spec := g2 fun d e P n => ∃ p t, (d = fr p ∧ e = fr t) ∧ (Sz 1000 p ∧ Sz 1000 t) ∧ P (ld p (-t) t p) n
def sTurnFor : Spec := g1 fun d P n => ∃ w p t, d = tr w (w * p) (w * (p * p + t * t)) ∧ (Sz 250 w ∧ Sz 250 (w * p) ∧ Sz 250 (w * (p * p + t * t))) ∧ 0 < w ∧ P (ld p (-(qabs t)) (qabs t) p) n
def sYes3 (k : Nat) : Spec := fun ds P n => ds = [.well] ∧ n < 980000000 ∧ ∀ n', n' ≤ n + k → P (.bl true) n'
theorem turned_gap {p t a b c d : Rat} : gp [a, b] [p * a + -t * b, t * a + p * b] [c, d] [p * c + -t * d, t * c + p * d] = tr ((a - c) * (a - c) + (b - d) * (b - d)) (((a - c) * (a - c) + (b - d) * (b - d)) * p) (((a - c) * (a - c) + (b - d) * (b - d)) * (p * p + t * t)) := by
  unfold gp comb
  simp only [List.zipWith_cons_cons, List.zipWith_nil_right, dot2, tr_inj]
  refine ⟨?_, ?_, ?_⟩ <;> grind
theorem set_split {v : List Rat} {j : Nat} {q : Rat} (h : j < v.length) : v.take j ++ [q] ++ v.drop (j + 1) = v.set j q := by
  rw [List.set_eq_take_append_cons_drop, if_pos h, List.append_assoc]; rfl
theorem fr_13 : D.tup [.int 1, .int 3] = fr (1 / 3) := by
  unfold fr
  rw [show (1 / 3 : Rat).num = 1 by decide +kernel, show (1 / 3 : Rat).den = 3 by decide +kernel]; rfl
theorem fr_m52 : D.tup [.int (-5), .int 2] = fr (-5 / 2) := by
  unfold fr
  rw [show (-5 / 2 : Rat).num = -5 by decide +kernel, show (-5 / 2 : Rat).den = 2 by decide +kernel]; rfl
theorem fr_21 : D.tup [.int 2, .int 1] = fr 2 := rfl
theorem fr_m1 : D.tup [.int (-1), .int 1] = fr (-1) := rfl
instance : SzP (1 / 3 : Rat) 1 2 := ⟨by unfold Sz2; decide +kernel⟩
theorem tt_shown : (D.lst [.bl true, .bl true]).py.shown = ("[True, True]" : Str) := by decide +kernel
end DJ

set_option maxHeartbeats 1000000
namespace KK
open PySem PySem.Spec PyProof.Rows L2 GxR GX DJ
abbrev PK := PySem.Challenge.pw_bringnear_k03_whole_gaps_of_pairs_and_tu
abbrev s__law_ratio : Stmt := topOf PK 44
abbrev s__law_plus : Stmt := topOf PK 45
abbrev s__law_times : Stmt := topOf PK 46
abbrev s__law_joined : Stmt := topOf PK 51
abbrev s__law_inner : Stmt := topOf PK 52
abbrev s__law_gap_between : Stmt := topOf PK 53
abbrev s__law_draw : Stmt := topOf PK 43
abbrev s__law_fraction : Stmt := topOf PK 47
abbrev s__law_row : Stmt := topOf PK 50
abbrev s__law_scaled : Stmt := topOf PK 54
abbrev s_is_whole : Stmt := topOf PK 10
abbrev s_is_fraction : Stmt := topOf PK 11
abbrev s_check_row : Stmt := topOf PK 14
abbrev s_ratio : Stmt := topOf PK 15
abbrev s_minus : Stmt := topOf PK 17
abbrev s_row_minus : Stmt := topOf PK 21
abbrev s_plus : Stmt := topOf PK 16
abbrev s_times : Stmt := topOf PK 18
abbrev s_dot : Stmt := topOf PK 20
abbrev s_gap_of : Stmt := topOf PK 35
abbrev s_are_fractions : Stmt := topOf PK 12
abbrev s_is_inside : Stmt := topOf PK 28
abbrev s_whole_row : Stmt := topOf PK 23
abbrev s_common_bottom : Stmt := topOf PK 22
abbrev s_whole_parts : Stmt := topOf PK 24
abbrev s_is_gap : Stmt := topOf PK 32
abbrev s__law_pairs_right : Stmt := topOf PK 55
abbrev s__law_lowest : Stmt := topOf PK 48
abbrev s__law_kind : Stmt := topOf PK 49
abbrev s__law_turned : Stmt := topOf PK 56
abbrev s_excess : Stmt := topOf PK 26
abbrev s_is_kind : Stmt := topOf PK 31
abbrev s_check_kind : Stmt := topOf PK 33
abbrev s_check_gap : Stmt := topOf PK 34
abbrev s_form : Stmt := topOf PK 27
abbrev s_holds : Stmt := topOf PK 36
abbrev s_opposite : Stmt := topOf PK 19
abbrev s_made_turn : Stmt := topOf PK 38
abbrev s_turn_for : Stmt := topOf PK 40
abbrev s_check_fraction : Stmt := topOf PK 13
abbrev s_turn_table : Stmt := topOf PK 39
abbrev s__law_turns_right : Stmt := topOf PK 57
abbrev s__law_right : Stmt := topOf PK 58
abbrev s__law_well : Stmt := topOf PK 42
abbrev s_law : Stmt := topOf PK 59
section
variable {P : Program} {w : World} {K : PySem.W.Frag} {mg : Str → Option Value} {base : Heap} {Tb : List Addr}
theorem hS__law_pairs_right : ∀ ds P n, (sYes3 100) ds P n → ds.length = 1 := (fun ds P n h => by obtain ⟨rfl, _⟩ := h; rfl)
theorem hS__law_turns_right : ∀ ds P n, (sYes3 60) ds P n → ds.length = 1 := (fun ds P n h => by obtain ⟨rfl, _⟩ := h; rfl)
theorem hS__law_right : ∀ ds P n, sRight ds P n → ds.length = 1 := (fun ds P n h => by obtain ⟨rfl, _⟩ := h; rfl)
theorem ok__law_ratio {c : Addr} (B : Bn mg) (DF : Df K mg "_law_ratio" s__law_ratio c) : Ok P w K mg base ⟨K, Tb⟩ "_law_ratio" ["_law_n", "_law_m"] 1 sRat := by
  have sc : FnScope ["_law_n", "_law_m", "_law_a", "_law_b"] ["_law_n", "_law_m"] (defScope s__law_ratio) := ⟨rfl, rfl, rfl, by decide +kernel, rfl, by decide +kernel, by decide +kernel⟩
  refine ok_D (N := ["_law_n", "_law_m", "_law_a", "_law_b"]) DF ⟨fun kV doc pm an cdv ct us hl => match us, hl with | [_, _], _ => rfl, fun kV doc pm an cdv ct p hp us hl => by simp only [kws, List.mem_cons, List.not_mem_nil, or_false] at hp; rcases hp with rfl | rfl <;> (match us, hl with | [_, _], _ => rfl)⟩ sc (fun ds P n h => by obtain ⟨_, _, rfl, _⟩ := g2_inv h; rfl) (fun A outer s H E wl f hr => (jss_cons (js_par (i := 2) (j := 3) rfl sc.nd rfl rfl (by decide) rfl rfl (je_callB d_abs rfl B.abs Bt'.abs (ja_cons (je_var (pv 0)) ja_nil)) (je_callB d_abs rfl B.abs Bt'.abs (ja_cons (je_var (pv 1)) ja_nil)) rfl) (jss_cut (js_while PassesOwn.never (jt_cmp d_gt (je_var (pv 3)) (je_int) (nomark _)) (jss_one (js_par (i := 2) (j := 3) rfl sc.nd rfl rfl (by decide) rfl rfl (je_var (pv 3)) (je_op d_mod (je_callTy d_int rfl B.int Bt'.int (ja_cons (je_var (pv 2)) ja_nil)) (je_var (pv 3))) rfl))) (jss_cons (js_set (i := 2) sc.nd rfl (by first | exact Or.inl rfl | exact Or.inr rfl) (je_if (jt_cmp d_gt (je_var (pv 1)) (je_int) (nomark _)) (je_var (pv 2)) (je_op d_sub (je_int) (je_var (pv 2))))) (jss_one (js_ret (je_tup (ja_cons (je_op d_fdiv (je_var (pv 0)) (je_var (pv 2))) (ja_cons (je_op d_fdiv (je_var (pv 1)) (je_var (pv 2))) ja_nil))))))))) ?_
  intro ds Pd n h
  replace h := rat_old h
  obtain ⟨a, b, rfl, hb, ha, hbb, hp⟩ := h
  unfold mCut mWhile
  simp only [mRet, mRetN, mRetL, mIfS, mSeq, mNx, mPass, mExpr, mAsg, gSet, mVar, mC, mOp, mUn, mTB, mNotT, mAndT, mOrT, mAnd, mOr, mNot, mIf, mCons, mNil, mTup, mLst, mCall, mCallK, mSl, mOSome, mONone, mPar, mPar3, eTupD, eConsD, eNilD, eAdd1, eAdd2, eAdd3, eSub, eMul1, eMul2, eFdiv, eMod, ePow, eNeg, eLt, eLe, eGt, eGe, eEq1, eEq2, eNe1, eNe2, eIx1, eIx2, eIx3, eIx4, eSl1, eSl2, eSl3, eLen1, eLen2, eLen3, eAbs, eIntC, eMax2, eMin2, eList1, eList2, eList3, eTuple1, eTuple2, eAll, eAny, eIsi, eGcd2, eGcd3, eLcm, eIsqrt, eDivmod, eOne, eTwo, eThree, eB, eInt, eSeq1, eSeq2, eSeq3, eRng1, eRng2, eIsN, eNotN, gWset, mSeqI, mRng1, mRng2, startS, wipeS, List.map_cons, List.map_nil, List.length_cons, List.length_nil, List.replicate, List.cons_append, List.nil_append, List.append_nil, List.set, List.getElem?_cons_zero, List.getElem?_cons_succ, Option.some.injEq, SV.val.injEq, SV.own.injEq, exists_eq_left', exists_eq_left, true_and, and_true, Nat.reduceAdd, Nat.reduceSub, Nat.zero_add, ite_cr, D.tup.injEq, D.int.injEq, D.bl.injEq, D.lst.injEq, D.str.injEq, List.cons.injEq, reduceCtorEq, if_true, if_false, ite_true, ite_false, Bool.not_true, Bool.not_false, Bool.false_eq_true, not_true, not_false, Bool.true_and, Bool.and_true, Bool.false_and, Bool.and_false, decide_eq_true_eq, ask_int, ask_bool, ask_tuple, ask_list, ask_str, isSub_tuple, isTup_tup, int2, int3, at0, at1, at2, at3, pow2]
  refine ⟨fun l c => ∃ x : Int, l = [some (SV.val (.int a)), some (SV.val (.int b)), some (SV.val (.int x)), some (SV.val (.int 0))] ∧ 0 ≤ x ∧ x.natAbs = Nat.gcd a.natAbs b.natAbs ∧ c = n,
    ⟨fun m l c => ∃ x y : Int, l = [some (SV.val (.int a)), some (SV.val (.int b)), some (SV.val (.int x)), some (SV.val (.int y))] ∧ 0 ≤ x ∧ 0 ≤ y ∧ Nat.gcd x.natAbs y.natAbs = Nat.gcd a.natAbs b.natAbs ∧ m = y.natAbs ∧ c = n,
    ⟨_, _, _, rfl, abs_of.1, abs_of.1, by rw [abs_of.2, abs_of.2], rfl, rfl⟩, ?_⟩, ?_⟩
  · rintro m l' u' ⟨x, y, rfl, x0, y0, hg, rfl, rfl⟩
    simp only [mRet, mRetN, mRetL, mIfS, mSeq, mNx, mPass, mExpr, mAsg, gSet, mVar, mC, mOp, mUn, mTB, mNotT, mAndT, mOrT, mAnd, mOr, mNot, mIf, mCons, mNil, mTup, mLst, mCall, mCallK, mSl, mOSome, mONone, mPar, mPar3, eTupD, eConsD, eNilD, eAdd1, eAdd2, eAdd3, eSub, eMul1, eMul2, eFdiv, eMod, ePow, eNeg, eLt, eLe, eGt, eGe, eEq1, eEq2, eNe1, eNe2, eIx1, eIx2, eIx3, eIx4, eSl1, eSl2, eSl3, eLen1, eLen2, eLen3, eAbs, eIntC, eMax2, eMin2, eList1, eList2, eList3, eTuple1, eTuple2, eAll, eAny, eIsi, eGcd2, eGcd3, eLcm, eIsqrt, eDivmod, eOne, eTwo, eThree, eB, eInt, eSeq1, eSeq2, eSeq3, eRng1, eRng2, eIsN, eNotN, gWset, mSeqI, mRng1, mRng2, startS, wipeS, List.map_cons, List.map_nil, List.length_cons, List.length_nil, List.replicate, List.cons_append, List.nil_append, List.append_nil, List.set, List.getElem?_cons_zero, List.getElem?_cons_succ, Option.some.injEq, SV.val.injEq, SV.own.injEq, exists_eq_left', exists_eq_left, true_and, and_true, Nat.reduceAdd, Nat.reduceSub, Nat.zero_add, ite_cr, D.tup.injEq, D.int.injEq, D.bl.injEq, D.lst.injEq, D.str.injEq, List.cons.injEq, reduceCtorEq, if_true, if_false, ite_true, ite_false, Bool.not_true, Bool.not_false, Bool.false_eq_true, not_true, not_false, Bool.true_and, Bool.and_true, Bool.false_and, Bool.and_false, decide_eq_true_eq, ask_int, ask_bool, ask_tuple, ask_list, ask_str, isSub_tuple, isTup_tup, int2, int3, at0, at1, at2, at3, pow2]
    by_cases hy : 0 < y
    · rw [if_pos hy]
      obtain ⟨e1, e2, e3⟩ := eucl x0 hy
      refine ⟨by omega, ?_⟩
      exact ⟨(x.fmod y).natAbs, by omega, _, _, ⟨rfl, rfl⟩, y0, e1, by rw [e3]; exact hg, rfl⟩
    · rw [if_neg hy]
      have : y = 0 := by omega
      subst this
      exact ⟨x, ⟨rfl, rfl⟩, x0, by rw [← hg, Int.natAbs_zero, Nat.gcd_zero_right]⟩
  · rintro l' c' ⟨x, rfl, x0, hg, rfl⟩
    simp only [mRet, mRetN, mRetL, mIfS, mSeq, mNx, mPass, mExpr, mAsg, gSet, mVar, mC, mOp, mUn, mTB, mNotT, mAndT, mOrT, mAnd, mOr, mNot, mIf, mCons, mNil, mTup, mLst, mCall, mCallK, mSl, mOSome, mONone, mPar, mPar3, eTupD, eConsD, eNilD, eAdd1, eAdd2, eAdd3, eSub, eMul1, eMul2, eFdiv, eMod, ePow, eNeg, eLt, eLe, eGt, eGe, eEq1, eEq2, eNe1, eNe2, eIx1, eIx2, eIx3, eIx4, eSl1, eSl2, eSl3, eLen1, eLen2, eLen3, eAbs, eIntC, eMax2, eMin2, eList1, eList2, eList3, eTuple1, eTuple2, eAll, eAny, eIsi, eGcd2, eGcd3, eLcm, eIsqrt, eDivmod, eOne, eTwo, eThree, eB, eInt, eSeq1, eSeq2, eSeq3, eRng1, eRng2, eIsN, eNotN, gWset, mSeqI, mRng1, mRng2, startS, wipeS, List.map_cons, List.map_nil, List.length_cons, List.length_nil, List.replicate, List.cons_append, List.nil_append, List.append_nil, List.set, List.getElem?_cons_zero, List.getElem?_cons_succ, Option.some.injEq, SV.val.injEq, SV.own.injEq, exists_eq_left', exists_eq_left, true_and, and_true, Nat.reduceAdd, Nat.reduceSub, Nat.zero_add, ite_cr, D.tup.injEq, D.int.injEq, D.bl.injEq, D.lst.injEq, D.str.injEq, List.cons.injEq, reduceCtorEq, if_true, if_false, ite_true, ite_false, Bool.not_true, Bool.not_false, Bool.false_eq_true, not_true, not_false, Bool.true_and, Bool.and_true, Bool.false_and, Bool.and_false, decide_eq_true_eq, ask_int, ask_bool, ask_tuple, ask_list, ask_str, isSub_tuple, isTup_tup, int2, int3, at0, at1, at2, at3, pow2]
    have gp : 0 < Nat.gcd a.natAbs b.natAbs := Nat.gcd_pos_of_pos_right _ (by omega)
    have gl : Nat.gcd a.natAbs b.natAbs ≤ b.natAbs := Nat.le_of_dvd (by omega) (Nat.gcd_dvd_right _ _)
    have gb : Bt 8000 x := hbb.le (by omega)
    have l1 := gb.log (k := 9000) (by decide) (by decide)
    have l2 := gb.neg.log (k := 9000) (by decide) (by decide)
    rw [Int.zero_sub]
    split
    · exact ⟨⟨by omega, l1⟩, ⟨by omega, l1⟩, by decide, hp x (by omega) hg (fun _ => by omega) (fun _ => by omega)⟩
    · exact ⟨⟨by omega, l2⟩, ⟨by omega, l2⟩, by decide, hp (-x) (by omega) (by omega) (fun _ => by omega) (fun _ => by omega)⟩
theorem ok__law_plus {c : Addr} (B : Bn mg) (DF : Df K mg "_law_plus" s__law_plus c) (O__law_ratio : Ok P w K mg base ⟨K, Tb⟩ "_law_ratio" ["_law_n", "_law_m"] 1 sRat) : Ok P w K mg base ⟨K, Tb⟩ "_law_plus" ["_law_x", "_law_y"] 2 sPlus := by
  have sc : FnScope ["_law_x", "_law_y"] ["_law_x", "_law_y"] (defScope s__law_plus) := ⟨rfl, rfl, rfl, by decide +kernel, rfl, by decide +kernel, by decide +kernel⟩
  refine ok_D (N := ["_law_x", "_law_y"]) DF ⟨fun kV doc pm an cdv ct us hl => match us, hl with | [_, _], _ => rfl, fun kV doc pm an cdv ct p hp us hl => by simp only [kws, List.mem_cons, List.not_mem_nil, or_false] at hp; rcases hp with rfl | rfl <;> (match us, hl with | [_, _], _ => rfl)⟩ sc (fun ds P n h => by obtain ⟨_, _, rfl, _⟩ := g2_inv h; rfl) (fun A outer s H E wl f hr => (jss_one (js_ret (jc O__law_ratio hr (ja_cons (je_op (d_add rfl) (je_op d_mul (je_ix (d_ix rfl) (je_var (pv 0)) (je_int) (fun _ _ => rfl)) (je_ix (d_ix rfl) (je_var (pv 1)) (je_int) (fun _ _ => rfl))) (je_op d_mul (je_ix (d_ix rfl) (je_var (pv 1)) (je_int) (fun _ _ => rfl)) (je_ix (d_ix rfl) (je_var (pv 0)) (je_int) (fun _ _ => rfl)))) (ja_cons (je_op d_mul (je_ix (d_ix rfl) (je_var (pv 0)) (je_int) (fun _ _ => rfl)) (je_ix (d_ix rfl) (je_var (pv 1)) (je_int) (fun _ _ => rfl))) ja_nil)))))) ?_
  intro ds Pd n h
  obtain ⟨d, e, rfl, h1⟩ := g2_inv h
  obtain ⟨a, b, rfl, ⟨b0, ba, bb⟩, h2⟩ := gFr_inv h1
  obtain ⟨c, e, rfl, ⟨e0, bc, be⟩, hp⟩ := gFr_inv h2
  have nb : b ≠ 0 := by omega
  have ne : e ≠ 0 := by omega
  simp only [mRet, mRetN, mRetL, mIfS, mSeq, mNx, mPass, mExpr, mAsg, gSet, mVar, mC, mOp, mUn, mTB, mNotT, mAndT, mOrT, mAnd, mOr, mNot, mIf, mCons, mNil, mTup, mLst, mCall, mCallK, mSl, mOSome, mONone, mPar, mPar3, eTupD, eConsD, eNilD, eAdd1, eAdd2, eAdd3, eSub, eMul1, eMul2, eFdiv, eMod, ePow, eNeg, eLt, eLe, eGt, eGe, eEq1, eEq2, eNe1, eNe2, eIx1, eIx2, eIx3, eIx4, eSl1, eSl2, eSl3, eLen1, eLen2, eLen3, eAbs, eIntC, eMax2, eMin2, eList1, eList2, eList3, eTuple1, eTuple2, eAll, eAny, eIsi, eGcd2, eGcd3, eLcm, eIsqrt, eDivmod, eOne, eTwo, eThree, eB, eInt, eSeq1, eSeq2, eSeq3, eRng1, eRng2, eIsN, eNotN, gWset, mSeqI, mRng1, mRng2, startS, wipeS, List.map_cons, List.map_nil, List.length_cons, List.length_nil, List.replicate, List.cons_append, List.nil_append, List.append_nil, List.set, List.getElem?_cons_zero, List.getElem?_cons_succ, Option.some.injEq, SV.val.injEq, SV.own.injEq, exists_eq_left', exists_eq_left, true_and, and_true, Nat.reduceAdd, Nat.reduceSub, Nat.zero_add, ite_cr, D.tup.injEq, D.int.injEq, D.bl.injEq, D.lst.injEq, D.str.injEq, List.cons.injEq, reduceCtorEq, if_true, if_false, ite_true, ite_false, Bool.not_true, Bool.not_false, Bool.false_eq_true, not_true, not_false, Bool.true_and, Bool.and_true, Bool.false_and, Bool.and_false, decide_eq_true_eq, ask_int, ask_bool, ask_tuple, ask_list, ask_str, isSub_tuple, isTup_tup, int2, int3, at0, at1, at2, at3, pow2, eFour, ePr, e3I, ePrF, e3K, eFr, eFrF, eTupF, eTupK, eIxF0, eIxF1, fr_inj, nd, nd0, nd1, nd2, nd3, oo, zo, lit0, lit1, div1, ip2, Bool.not_eq_true', decide_eq_false_iff_not, sRat, sPlus, sMinus, sTimes, and_assoc, exists_and_left, Nat.reduceLeDiff, Nat.reduceLT, Int.reduceLT, Int.reduceLE, Int.reduceMul, Int.reduceAdd, Int.reduceSub, Int.reduceNeg, Int.reduceToNat, ne_eq, decide_true, decide_false, eq_self]
  refine ⟨cm ba be, cm bc bb, cm bb be, Int.mul_ne_zero nb ne, (Bt.add (ba.mul be) (bc.mul bb)).mono (by decide), (bb.mul be).mono (by decide), ?_⟩
  rw [rp_add nb ne]
  exact hp
theorem ok__law_times {c : Addr} (B : Bn mg) (DF : Df K mg "_law_times" s__law_times c) (O__law_ratio : Ok P w K mg base ⟨K, Tb⟩ "_law_ratio" ["_law_n", "_law_m"] 1 sRat) : Ok P w K mg base ⟨K, Tb⟩ "_law_times" ["_law_x", "_law_y"] 2 sTimes := by
  have sc : FnScope ["_law_x", "_law_y"] ["_law_x", "_law_y"] (defScope s__law_times) := ⟨rfl, rfl, rfl, by decide +kernel, rfl, by decide +kernel, by decide +kernel⟩
  refine ok_D (N := ["_law_x", "_law_y"]) DF ⟨fun kV doc pm an cdv ct us hl => match us, hl with | [_, _], _ => rfl, fun kV doc pm an cdv ct p hp us hl => by simp only [kws, List.mem_cons, List.not_mem_nil, or_false] at hp; rcases hp with rfl | rfl <;> (match us, hl with | [_, _], _ => rfl)⟩ sc (fun ds P n h => by obtain ⟨_, _, rfl, _⟩ := g2_inv h; rfl) (fun A outer s H E wl f hr => (jss_one (js_ret (jc O__law_ratio hr (ja_cons (je_op d_mul (je_ix (d_ix rfl) (je_var (pv 0)) (je_int) (fun _ _ => rfl)) (je_ix (d_ix rfl) (je_var (pv 1)) (je_int) (fun _ _ => rfl))) (ja_cons (je_op d_mul (je_ix (d_ix rfl) (je_var (pv 0)) (je_int) (fun _ _ => rfl)) (je_ix (d_ix rfl) (je_var (pv 1)) (je_int) (fun _ _ => rfl))) ja_nil)))))) ?_
  intro ds Pd n h
  obtain ⟨d, e, rfl, h1⟩ := g2_inv h
  obtain ⟨a, b, rfl, ⟨b0, ba, bb⟩, h2⟩ := gFr_inv h1
  obtain ⟨c, e, rfl, ⟨e0, bc, be⟩, hp⟩ := gFr_inv h2
  have nb : b ≠ 0 := by omega
  have ne : e ≠ 0 := by omega
  simp only [mRet, mRetN, mRetL, mIfS, mSeq, mNx, mPass, mExpr, mAsg, gSet, mVar, mC, mOp, mUn, mTB, mNotT, mAndT, mOrT, mAnd, mOr, mNot, mIf, mCons, mNil, mTup, mLst, mCall, mCallK, mSl, mOSome, mONone, mPar, mPar3, eTupD, eConsD, eNilD, eAdd1, eAdd2, eAdd3, eSub, eMul1, eMul2, eFdiv, eMod, ePow, eNeg, eLt, eLe, eGt, eGe, eEq1, eEq2, eNe1, eNe2, eIx1, eIx2, eIx3, eIx4, eSl1, eSl2, eSl3, eLen1, eLen2, eLen3, eAbs, eIntC, eMax2, eMin2, eList1, eList2, eList3, eTuple1, eTuple2, eAll, eAny, eIsi, eGcd2, eGcd3, eLcm, eIsqrt, eDivmod, eOne, eTwo, eThree, eB, eInt, eSeq1, eSeq2, eSeq3, eRng1, eRng2, eIsN, eNotN, gWset, mSeqI, mRng1, mRng2, startS, wipeS, List.map_cons, List.map_nil, List.length_cons, List.length_nil, List.replicate, List.cons_append, List.nil_append, List.append_nil, List.set, List.getElem?_cons_zero, List.getElem?_cons_succ, Option.some.injEq, SV.val.injEq, SV.own.injEq, exists_eq_left', exists_eq_left, true_and, and_true, Nat.reduceAdd, Nat.reduceSub, Nat.zero_add, ite_cr, D.tup.injEq, D.int.injEq, D.bl.injEq, D.lst.injEq, D.str.injEq, List.cons.injEq, reduceCtorEq, if_true, if_false, ite_true, ite_false, Bool.not_true, Bool.not_false, Bool.false_eq_true, not_true, not_false, Bool.true_and, Bool.and_true, Bool.false_and, Bool.and_false, decide_eq_true_eq, ask_int, ask_bool, ask_tuple, ask_list, ask_str, isSub_tuple, isTup_tup, int2, int3, at0, at1, at2, at3, pow2, eFour, ePr, e3I, ePrF, e3K, eFr, eFrF, eTupF, eTupK, eIxF0, eIxF1, fr_inj, nd, nd0, nd1, nd2, nd3, oo, zo, lit0, lit1, div1, ip2, Bool.not_eq_true', decide_eq_false_iff_not, sRat, sPlus, sMinus, sTimes, and_assoc, exists_and_left, Nat.reduceLeDiff, Nat.reduceLT, Int.reduceLT, Int.reduceLE, Int.reduceMul, Int.reduceAdd, Int.reduceSub, Int.reduceNeg, Int.reduceToNat, ne_eq, decide_true, decide_false, eq_self]
  refine ⟨cm ba bc, cm bb be, Int.mul_ne_zero nb ne, (ba.mul bc).mono (by decide), (bb.mul be).mono (by decide), ?_⟩
  rw [rp_mul nb ne]
  exact hp
theorem ok__law_joined {c : Addr} (B : Bn mg) (DF : Df K mg "_law_joined" s__law_joined c) (O__law_plus : Ok P w K mg base ⟨K, Tb⟩ "_law_plus" ["_law_x", "_law_y"] 2 sPlus) (O__law_times : Ok P w K mg base ⟨K, Tb⟩ "_law_times" ["_law_x", "_law_y"] 2 sTimes) : Ok P w K mg base ⟨K, Tb⟩ "_law_joined" ["_law_x", "_law_factor", "_law_y"] 3 sJoined := by
  have sc : FnScope ["_law_x", "_law_factor", "_law_y", "_law_p", "_law_q"] ["_law_x", "_law_factor", "_law_y"] (defScope s__law_joined) := ⟨rfl, rfl, rfl, by decide +kernel, rfl, by decide +kernel, by decide +kernel⟩
  refine ok_D (N := ["_law_x", "_law_factor", "_law_y", "_law_p", "_law_q"]) DF ⟨fun kV doc pm an cdv ct us hl => match us, hl with | [_, _, _], _ => rfl, fun kV doc pm an cdv ct p hp us hl => by simp only [kws, List.mem_cons, List.not_mem_nil, or_false] at hp; rcases hp with rfl | rfl | rfl | rfl | rfl | rfl <;> (match us, hl with | [_, _, _], _ => rfl)⟩ sc (fun ds P n h => by obtain ⟨_, _, _, rfl, _⟩ := g3_inv h; rfl) (fun A outer s H E wl f hr => (jss_one (js_ret (je_callTy (d_tuple rfl) rfl B.tuple Bt'.tuple (ja_cons (je_lc (own := [("_law_p", 3), ("_law_q", 4)]) rfl sc.nd (ji_zip rfl rfl B.zip (je_var (pv 0)) (je_var (pv 2))) (blkOk_by (by kernel_rfl)) (by decide) (fun _ _ _ _ _ => (jg_tup (n := 2) rfl rfl (jgs_cons (jg (i := 3) sc.nd) (jgs_cons (jg (i := 4) sc.nd) jgs_nil)))) (fun _ _ _ _ _ => jts_nil) (fun _ _ _ _ _ => (jc O__law_plus hr (ja_cons (je_var (pv 3)) (ja_cons (jc O__law_times hr (ja_cons (je_var (pv 1)) (ja_cons (je_var (pv 4)) ja_nil))) ja_nil))))) ja_nil))))) ?_
  intro ds Pd n h
  obtain ⟨d, e, f, rfl, x, q, y, ⟨rfl, he, rfl⟩, ⟨hl, hl2⟩, h1, h2, sq, hp⟩ := g3_inv h
  haveI : SzC q 900 := ⟨sq⟩
  have he : e = fr q := by rcases he with rfl | rfl <;> rfl
  subst he
  unfold mLc rwD
  simp only [mRet, mRetN, mRetL, mIfS, mSeq, mNx, mPass, mExpr, mAsg, gSet, mVar, mC, mOp, mUn, mTB, mNotT, mAndT, mOrT, mAnd, mOr, mNot, mIf, mCons, mNil, mTup, mLst, mCall, mCallK, mSl, mOSome, mONone, mPar, mPar3, eTupD, eConsD, eNilD, eAdd1, eAdd2, eAdd3, eSub, eMul1, eMul2, eFdiv, eMod, ePow, eNeg, eLt, eLe, eGt, eGe, eEq1, eEq2, eNe1, eNe2, eIx1, eIx2, eIx3, eIx4, eSl1, eSl2, eSl3, eLen1, eLen2, eLen3, eAbs, eIntC, eMax2, eMin2, eList1, eList2, eList3, eTuple1, eTuple2, eAll, eAny, eIsi, eGcd2, eGcd3, eLcm, eIsqrt, eDivmod, eOne, eTwo, eThree, eB, eInt, eSeq1, eSeq2, eSeq3, eRng1, eRng2, eIsN, eNotN, gWset, mSeqI, mRng1, mRng2, startS, wipeS, List.map_cons, List.map_nil, List.length_cons, List.length_nil, List.replicate, List.cons_append, List.nil_append, List.append_nil, List.set, List.getElem?_cons_zero, List.getElem?_cons_succ, Option.some.injEq, SV.val.injEq, SV.own.injEq, exists_eq_left', exists_eq_left, true_and, and_true, Nat.reduceAdd, Nat.reduceSub, Nat.zero_add, ite_cr, D.tup.injEq, D.int.injEq, D.bl.injEq, D.lst.injEq, D.str.injEq, List.cons.injEq, reduceCtorEq, if_true, if_false, ite_true, ite_false, Bool.not_true, Bool.not_false, Bool.false_eq_true, not_true, not_false, Bool.true_and, Bool.and_true, Bool.false_and, Bool.and_false, decide_eq_true_eq, ask_int, ask_bool, ask_tuple, ask_list, ask_str, isSub_tuple, isTup_tup, int2, int3, at0, at1, at2, at3, pow2, eFour, ePr, e3I, ePrF, e3K, eFr, eFrF, eTupF, eTupK, eIxF0, eIxF1, fr_inj, nd, nd0, nd1, nd2, nd3, oo, zo, lit0, lit1, div1, ip2, Bool.not_eq_true', decide_eq_false_iff_not, sRat, sPlus, sMinus, sTimes, and_assoc, exists_and_left, Nat.reduceLeDiff, Nat.reduceLT, Int.reduceLT, Int.reduceLE, Int.reduceMul, Int.reduceAdd, Int.reduceSub, Int.reduceNeg, Int.reduceToNat, ne_eq, decide_true, decide_false, eq_self, eIxD0, eIxD1, eTupD2, dsc_inj, eRAb, eRAt, eRAl, le_q0, fr_abs, sSize, sCommon, sBeyond, mZip, or_false, false_or, eRAd, eInT, eTupLd, eTupTr, tr_inj, ld_inj, rw_inj, eIxT0, eIxT1, eIxT2, eNeF, eEqF, eEqR, eRAtr, mEnum, eIxK0, eIxK1, eIxK2, gZip]
  rw [zip_fr]
  refine ⟨by rw [List.length_map, List.length_zip]; omega, ?_⟩
  refine mColl_map (f := fun p => fr (1 * p.1 + q * p.2)) (fun p hp yes no c hy => ?_) ?_
  · obtain ⟨m1, m2⟩ := zip_mem hp
    haveI : SzC p.1 900 := ⟨h1 _ m1⟩
    haveI : SzC p.2 900 := ⟨h2 _ m2⟩
    unfold turnD
    simp only [mRet, mRetN, mRetL, mIfS, mSeq, mNx, mPass, mExpr, mAsg, gSet, mVar, mC, mOp, mUn, mTB, mNotT, mAndT, mOrT, mAnd, mOr, mNot, mIf, mCons, mNil, mTup, mLst, mCall, mCallK, mSl, mOSome, mONone, mPar, mPar3, eTupD, eConsD, eNilD, eAdd1, eAdd2, eAdd3, eSub, eMul1, eMul2, eFdiv, eMod, ePow, eNeg, eLt, eLe, eGt, eGe, eEq1, eEq2, eNe1, eNe2, eIx1, eIx2, eIx3, eIx4, eSl1, eSl2, eSl3, eLen1, eLen2, eLen3, eAbs, eIntC, eMax2, eMin2, eList1, eList2, eList3, eTuple1, eTuple2, eAll, eAny, eIsi, eGcd2, eGcd3, eLcm, eIsqrt, eDivmod, eOne, eTwo, eThree, eB, eInt, eSeq1, eSeq2, eSeq3, eRng1, eRng2, eIsN, eNotN, gWset, mSeqI, mRng1, mRng2, startS, wipeS, List.map_cons, List.map_nil, List.length_cons, List.length_nil, List.replicate, List.cons_append, List.nil_append, List.append_nil, List.set, List.getElem?_cons_zero, List.getElem?_cons_succ, Option.some.injEq, SV.val.injEq, SV.own.injEq, exists_eq_left', exists_eq_left, true_and, and_true, Nat.reduceAdd, Nat.reduceSub, Nat.zero_add, ite_cr, D.tup.injEq, D.int.injEq, D.bl.injEq, D.lst.injEq, D.str.injEq, List.cons.injEq, reduceCtorEq, if_true, if_false, ite_true, ite_false, Bool.not_true, Bool.not_false, Bool.false_eq_true, not_true, not_false, Bool.true_and, Bool.and_true, Bool.false_and, Bool.and_false, decide_eq_true_eq, ask_int, ask_bool, ask_tuple, ask_list, ask_str, isSub_tuple, isTup_tup, int2, int3, at0, at1, at2, at3, pow2, eFour, ePr, e3I, ePrF, e3K, eFr, eFrF, eTupF, eTupK, eIxF0, eIxF1, fr_inj, nd, nd0, nd1, nd2, nd3, oo, zo, lit0, lit1, div1, ip2, Bool.not_eq_true', decide_eq_false_iff_not, sRat, sPlus, sMinus, sTimes, and_assoc, exists_and_left, Nat.reduceLeDiff, Nat.reduceLT, Int.reduceLT, Int.reduceLE, Int.reduceMul, Int.reduceAdd, Int.reduceSub, Int.reduceNeg, Int.reduceToNat, ne_eq, decide_true, decide_false, eq_self, eIxD0, eIxD1, eTupD2, dsc_inj, eRAb, eRAt, eRAl, le_q0, fr_abs, sSize, sCommon, sBeyond, mZip, or_false, false_or, eRAd, eInT, eTupLd, eTupTr, tr_inj, ld_inj, rw_inj, eIxT0, eIxT1, eIxT2, eNeF, eEqF, eEqR, eRAtr, mEnum, eIxK0, eIxK1, eIxK2, mYes]
    refine ⟨szc (by decide), szc (by decide), szc (by decide), szc (by decide), ?_⟩
    rw [show p.1 + q * p.2 = 1 * p.1 + q * p.2 by grind]
    exact hy
  · rw [← comb_map]
    exact hp
theorem ok__law_inner {c : Addr} (B : Bn mg) (DF : Df K mg "_law_inner" s__law_inner c) (O__law_plus : Ok P w K mg base ⟨K, Tb⟩ "_law_plus" ["_law_x", "_law_y"] 2 sPlus) (O__law_times : Ok P w K mg base ⟨K, Tb⟩ "_law_times" ["_law_x", "_law_y"] 2 sTimes) : Ok P w K mg base ⟨K, Tb⟩ "_law_inner" ["_law_x", "_law_y"] 3 sDot := by
  have sc : FnScope ["_law_x", "_law_y", "_law_found", "_law_p", "_law_q"] ["_law_x", "_law_y"] (defScope s__law_inner) := ⟨rfl, rfl, rfl, by decide +kernel, rfl, by decide +kernel, by decide +kernel⟩
  refine ok_D (N := ["_law_x", "_law_y", "_law_found", "_law_p", "_law_q"]) DF ⟨fun kV doc pm an cdv ct us hl => match us, hl with | [_, _], _ => rfl, fun kV doc pm an cdv ct p hp us hl => by simp only [kws, List.mem_cons, List.not_mem_nil, or_false] at hp; rcases hp with rfl | rfl <;> (match us, hl with | [_, _], _ => rfl)⟩ sc (fun ds P n h => by obtain ⟨_, _, rfl, _⟩ := g2_inv h; rfl) (fun A outer s H E wl f hr => (jss_cons (js_set (i := 2) sc.nd rfl (by first | exact Or.inl rfl | exact Or.inr rfl) (je_tup (ja_cons (je_int) (ja_cons (je_int) ja_nil)))) (jss_cut (js_for PassesOwn.never rfl (ji_zip rfl rfl B.zip (je_var (pv 0)) (je_var (pv 1))) (jg_tup (n := 2) rfl rfl (jgs_cons (jg (i := 3) sc.nd) (jgs_cons (jg (i := 4) sc.nd) jgs_nil))) (jss_one (js_set (i := 2) sc.nd rfl (by first | exact Or.inl rfl | exact Or.inr rfl) (jc O__law_plus hr (ja_cons (je_var (pv 2)) (ja_cons (jc O__law_times hr (ja_cons (je_var (pv 3)) (ja_cons (je_var (pv 4)) ja_nil))) ja_nil)))))) (jss_one (js_ret (je_var (pv 2))))))) ?_
  intro ds Pd n h
  obtain ⟨d, e, rfl, qs, rs, a, b, ⟨rfl, rfl⟩, ⟨la, lb⟩, ⟨hl, hl2⟩, ⟨h1, h2⟩, hp⟩ := g2_inv h
  unfold mCut mFor rwD
  simp only [mRet, mRetN, mRetL, mIfS, mSeq, mNx, mPass, mExpr, mAsg, gSet, mVar, mC, mOp, mUn, mTB, mNotT, mAndT, mOrT, mAnd, mOr, mNot, mIf, mCons, mNil, mTup, mLst, mCall, mCallK, mSl, mOSome, mONone, mPar, mPar3, eTupD, eConsD, eNilD, eAdd1, eAdd2, eAdd3, eSub, eMul1, eMul2, eFdiv, eMod, ePow, eNeg, eLt, eLe, eGt, eGe, eEq1, eEq2, eNe1, eNe2, eIx1, eIx2, eIx3, eIx4, eSl1, eSl2, eSl3, eLen1, eLen2, eLen3, eAbs, eIntC, eMax2, eMin2, eList1, eList2, eList3, eTuple1, eTuple2, eAll, eAny, eIsi, eGcd2, eGcd3, eLcm, eIsqrt, eDivmod, eOne, eTwo, eThree, eB, eInt, eSeq1, eSeq2, eSeq3, eRng1, eRng2, eIsN, eNotN, gWset, mSeqI, mRng1, mRng2, startS, wipeS, List.map_cons, List.map_nil, List.length_cons, List.length_nil, List.replicate, List.cons_append, List.nil_append, List.append_nil, List.set, List.getElem?_cons_zero, List.getElem?_cons_succ, Option.some.injEq, SV.val.injEq, SV.own.injEq, exists_eq_left', exists_eq_left, true_and, and_true, Nat.reduceAdd, Nat.reduceSub, Nat.zero_add, ite_cr, D.tup.injEq, D.int.injEq, D.bl.injEq, D.lst.injEq, D.str.injEq, List.cons.injEq, reduceCtorEq, if_true, if_false, ite_true, ite_false, Bool.not_true, Bool.not_false, Bool.false_eq_true, not_true, not_false, Bool.true_and, Bool.and_true, Bool.false_and, Bool.and_false, decide_eq_true_eq, ask_int, ask_bool, ask_tuple, ask_list, ask_str, isSub_tuple, isTup_tup, int2, int3, at0, at1, at2, at3, pow2, eFour, ePr, e3I, ePrF, e3K, eFr, eFrF, eTupF, eTupK, eIxF0, eIxF1, fr_inj, nd, nd0, nd1, nd2, nd3, oo, zo, lit0, lit1, div1, ip2, Bool.not_eq_true', decide_eq_false_iff_not, sRat, sPlus, sMinus, sTimes, and_assoc, exists_and_left, Nat.reduceLeDiff, Nat.reduceLT, Int.reduceLT, Int.reduceLE, Int.reduceMul, Int.reduceAdd, Int.reduceSub, Int.reduceNeg, Int.reduceToNat, ne_eq, decide_true, decide_false, eq_self, eIxD0, eIxD1, eTupD2, dsc_inj, eRAb, eRAt, eRAl, le_q0, fr_abs, sSize, sCommon, sBeyond, mZip, or_false, false_or, eRAd, eInT, eTupLd, eTupTr, tr_inj, ld_inj, rw_inj, eIxT0, eIxT1, eIxT2, eNeF, eEqF, eEqR, eRAtr, mEnum, eIxK0, eIxK1, eIxK2, gZip]
  have sz := fun i => dot_part (i := i) la lb hl hl2 h1 h2
  refine ⟨fun l c => ∃ o1 o2 : Option SV, l = [some (SV.val (.tup (qs.map fr))), some (SV.val (.tup (rs.map fr))), some (SV.val (fr (dotr qs rs))), o1, o2] ∧ c = n, ⟨fun i l c => ∃ o1 o2 : Option SV, l = [some (SV.val (.tup (qs.map fr))), some (SV.val (.tup (rs.map fr))), some (SV.val (fr (dotr (qs.take i) (rs.take i)))), o1, o2] ∧ c = n, ⟨none, none, rfl, rfl⟩, ?_, ?_⟩, ?_⟩
  · rintro i d l' c' hd ⟨o1, o2, rfl, rfl⟩
    obtain ⟨x, y, hx, hy, rfl⟩ := zipD_get hd
    obtain ⟨q, hq, rfl⟩ := rw_get hx
    obtain ⟨r, hr, rfl⟩ := rw_get hy
    have zq := h1 q (List.mem_of_getElem? hq)
    have zr := h2 r (List.mem_of_getElem? hr)
    simp only [mRet, mRetN, mRetL, mIfS, mSeq, mNx, mPass, mExpr, mAsg, gSet, mVar, mC, mOp, mUn, mTB, mNotT, mAndT, mOrT, mAnd, mOr, mNot, mIf, mCons, mNil, mTup, mLst, mCall, mCallK, mSl, mOSome, mONone, mPar, mPar3, eTupD, eConsD, eNilD, eAdd1, eAdd2, eAdd3, eSub, eMul1, eMul2, eFdiv, eMod, ePow, eNeg, eLt, eLe, eGt, eGe, eEq1, eEq2, eNe1, eNe2, eIx1, eIx2, eIx3, eIx4, eSl1, eSl2, eSl3, eLen1, eLen2, eLen3, eAbs, eIntC, eMax2, eMin2, eList1, eList2, eList3, eTuple1, eTuple2, eAll, eAny, eIsi, eGcd2, eGcd3, eLcm, eIsqrt, eDivmod, eOne, eTwo, eThree, eB, eInt, eSeq1, eSeq2, eSeq3, eRng1, eRng2, eIsN, eNotN, gWset, mSeqI, mRng1, mRng2, startS, wipeS, List.map_cons, List.map_nil, List.length_cons, List.length_nil, List.replicate, List.cons_append, List.nil_append, List.append_nil, List.set, List.getElem?_cons_zero, List.getElem?_cons_succ, Option.some.injEq, SV.val.injEq, SV.own.injEq, exists_eq_left', exists_eq_left, true_and, and_true, Nat.reduceAdd, Nat.reduceSub, Nat.zero_add, ite_cr, D.tup.injEq, D.int.injEq, D.bl.injEq, D.lst.injEq, D.str.injEq, List.cons.injEq, reduceCtorEq, if_true, if_false, ite_true, ite_false, Bool.not_true, Bool.not_false, Bool.false_eq_true, not_true, not_false, Bool.true_and, Bool.and_true, Bool.false_and, Bool.and_false, decide_eq_true_eq, ask_int, ask_bool, ask_tuple, ask_list, ask_str, isSub_tuple, isTup_tup, int2, int3, at0, at1, at2, at3, pow2, eFour, ePr, e3I, ePrF, e3K, eFr, eFrF, eTupF, eTupK, eIxF0, eIxF1, fr_inj, nd, nd0, nd1, nd2, nd3, oo, zo, lit0, lit1, div1, ip2, Bool.not_eq_true', decide_eq_false_iff_not, sRat, sPlus, sMinus, sTimes, and_assoc, exists_and_left, Nat.reduceLeDiff, Nat.reduceLT, Int.reduceLT, Int.reduceLE, Int.reduceMul, Int.reduceAdd, Int.reduceSub, Int.reduceNeg, Int.reduceToNat, ne_eq, decide_true, decide_false, eq_self, eIxD0, eIxD1, eTupD2, dsc_inj, eRAb, eRAt, eRAl, le_q0, fr_abs, sSize, sCommon, sBeyond, mZip, or_false, false_or, eRAd, eInT, eTupLd, eTupTr, tr_inj, ld_inj, rw_inj, eIxT0, eIxT1, eIxT2, eNeF, eEqF, eEqR, eRAtr, mEnum, eIxK0, eIxK1, eIxK2]
    refine ⟨zq.sz (by omega), zr.sz (by omega), sz i, (zq.mul zr).sz (by omega), ?_⟩
    rw [dot_snoc hq hr]
    try exact ⟨_, _, rfl, rfl⟩
  · rintro l' c' ⟨o1, o2, rfl, rfl⟩
    rw [zipD_len, List.length_map, List.length_map, ← hl2, Nat.min_self, List.take_length, hl2, List.take_length]
    exact ⟨_, _, rfl, rfl⟩
  · rintro l' c' ⟨o1, o2, rfl, rfl⟩
    simp only [mRet, mRetN, mRetL, mIfS, mSeq, mNx, mPass, mExpr, mAsg, gSet, mVar, mC, mOp, mUn, mTB, mNotT, mAndT, mOrT, mAnd, mOr, mNot, mIf, mCons, mNil, mTup, mLst, mCall, mCallK, mSl, mOSome, mONone, mPar, mPar3, eTupD, eConsD, eNilD, eAdd1, eAdd2, eAdd3, eSub, eMul1, eMul2, eFdiv, eMod, ePow, eNeg, eLt, eLe, eGt, eGe, eEq1, eEq2, eNe1, eNe2, eIx1, eIx2, eIx3, eIx4, eSl1, eSl2, eSl3, eLen1, eLen2, eLen3, eAbs, eIntC, eMax2, eMin2, eList1, eList2, eList3, eTuple1, eTuple2, eAll, eAny, eIsi, eGcd2, eGcd3, eLcm, eIsqrt, eDivmod, eOne, eTwo, eThree, eB, eInt, eSeq1, eSeq2, eSeq3, eRng1, eRng2, eIsN, eNotN, gWset, mSeqI, mRng1, mRng2, startS, wipeS, List.map_cons, List.map_nil, List.length_cons, List.length_nil, List.replicate, List.cons_append, List.nil_append, List.append_nil, List.set, List.getElem?_cons_zero, List.getElem?_cons_succ, Option.some.injEq, SV.val.injEq, SV.own.injEq, exists_eq_left', exists_eq_left, true_and, and_true, Nat.reduceAdd, Nat.reduceSub, Nat.zero_add, ite_cr, D.tup.injEq, D.int.injEq, D.bl.injEq, D.lst.injEq, D.str.injEq, List.cons.injEq, reduceCtorEq, if_true, if_false, ite_true, ite_false, Bool.not_true, Bool.not_false, Bool.false_eq_true, not_true, not_false, Bool.true_and, Bool.and_true, Bool.false_and, Bool.and_false, decide_eq_true_eq, ask_int, ask_bool, ask_tuple, ask_list, ask_str, isSub_tuple, isTup_tup, int2, int3, at0, at1, at2, at3, pow2, eFour, ePr, e3I, ePrF, e3K, eFr, eFrF, eTupF, eTupK, eIxF0, eIxF1, fr_inj, nd, nd0, nd1, nd2, nd3, oo, zo, lit0, lit1, div1, ip2, Bool.not_eq_true', decide_eq_false_iff_not, sRat, sPlus, sMinus, sTimes, and_assoc, exists_and_left, Nat.reduceLeDiff, Nat.reduceLT, Int.reduceLT, Int.reduceLE, Int.reduceMul, Int.reduceAdd, Int.reduceSub, Int.reduceNeg, Int.reduceToNat, ne_eq, decide_true, decide_false, eq_self, eIxD0, eIxD1, eTupD2, dsc_inj, eRAb, eRAt, eRAl, le_q0, fr_abs, sSize, sCommon, sBeyond, mZip, or_false, false_or, eRAd, eInT, eTupLd, eTupTr, tr_inj, ld_inj, rw_inj, eIxT0, eIxT1, eIxT2, eNeF, eEqF, eEqR, eRAtr, mEnum, eIxK0, eIxK1, eIxK2]
    exact hp
theorem ok__law_gap_between {c : Addr} (B : Bn mg) (DF : Df K mg "_law_gap_between" s__law_gap_between c) (O__law_joined : Ok P w K mg base ⟨K, Tb⟩ "_law_joined" ["_law_x", "_law_factor", "_law_y"] 3 sJoined) (O__law_inner : Ok P w K mg base ⟨K, Tb⟩ "_law_inner" ["_law_x", "_law_y"] 3 sDot) : Ok P w K mg base ⟨K, Tb⟩ "_law_gap_between" ["_law_x", "_law_u", "_law_y", "_law_v"] 4 sGapBtw := by
  have sc : FnScope ["_law_x", "_law_u", "_law_y", "_law_v", "_law_p", "_law_q"] ["_law_x", "_law_u", "_law_y", "_law_v"] (defScope s__law_gap_between) := ⟨rfl, rfl, rfl, by decide +kernel, rfl, by decide +kernel, by decide +kernel⟩
  refine ok_D (N := ["_law_x", "_law_u", "_law_y", "_law_v", "_law_p", "_law_q"]) DF ⟨fun kV doc pm an cdv ct us hl => match us, hl with | [_, _, _, _], _ => rfl, fun kV doc pm an cdv ct p hp us hl => by simp only [kws, List.mem_cons, List.not_mem_nil, or_false] at hp; rcases hp with rfl | rfl | rfl | rfl | rfl | rfl | rfl | rfl | rfl | rfl | rfl | rfl | rfl | rfl | rfl | rfl | rfl | rfl | rfl | rfl | rfl | rfl | rfl | rfl <;> (match us, hl with | [_, _, _, _], _ => rfl)⟩ sc (fun ds P n h => by obtain ⟨_, _, _, _, rfl, _⟩ := g4_inv h; rfl) (fun A outer s H E wl f hr => (jss_cons (js_par (i := 4) (j := 5) rfl sc.nd rfl rfl (by decide) rfl rfl (jc O__law_joined hr (ja_cons (je_var (pv 0)) (ja_cons (je_tup (ja_cons (je_un d_neg (je_int)) (ja_cons (je_int) ja_nil))) (ja_cons (je_var (pv 2)) ja_nil)))) (jc O__law_joined hr (ja_cons (je_var (pv 1)) (ja_cons (je_tup (ja_cons (je_un d_neg (je_int)) (ja_cons (je_int) ja_nil))) (ja_cons (je_var (pv 3)) ja_nil)))) rfl) (jss_one (js_ret (je_tup (ja_cons (jc O__law_inner hr (ja_cons (je_var (pv 4)) (ja_cons (je_var (pv 4)) ja_nil))) (ja_cons (jc O__law_inner hr (ja_cons (je_var (pv 4)) (ja_cons (je_var (pv 5)) ja_nil))) (ja_cons (jc O__law_inner hr (ja_cons (je_var (pv 5)) (ja_cons (je_var (pv 5)) ja_nil))) ja_nil)))))))) ?_
  intro ds Pd n h
  obtain ⟨d1, d2, d3, d4, rfl, x, u, y, v, a, b, ⟨rfl, rfl, rfl, rfl⟩, ⟨la, lb⟩, ⟨l0, l1, l2, l3, l4⟩, ⟨hx, hu, hy, hv⟩, _, hp⟩ := g4_inv h
  have w : ∀ {p : List Rat}, Rz a b p → ∀ q ∈ p, Sz 900 q := fun h q hq => (h q hq).sz (by omega)
  have z1 : Rz (a + 3 + b) (2 * b + 2) (comb 1 (-1) x y) := (comb_sz hx hy).mono (by omega) (by omega)
  have z2 : Rz (a + 3 + b) (2 * b + 2) (comb 1 (-1) u v) := (comb_sz hu hv).mono (by omega) (by omega)
  have n1 : (comb 1 (-1) x y).length = x.length := comb_len (by omega)
  have n2 : (comb 1 (-1) u v).length = x.length := by rw [comb_len (by omega)]; omega
  simp only [mRet, mRetN, mRetL, mIfS, mSeq, mNx, mPass, mExpr, mAsg, gSet, mVar, mC, mOp, mUn, mTB, mNotT, mAndT, mOrT, mAnd, mOr, mNot, mIf, mCons, mNil, mTup, mLst, mCall, mCallK, mSl, mOSome, mONone, mPar, mPar3, eTupD, eConsD, eNilD, eAdd1, eAdd2, eAdd3, eSub, eMul1, eMul2, eFdiv, eMod, ePow, eNeg, eLt, eLe, eGt, eGe, eEq1, eEq2, eNe1, eNe2, eIx1, eIx2, eIx3, eIx4, eSl1, eSl2, eSl3, eLen1, eLen2, eLen3, eAbs, eIntC, eMax2, eMin2, eList1, eList2, eList3, eTuple1, eTuple2, eAll, eAny, eIsi, eGcd2, eGcd3, eLcm, eIsqrt, eDivmod, eOne, eTwo, eThree, eB, eInt, eSeq1, eSeq2, eSeq3, eRng1, eRng2, eIsN, eNotN, gWset, mSeqI, mRng1, mRng2, startS, wipeS, List.map_cons, List.map_nil, List.length_cons, List.length_nil, List.replicate, List.cons_append, List.nil_append, List.append_nil, List.set, List.getElem?_cons_zero, List.getElem?_cons_succ, Option.some.injEq, SV.val.injEq, SV.own.injEq, exists_eq_left', exists_eq_left, true_and, and_true, Nat.reduceAdd, Nat.reduceSub, Nat.zero_add, ite_cr, D.tup.injEq, D.int.injEq, D.bl.injEq, D.lst.injEq, D.str.injEq, List.cons.injEq, reduceCtorEq, if_true, if_false, ite_true, ite_false, Bool.not_true, Bool.not_false, Bool.false_eq_true, not_true, not_false, Bool.true_and, Bool.and_true, Bool.false_and, Bool.and_false, decide_eq_true_eq, ask_int, ask_bool, ask_tuple, ask_list, ask_str, isSub_tuple, isTup_tup, int2, int3, at0, at1, at2, at3, pow2, eFour, ePr, e3I, ePrF, e3K, eFr, eFrF, eTupF, eTupK, eIxF0, eIxF1, fr_inj, nd, nd0, nd1, nd2, nd3, oo, zo, lit0, lit1, div1, ip2, Bool.not_eq_true', decide_eq_false_iff_not, sRat, sPlus, sMinus, sTimes, and_assoc, exists_and_left, Nat.reduceLeDiff, Nat.reduceLT, Int.reduceLT, Int.reduceLE, Int.reduceMul, Int.reduceAdd, Int.reduceSub, Int.reduceNeg, Int.reduceToNat, ne_eq, decide_true, decide_false, eq_self, eIxD0, eIxD1, eTupD2, dsc_inj, eRAb, eRAt, eRAl, le_q0, fr_abs, sSize, sCommon, sBeyond, mZip, or_false, false_or, eRAd, eInT, eTupLd, eTupTr, tr_inj, ld_inj, rw_inj, eIxT0, eIxT1, eIxT2, eNeF, eEqF, eEqR, eRAtr, mEnum, eIxK0, eIxK1, eIxK2, sJoined, sDot]
  refine ⟨-1, .inl rfl, by omega, by omega, w hx, w hy, szc (by decide), -1, .inl rfl, by omega, by omega, w hu, w hv, szc (by decide), a + 3 + b, by omega, 2 * b + 2, by omega, by omega, z1, z1, a + 3 + b, by omega, 2 * b + 2, by omega, by omega, by omega, z1, z2, a + 3 + b, by omega, 2 * b + 2, by omega, by omega, z2, z2, hp⟩
theorem ok__law_draw {c : Addr} (B : Bn mg) (DF : Df K mg "_law_draw" s__law_draw c) : Ok P w K mg base ⟨K, Tb⟩ "_law_draw" ["_law_well_here", "_law_many"] 1 sDraw := by
  have sc : FnScope ["_law_well_here", "_law_many", "_law_seed", "_law_figure"] ["_law_well_here", "_law_many"] (defScope s__law_draw) := ⟨rfl, rfl, rfl, by decide +kernel, rfl, by decide +kernel, by decide +kernel⟩
  refine ok_D (N := ["_law_well_here", "_law_many", "_law_seed", "_law_figure"]) DF ⟨fun kV doc pm an cdv ct us hl => match us, hl with | [_, _], _ => rfl, fun kV doc pm an cdv ct p hp us hl => by simp only [kws, List.mem_cons, List.not_mem_nil, or_false] at hp; rcases hp with rfl | rfl <;> (match us, hl with | [_, _], _ => rfl)⟩ sc (fun ds P n h => by obtain ⟨_, rfl, _⟩ := h; rfl) (fun A outer s H E wl f hr => (jss_cons (js_if (jt_cmp d_gt (je_ix (d_ix rfl) (je_var (pv 0)) (je_int) (fun _ _ => rfl)) (je_int) (nomark _)) (jss_cons (js_asg (je_callB d_divmod rfl B.divmod Bt'.divmod (ja_cons (je_ix (d_ix rfl) (je_var (pv 0)) (je_int) (fun _ _ => rfl)) (ja_cons (je_var (pv 1)) ja_nil))) (jg_tup (n := 2) rfl rfl (jgs_cons (jg_wset (i := 0) (pg_sub (pv 0) (je_int) set_list)) (jgs_cons (jg (i := 3) sc.nd) jgs_nil)))) (jss_one (js_ret (je_var (pv 3))))) jss_nil) (jss_cons (js_asg (je_op (d_add rfl) (je_ix (d_ix rfl) (je_var (pv 0)) (je_int) (fun _ _ => rfl)) (je_int)) (jg_wset (i := 0) (pg_sub (pv 0) (je_int) set_list))) (jss_cons (js_set (i := 2) sc.nd rfl (by first | exact Or.inl rfl | exact Or.inr rfl) (je_op d_mod (je_callTy d_int rfl B.int Bt'.int (ja_cons (je_op (d_add rfl) (je_ix (d_ix rfl) (je_var (pv 0)) (je_int) (fun _ _ => rfl)) (je_op d_mul (je_int) (je_ix (d_ix rfl) (je_var (pv 0)) (je_int) (fun _ _ => rfl)))) ja_nil)) (je_int))) (jss_cons (js_set (i := 2) sc.nd rfl (by first | exact Or.inl rfl | exact Or.inr rfl) (je_op d_mod (je_callTy d_int rfl B.int Bt'.int (ja_cons (je_op (d_add rfl) (je_op d_mul (je_var (pv 2)) (je_op (d_add rfl) (je_op d_mod (je_callTy d_int rfl B.int Bt'.int (ja_cons (je_var (pv 2)) ja_nil)) (je_int)) (je_int))) (je_op d_mul (je_int) (je_ix (d_ix rfl) (je_var (pv 0)) (je_int) (fun _ _ => rfl)))) ja_nil)) (je_int))) (jss_cons (js_asg (je_var (pv 2)) (jg_wset (i := 0) (pg_sub (pv 0) (je_int) set_list))) (jss_one (js_ret (je_op d_mod (je_callTy d_int rfl B.int Bt'.int (ja_cons (je_op d_fdiv (je_var (pv 2)) (je_int)) ja_nil)) (je_var (pv 1))))))))))) ?_
  intro ds Pd n h
  obtain ⟨m, rfl, m0, m1, hn, hp⟩ := h
  have hn : n < 1000000000 := hn
  simp only [mRet, mRetN, mRetL, mIfS, mSeq, mNx, mPass, mExpr, mAsg, gSet, mVar, mC, mOp, mUn, mTB, mNotT, mAndT, mOrT, mAnd, mOr, mNot, mIf, mCons, mNil, mTup, mLst, mCall, mCallK, mSl, mOSome, mONone, mPar, mPar3, eTupD, eConsD, eNilD, eAdd1, eAdd2, eAdd3, eSub, eMul1, eMul2, eFdiv, eMod, ePow, eNeg, eLt, eLe, eGt, eGe, eEq1, eEq2, eNe1, eNe2, eIx1, eIx2, eIx3, eIx4, eSl1, eSl2, eSl3, eLen1, eLen2, eLen3, eAbs, eIntC, eMax2, eMin2, eList1, eList2, eList3, eTuple1, eTuple2, eAll, eAny, eIsi, eGcd2, eGcd3, eLcm, eIsqrt, eDivmod, eOne, eTwo, eThree, eB, eInt, eSeq1, eSeq2, eSeq3, eRng1, eRng2, eIsN, eNotN, gWset, mSeqI, mRng1, mRng2, startS, wipeS, List.map_cons, List.map_nil, List.length_cons, List.length_nil, List.replicate, List.cons_append, List.nil_append, List.append_nil, List.set, List.getElem?_cons_zero, List.getElem?_cons_succ, Option.some.injEq, SV.val.injEq, SV.own.injEq, exists_eq_left', exists_eq_left, true_and, and_true, Nat.reduceAdd, Nat.reduceSub, Nat.zero_add, ite_cr, D.tup.injEq, D.int.injEq, D.bl.injEq, D.lst.injEq, D.str.injEq, List.cons.injEq, reduceCtorEq, if_true, if_false, ite_true, ite_false, Bool.not_true, Bool.not_false, Bool.false_eq_true, not_true, not_false, Bool.true_and, Bool.and_true, Bool.false_and, Bool.and_false, decide_eq_true_eq, ask_int, ask_bool, ask_tuple, ask_list, ask_str, isSub_tuple, isTup_tup, int2, int3, at0, at1, at2, at3, pow2]
  refine ⟨by decide, fun z _ _ => ?_⟩
  split
  · refine ⟨by decide, fun z2 _ _ => ⟨⟨m0, m1⟩, by decide, fun h => absurd h (by decide), fun h => absurd h (by decide), ?_⟩⟩
    rw [if_neg (by decide)]
    exact hp _ _ (Int.emod_nonneg _ (by omega)) (Int.emod_lt_of_pos _ m0) (by omega)
  · refine ⟨by decide, fun z hz _ => ⟨by decide, fun _ => by have := hz trivial; omega, fun h => absurd h (by decide), by decide, fun a _ _ => ⟨by decide, fun b hb _ => ?_⟩⟩⟩
    have hz := hz trivial
    have hb := hb trivial
    have q0 : max n (z + 1).toNat ≤ n + 1 := by omega
    have q1 := fm (a := a + 40487 * b) (show (0 : Int) < 2147483629 by decide)
    have q2 := fm (a := (a + 40487 * b).fmod 2147483629) (show (0 : Int) < 9973 by decide)
    refine ⟨cms (by decide) (by omega), by decide, by decide, cms (by omega) (by omega), by decide, fun d hd _ => ?_⟩
    have hd := hd trivial
    refine ⟨cms (by decide) (by omega), by decide, by decide, fun h => absurd h (by decide), fun _ => ?_, ⟨by decide, by decide⟩, by omega, ?_⟩
    · have := fm (a := ((a + 40487 * b).fmod 2147483629 * (((a + 40487 * b).fmod 2147483629).fmod 9973 + 50021) + 31 * d)) (show (0 : Int) < 2147483629 by decide)
      omega
    rw [if_neg (by decide)]
    exact hp _ _ (fm m0).1 (fm m0).2 q0
theorem ok__law_fraction {c : Addr} (B : Bn mg) (DF : Df K mg "_law_fraction" s__law_fraction c) (O__law_draw : Ok P w K mg base ⟨K, Tb⟩ "_law_draw" ["_law_well_here", "_law_many"] 1 sDraw) (O__law_ratio : Ok P w K mg base ⟨K, Tb⟩ "_law_ratio" ["_law_n", "_law_m"] 1 sRat) : Ok P w K mg base ⟨K, Tb⟩ "_law_fraction" ["_law_well_here"] 2 (sDrawQ 3 (fun _ => True)) := by
  have sc : FnScope ["_law_well_here", "_law_way", "_law_top", "_law_most", "_law_n"] ["_law_well_here"] (defScope s__law_fraction) := ⟨rfl, rfl, rfl, by decide +kernel, rfl, by decide +kernel, by decide +kernel⟩
  refine ok_D (N := ["_law_well_here", "_law_way", "_law_top", "_law_most", "_law_n"]) DF ⟨fun kV doc pm an cdv ct us hl => match us, hl with | [_], _ => rfl, fun kV doc pm an cdv ct p hp us hl => by simp only [kws, List.mem_cons, List.not_mem_nil, or_false] at hp; rcases hp with rfl <;> (match us, hl with | [_], _ => rfl)⟩ sc (fun ds P n h => by obtain ⟨rfl, _⟩ := h; rfl) (fun A outer s H E wl f hr => (jss_cons (js_set (i := 1) sc.nd rfl (by first | exact Or.inl rfl | exact Or.inr rfl) (jc O__law_draw hr (ja_cons (je_var (pv 0)) (ja_cons (je_int) ja_nil)))) (jss_cut (js_asg (je_if (jt_cmp d_lt (je_var (pv 1)) (je_int) (nomark _)) (je_tup (ja_cons (je_int) (ja_cons (je_int) ja_nil))) (je_if (jt_cmp d_lt (je_var (pv 1)) (je_int) (nomark _)) (je_tup (ja_cons (je_int) (ja_cons (je_int) ja_nil))) (je_tup (ja_cons (je_int) (ja_cons (je_int) ja_nil))))) (jg_tup (n := 2) rfl rfl (jgs_cons (jg (i := 2) sc.nd) (jgs_cons (jg (i := 3) sc.nd) jgs_nil)))) (jss_cons (js_set (i := 4) sc.nd rfl (by first | exact Or.inl rfl | exact Or.inr rfl) (je_op d_sub (jc O__law_draw hr (ja_cons (je_var (pv 0)) (ja_cons (je_op (d_add rfl) (je_op d_mul (je_int) (je_var (pv 2))) (je_int)) ja_nil))) (je_var (pv 2)))) (jss_one (js_ret (jc O__law_ratio hr (ja_cons (je_var (pv 4)) (ja_cons (je_op (d_add rfl) (je_int) (jc O__law_draw hr (ja_cons (je_var (pv 0)) (ja_cons (je_var (pv 3)) ja_nil)))) ja_nil))))))))) ?_
  intro ds Pd n h
  obtain ⟨rfl, hn, hp⟩ := h
  unfold mCut
  simp only [mRet, mRetN, mRetL, mIfS, mSeq, mNx, mPass, mExpr, mAsg, gSet, mVar, mC, mOp, mUn, mTB, mNotT, mAndT, mOrT, mAnd, mOr, mNot, mIf, mCons, mNil, mTup, mLst, mCall, mCallK, mSl, mOSome, mONone, mPar, mPar3, eTupD, eConsD, eNilD, eAdd1, eAdd2, eAdd3, eSub, eMul1, eMul2, eFdiv, eMod, ePow, eNeg, eLt, eLe, eGt, eGe, eEq1, eEq2, eNe1, eNe2, eIx1, eIx2, eIx3, eIx4, eSl1, eSl2, eSl3, eLen1, eLen2, eLen3, eAbs, eIntC, eMax2, eMin2, eList1, eList2, eList3, eTuple1, eTuple2, eAll, eAny, eIsi, eGcd2, eGcd3, eLcm, eIsqrt, eDivmod, eOne, eTwo, eThree, eB, eInt, eSeq1, eSeq2, eSeq3, eRng1, eRng2, eIsN, eNotN, gWset, mSeqI, mRng1, mRng2, startS, wipeS, List.map_cons, List.map_nil, List.length_cons, List.length_nil, List.replicate, List.cons_append, List.nil_append, List.append_nil, List.set, List.getElem?_cons_zero, List.getElem?_cons_succ, Option.some.injEq, SV.val.injEq, SV.own.injEq, exists_eq_left', exists_eq_left, true_and, and_true, Nat.reduceAdd, Nat.reduceSub, Nat.zero_add, ite_cr, D.tup.injEq, D.int.injEq, D.bl.injEq, D.lst.injEq, D.str.injEq, List.cons.injEq, reduceCtorEq, if_true, if_false, ite_true, ite_false, Bool.not_true, Bool.not_false, Bool.false_eq_true, not_true, not_false, Bool.true_and, Bool.and_true, Bool.false_and, Bool.and_false, decide_eq_true_eq, ask_int, ask_bool, ask_tuple, ask_list, ask_str, isSub_tuple, isTup_tup, int2, int3, at0, at1, at2, at3, pow2, eFour, ePr, e3I, ePrF, e3K, eFr, eFrF, eTupF, eTupK, eIxF0, eIxF1, fr_inj, nd, nd0, nd1, nd2, nd3, oo, zo, lit0, lit1, div1, ip2, Bool.not_eq_true', decide_eq_false_iff_not, sRat, sPlus, sMinus, sTimes, and_assoc, exists_and_left, Nat.reduceLeDiff, Nat.reduceLT, Int.reduceLT, Int.reduceLE, Int.reduceMul, Int.reduceAdd, Int.reduceSub, Int.reduceNeg, Int.reduceToNat, ne_eq, decide_true, decide_false, eq_self, sDraw]
  refine ⟨by omega, fun w c1 w0 w1 h1 => ⟨fun l c => ∃ t m : Int, l = [some (SV.val .well), some (SV.val (.int w)), some (SV.val (.int t)), some (SV.val (.int m)), none] ∧ (4 ≤ t ∧ t ≤ 3000000) ∧ (4 ≤ m ∧ m ≤ 1013) ∧ c = c1, ?_, ?_⟩⟩
  · split
    · exact ⟨_, _, rfl, by decide, by decide, rfl⟩
    · split <;> exact ⟨_, _, rfl, by decide, by decide, rfl⟩
  · rintro l' c' ⟨t, m, rfl, ⟨t0, t1⟩, ⟨m0, m1⟩, rfl⟩
    simp only [mRet, mRetN, mRetL, mIfS, mSeq, mNx, mPass, mExpr, mAsg, gSet, mVar, mC, mOp, mUn, mTB, mNotT, mAndT, mOrT, mAnd, mOr, mNot, mIf, mCons, mNil, mTup, mLst, mCall, mCallK, mSl, mOSome, mONone, mPar, mPar3, eTupD, eConsD, eNilD, eAdd1, eAdd2, eAdd3, eSub, eMul1, eMul2, eFdiv, eMod, ePow, eNeg, eLt, eLe, eGt, eGe, eEq1, eEq2, eNe1, eNe2, eIx1, eIx2, eIx3, eIx4, eSl1, eSl2, eSl3, eLen1, eLen2, eLen3, eAbs, eIntC, eMax2, eMin2, eList1, eList2, eList3, eTuple1, eTuple2, eAll, eAny, eIsi, eGcd2, eGcd3, eLcm, eIsqrt, eDivmod, eOne, eTwo, eThree, eB, eInt, eSeq1, eSeq2, eSeq3, eRng1, eRng2, eIsN, eNotN, gWset, mSeqI, mRng1, mRng2, startS, wipeS, List.map_cons, List.map_nil, List.length_cons, List.length_nil, List.replicate, List.cons_append, List.nil_append, List.append_nil, List.set, List.getElem?_cons_zero, List.getElem?_cons_succ, Option.some.injEq, SV.val.injEq, SV.own.injEq, exists_eq_left', exists_eq_left, true_and, and_true, Nat.reduceAdd, Nat.reduceSub, Nat.zero_add, ite_cr, D.tup.injEq, D.int.injEq, D.bl.injEq, D.lst.injEq, D.str.injEq, List.cons.injEq, reduceCtorEq, if_true, if_false, ite_true, ite_false, Bool.not_true, Bool.not_false, Bool.false_eq_true, not_true, not_false, Bool.true_and, Bool.and_true, Bool.false_and, Bool.and_false, decide_eq_true_eq, ask_int, ask_bool, ask_tuple, ask_list, ask_str, isSub_tuple, isTup_tup, int2, int3, at0, at1, at2, at3, pow2, eFour, ePr, e3I, ePrF, e3K, eFr, eFrF, eTupF, eTupK, eIxF0, eIxF1, fr_inj, nd, nd0, nd1, nd2, nd3, oo, zo, lit0, lit1, div1, ip2, Bool.not_eq_true', decide_eq_false_iff_not, sRat, sPlus, sMinus, sTimes, and_assoc, exists_and_left, Nat.reduceLeDiff, Nat.reduceLT, Int.reduceLT, Int.reduceLE, Int.reduceMul, Int.reduceAdd, Int.reduceSub, Int.reduceNeg, Int.reduceToNat, ne_eq, decide_true, decide_false, eq_self, sDraw]
    refine ⟨cms (by decide) (by omega), by omega, by omega, by omega, fun x c2 x0 x1 h2 => ⟨by omega, by omega, by omega, fun y c3 y0 y1 h3 => ⟨by omega, b_lit (by omega) (by decide), b_lit (by omega) (by decide), ?_⟩⟩⟩
    exact hp _ _ (Sz2.div (by omega) (bt22 (by omega)) (bt10 (by omega))) trivial (by omega)
theorem ok__law_row {c : Addr} (B : Bn mg) (DF : Df K mg "_law_row" s__law_row c) (O__law_fraction : Ok P w K mg base ⟨K, Tb⟩ "_law_fraction" ["_law_well_here"] 2 (sDrawQ 3 (fun _ => True))) : Ok P w K mg base ⟨K, Tb⟩ "_law_row" ["_law_well_here", "_law_size"] 3 sRowD4 := by
  have sc : FnScope ["_law_well_here", "_law_size", "_law_found", "_law_k"] ["_law_well_here", "_law_size"] (defScope s__law_row) := ⟨rfl, rfl, rfl, by decide +kernel, rfl, by decide +kernel, by decide +kernel⟩
  refine ok_D (N := ["_law_well_here", "_law_size", "_law_found", "_law_k"]) DF ⟨fun kV doc pm an cdv ct us hl => match us, hl with | [_, _], _ => rfl, fun kV doc pm an cdv ct p hp us hl => by simp only [kws, List.mem_cons, List.not_mem_nil, or_false] at hp; rcases hp with rfl | rfl <;> (match us, hl with | [_, _], _ => rfl)⟩ sc (fun ds P n h => by obtain ⟨_, rfl, _⟩ := h; rfl) (fun A outer s H E wl f hr => (jss_cons (js_own (i := 2) sc.nd rfl (by first | exact Or.inl rfl | exact Or.inr rfl) ja_nil) (jss_cut (js_for PassesOwn.never rfl (ji_range1 rfl B.range (je_var (pv 1))) (jg (i := 3) sc.nd) (jss_one (js_app (i := 2) (pv 2) (jc O__law_fraction hr (ja_cons (je_var (pv 0)) ja_nil))))) (jss_frz (i := 2) (jss_one (js_ret (je_callTy (d_tuple rfl) rfl B.tuple Bt'.tuple (ja_cons (je_var (pv 2)) ja_nil)))))))) ?_
  intro ds Pd n h
  obtain ⟨k, rfl, k0, k1, hn, hp⟩ := h
  unfold mCut mFor
  simp only [mRet, mRetN, mRetL, mIfS, mSeq, mNx, mPass, mExpr, mAsg, gSet, mVar, mC, mOp, mUn, mTB, mNotT, mAndT, mOrT, mAnd, mOr, mNot, mIf, mCons, mNil, mTup, mLst, mCall, mCallK, mSl, mOSome, mONone, mPar, mPar3, eTupD, eConsD, eNilD, eAdd1, eAdd2, eAdd3, eSub, eMul1, eMul2, eFdiv, eMod, ePow, eNeg, eLt, eLe, eGt, eGe, eEq1, eEq2, eNe1, eNe2, eIx1, eIx2, eIx3, eIx4, eSl1, eSl2, eSl3, eLen1, eLen2, eLen3, eAbs, eIntC, eMax2, eMin2, eList1, eList2, eList3, eTuple1, eTuple2, eAll, eAny, eIsi, eGcd2, eGcd3, eLcm, eIsqrt, eDivmod, eOne, eTwo, eThree, eB, eInt, eSeq1, eSeq2, eSeq3, eRng1, eRng2, eIsN, eNotN, gWset, mSeqI, mRng1, mRng2, startS, wipeS, List.map_cons, List.map_nil, List.length_cons, List.length_nil, List.replicate, List.cons_append, List.nil_append, List.append_nil, List.set, List.getElem?_cons_zero, List.getElem?_cons_succ, Option.some.injEq, SV.val.injEq, SV.own.injEq, exists_eq_left', exists_eq_left, true_and, and_true, Nat.reduceAdd, Nat.reduceSub, Nat.zero_add, ite_cr, D.tup.injEq, D.int.injEq, D.bl.injEq, D.lst.injEq, D.str.injEq, List.cons.injEq, reduceCtorEq, if_true, if_false, ite_true, ite_false, Bool.not_true, Bool.not_false, Bool.false_eq_true, not_true, not_false, Bool.true_and, Bool.and_true, Bool.false_and, Bool.and_false, decide_eq_true_eq, ask_int, ask_bool, ask_tuple, ask_list, ask_str, isSub_tuple, isTup_tup, int2, int3, at0, at1, at2, at3, pow2, eFour, ePr, e3I, ePrF, e3K, eFr, eFrF, eTupF, eTupK, eIxF0, eIxF1, fr_inj, nd, nd0, nd1, nd2, nd3, oo, zo, lit0, lit1, div1, ip2, Bool.not_eq_true', decide_eq_false_iff_not, sRat, sPlus, sMinus, sTimes, and_assoc, exists_and_left, Nat.reduceLeDiff, Nat.reduceLT, Int.reduceLT, Int.reduceLE, Int.reduceMul, Int.reduceAdd, Int.reduceSub, Int.reduceNeg, Int.reduceToNat, ne_eq, decide_true, decide_false, eq_self, eIxD0, eIxD1, eTupD2, dsc_inj, eRAb, eRAt, eRAl, le_q0, fr_abs, sSize, sCommon, sBeyond, mZip, or_false, false_or, eRAd, eInT, eTupLd, eTupTr, tr_inj, ld_inj, rw_inj, eIxT0, eIxT1, eIxT2, eNeF, eEqF, eEqR, eRAtr, mEnum, eIxK0, eIxK1, eIxK2, mOwn, sDrawQ]
  refine ⟨by omega, by omega, ?_⟩
  refine ⟨fun l c => ∃ (qs : List Rat) (o : Option SV), l = [some (SV.val .well), some (SV.val (.int k)), some (SV.own (qs.map fr)), o] ∧ (qs.length : Int) = k ∧ Rz 22 10 qs ∧ c ≤ n + 12,
    ⟨fun i l c => ∃ (qs : List Rat) (o : Option SV), l = [some (SV.val .well), some (SV.val (.int k)), some (SV.own (qs.map fr)), o] ∧ qs.length = i ∧ Rz 22 10 qs ∧ c ≤ n + 3 * i,
      ⟨[], none, rfl, rfl, fun q hq => (by cases hq), by omega⟩, ?_, ?_⟩, ?_⟩
  · rintro i d l' c' hd ⟨qs, o, rfl, hl, hz, hc⟩
    have hi := rng_lt hd
    simp only [mRet, mRetN, mRetL, mIfS, mSeq, mNx, mPass, mExpr, mAsg, gSet, mVar, mC, mOp, mUn, mTB, mNotT, mAndT, mOrT, mAnd, mOr, mNot, mIf, mCons, mNil, mTup, mLst, mCall, mCallK, mSl, mOSome, mONone, mPar, mPar3, eTupD, eConsD, eNilD, eAdd1, eAdd2, eAdd3, eSub, eMul1, eMul2, eFdiv, eMod, ePow, eNeg, eLt, eLe, eGt, eGe, eEq1, eEq2, eNe1, eNe2, eIx1, eIx2, eIx3, eIx4, eSl1, eSl2, eSl3, eLen1, eLen2, eLen3, eAbs, eIntC, eMax2, eMin2, eList1, eList2, eList3, eTuple1, eTuple2, eAll, eAny, eIsi, eGcd2, eGcd3, eLcm, eIsqrt, eDivmod, eOne, eTwo, eThree, eB, eInt, eSeq1, eSeq2, eSeq3, eRng1, eRng2, eIsN, eNotN, gWset, mSeqI, mRng1, mRng2, startS, wipeS, List.map_cons, List.map_nil, List.length_cons, List.length_nil, List.replicate, List.cons_append, List.nil_append, List.append_nil, List.set, List.getElem?_cons_zero, List.getElem?_cons_succ, Option.some.injEq, SV.val.injEq, SV.own.injEq, exists_eq_left', exists_eq_left, true_and, and_true, Nat.reduceAdd, Nat.reduceSub, Nat.zero_add, ite_cr, D.tup.injEq, D.int.injEq, D.bl.injEq, D.lst.injEq, D.str.injEq, List.cons.injEq, reduceCtorEq, if_true, if_false, ite_true, ite_false, Bool.not_true, Bool.not_false, Bool.false_eq_true, not_true, not_false, Bool.true_and, Bool.and_true, Bool.false_and, Bool.and_false, decide_eq_true_eq, ask_int, ask_bool, ask_tuple, ask_list, ask_str, isSub_tuple, isTup_tup, int2, int3, at0, at1, at2, at3, pow2, eFour, ePr, e3I, ePrF, e3K, eFr, eFrF, eTupF, eTupK, eIxF0, eIxF1, fr_inj, nd, nd0, nd1, nd2, nd3, oo, zo, lit0, lit1, div1, ip2, Bool.not_eq_true', decide_eq_false_iff_not, sRat, sPlus, sMinus, sTimes, and_assoc, exists_and_left, Nat.reduceLeDiff, Nat.reduceLT, Int.reduceLT, Int.reduceLE, Int.reduceMul, Int.reduceAdd, Int.reduceSub, Int.reduceNeg, Int.reduceToNat, ne_eq, decide_true, decide_false, eq_self, eIxD0, eIxD1, eTupD2, dsc_inj, eRAb, eRAt, eRAl, le_q0, fr_abs, sSize, sCommon, sBeyond, mZip, or_false, false_or, eRAd, eInT, eTupLd, eTupTr, tr_inj, ld_inj, rw_inj, eIxT0, eIxT1, eIxT2, eNeF, eEqF, eEqR, eRAtr, mEnum, eIxK0, eIxK1, eIxK2, mApp]
    refine ⟨rfl, by omega, fun q n' hq _ h' => ⟨by rw [List.length_map]; omega, ?_⟩⟩
    refine ⟨qs ++ [q], by rw [List.map_append]; rfl, by rw [List.length_append, hl]; rfl, ?_, by omega⟩
    intro r hr
    rcases List.mem_append.mp hr with hr | hr
    · exact hz r hr
    · obtain rfl : r = q := by simpa using hr
      exact hq
  · rintro l' c' ⟨qs, o, rfl, hl, hz, hc⟩
    have hl : qs.length = (rangeD 0 k.toNat).length := hl
    have hc : c' ≤ n + 3 * (rangeD 0 k.toNat).length := hc
    have hr : (rangeD 0 k.toNat).length = k.toNat := by unfold rangeD; rw [List.length_map, List.length_range]
    exact ⟨qs, o, rfl, by omega, hz, by omega⟩
  · rintro l' c' ⟨qs, o, rfl, hl, hz, hc⟩
    simp only [mRet, mRetN, mRetL, mIfS, mSeq, mNx, mPass, mExpr, mAsg, gSet, mVar, mC, mOp, mUn, mTB, mNotT, mAndT, mOrT, mAnd, mOr, mNot, mIf, mCons, mNil, mTup, mLst, mCall, mCallK, mSl, mOSome, mONone, mPar, mPar3, eTupD, eConsD, eNilD, eAdd1, eAdd2, eAdd3, eSub, eMul1, eMul2, eFdiv, eMod, ePow, eNeg, eLt, eLe, eGt, eGe, eEq1, eEq2, eNe1, eNe2, eIx1, eIx2, eIx3, eIx4, eSl1, eSl2, eSl3, eLen1, eLen2, eLen3, eAbs, eIntC, eMax2, eMin2, eList1, eList2, eList3, eTuple1, eTuple2, eAll, eAny, eIsi, eGcd2, eGcd3, eLcm, eIsqrt, eDivmod, eOne, eTwo, eThree, eB, eInt, eSeq1, eSeq2, eSeq3, eRng1, eRng2, eIsN, eNotN, gWset, mSeqI, mRng1, mRng2, startS, wipeS, List.map_cons, List.map_nil, List.length_cons, List.length_nil, List.replicate, List.cons_append, List.nil_append, List.append_nil, List.set, List.getElem?_cons_zero, List.getElem?_cons_succ, Option.some.injEq, SV.val.injEq, SV.own.injEq, exists_eq_left', exists_eq_left, true_and, and_true, Nat.reduceAdd, Nat.reduceSub, Nat.zero_add, ite_cr, D.tup.injEq, D.int.injEq, D.bl.injEq, D.lst.injEq, D.str.injEq, List.cons.injEq, reduceCtorEq, if_true, if_false, ite_true, ite_false, Bool.not_true, Bool.not_false, Bool.false_eq_true, not_true, not_false, Bool.true_and, Bool.and_true, Bool.false_and, Bool.and_false, decide_eq_true_eq, ask_int, ask_bool, ask_tuple, ask_list, ask_str, isSub_tuple, isTup_tup, int2, int3, at0, at1, at2, at3, pow2, eFour, ePr, e3I, ePrF, e3K, eFr, eFrF, eTupF, eTupK, eIxF0, eIxF1, fr_inj, nd, nd0, nd1, nd2, nd3, oo, zo, lit0, lit1, div1, ip2, Bool.not_eq_true', decide_eq_false_iff_not, sRat, sPlus, sMinus, sTimes, and_assoc, exists_and_left, Nat.reduceLeDiff, Nat.reduceLT, Int.reduceLT, Int.reduceLE, Int.reduceMul, Int.reduceAdd, Int.reduceSub, Int.reduceNeg, Int.reduceToNat, ne_eq, decide_true, decide_false, eq_self, eIxD0, eIxD1, eTupD2, dsc_inj, eRAb, eRAt, eRAl, le_q0, fr_abs, sSize, sCommon, sBeyond, mZip, or_false, false_or, eRAd, eInT, eTupLd, eTupTr, tr_inj, ld_inj, rw_inj, eIxT0, eIxT1, eIxT2, eNeF, eEqF, eEqR, eRAtr, mEnum, eIxK0, eIxK1, eIxK2, mFrz]
    exact hp qs c' hl hz hc
theorem ok__law_scaled {c : Addr} (B : Bn mg) (DF : Df K mg "_law_scaled" s__law_scaled c) (O__law_times : Ok P w K mg base ⟨K, Tb⟩ "_law_times" ["_law_x", "_law_y"] 2 sTimes) : Ok P w K mg base ⟨K, Tb⟩ "_law_scaled" ["_law_factor", "_law_row_here"] 3 sScaled := by
  have sc : FnScope ["_law_factor", "_law_row_here", "_law_each"] ["_law_factor", "_law_row_here"] (defScope s__law_scaled) := ⟨rfl, rfl, rfl, by decide +kernel, rfl, by decide +kernel, by decide +kernel⟩
  refine ok_D (N := ["_law_factor", "_law_row_here", "_law_each"]) DF ⟨fun kV doc pm an cdv ct us hl => match us, hl with | [_, _], _ => rfl, fun kV doc pm an cdv ct p hp us hl => by simp only [kws, List.mem_cons, List.not_mem_nil, or_false] at hp; rcases hp with rfl | rfl <;> (match us, hl with | [_, _], _ => rfl)⟩ sc (fun ds P n h => by obtain ⟨_, _, rfl, _⟩ := g2_inv h; rfl) (fun A outer s H E wl f hr => (jss_one (js_ret (je_callTy (d_tuple rfl) rfl B.tuple Bt'.tuple (ja_cons (je_lc (own := [("_law_each", 2)]) rfl sc.nd (ji_seq rfl (je_var (pv 1))) (blkOk_by (by kernel_rfl)) (by decide) (fun _ _ _ _ _ => (jg (i := 2) sc.nd)) (fun _ _ _ _ _ => jts_nil) (fun _ _ _ _ _ => (jc O__law_times hr (ja_cons (je_var (pv 0)) (ja_cons (je_var (pv 2)) ja_nil))))) ja_nil))))) ?_
  intro ds Pd n hh
  obtain ⟨d, e', rfl, f, x, ⟨rfl, rfl⟩, ⟨lx, sf, sx⟩, hp⟩ := g2_inv hh
  unfold mLc rwD
  simp only [mRet, mRetN, mRetL, mIfS, mSeq, mNx, mPass, mExpr, mAsg, gSet, mVar, mC, mOp, mUn, mTB, mNotT, mAndT, mOrT, mAnd, mOr, mNot, mIf, mCons, mNil, mTup, mLst, mCall, mCallK, mSl, mOSome, mONone, mPar, mPar3, eTupD, eConsD, eNilD, eAdd1, eAdd2, eAdd3, eSub, eMul1, eMul2, eFdiv, eMod, ePow, eNeg, eLt, eLe, eGt, eGe, eEq1, eEq2, eNe1, eNe2, eIx1, eIx2, eIx3, eIx4, eSl1, eSl2, eSl3, eLen1, eLen2, eLen3, eAbs, eIntC, eMax2, eMin2, eList1, eList2, eList3, eTuple1, eTuple2, eAll, eAny, eIsi, eGcd2, eGcd3, eLcm, eIsqrt, eDivmod, eOne, eTwo, eThree, eB, eInt, eSeq1, eSeq2, eSeq3, eRng1, eRng2, eIsN, eNotN, gWset, mSeqI, mRng1, mRng2, startS, wipeS, List.map_cons, List.map_nil, List.length_cons, List.length_nil, List.replicate, List.cons_append, List.nil_append, List.append_nil, List.set, List.getElem?_cons_zero, List.getElem?_cons_succ, Option.some.injEq, SV.val.injEq, SV.own.injEq, exists_eq_left', exists_eq_left, true_and, and_true, Nat.reduceAdd, Nat.reduceSub, Nat.zero_add, ite_cr, D.tup.injEq, D.int.injEq, D.bl.injEq, D.lst.injEq, D.str.injEq, List.cons.injEq, reduceCtorEq, if_true, if_false, ite_true, ite_false, Bool.not_true, Bool.not_false, Bool.false_eq_true, not_true, not_false, Bool.true_and, Bool.and_true, Bool.false_and, Bool.and_false, decide_eq_true_eq, ask_int, ask_bool, ask_tuple, ask_list, ask_str, isSub_tuple, isTup_tup, int2, int3, at0, at1, at2, at3, pow2, eFour, ePr, e3I, ePrF, e3K, eFr, eFrF, eTupF, eTupK, eIxF0, eIxF1, fr_inj, nd, nd0, nd1, nd2, nd3, oo, zo, lit0, lit1, div1, ip2, Bool.not_eq_true', decide_eq_false_iff_not, sRat, sPlus, sMinus, sTimes, and_assoc, exists_and_left, Nat.reduceLeDiff, Nat.reduceLT, Int.reduceLT, Int.reduceLE, Int.reduceMul, Int.reduceAdd, Int.reduceSub, Int.reduceNeg, Int.reduceToNat, ne_eq, decide_true, decide_false, eq_self, eIxD0, eIxD1, eTupD2, dsc_inj, eRAb, eRAt, eRAl, le_q0, fr_abs, sSize, sCommon, sBeyond, mZip, or_false, false_or, eRAd, eInT, eTupLd, eTupTr, tr_inj, ld_inj, rw_inj, eIxT0, eIxT1, eIxT2, eNeF, eEqF, eEqR, eRAtr, mEnum, eIxK0, eIxK1, eIxK2]
  refine ⟨by rw [List.length_map]; omega, ?_⟩
  refine mColl_map (f := fun q => fr (f * q)) (fun q hq yes no c hy => ?_) ?_
  · unfold turnD
    simp only [mRet, mRetN, mRetL, mIfS, mSeq, mNx, mPass, mExpr, mAsg, gSet, mVar, mC, mOp, mUn, mTB, mNotT, mAndT, mOrT, mAnd, mOr, mNot, mIf, mCons, mNil, mTup, mLst, mCall, mCallK, mSl, mOSome, mONone, mPar, mPar3, eTupD, eConsD, eNilD, eAdd1, eAdd2, eAdd3, eSub, eMul1, eMul2, eFdiv, eMod, ePow, eNeg, eLt, eLe, eGt, eGe, eEq1, eEq2, eNe1, eNe2, eIx1, eIx2, eIx3, eIx4, eSl1, eSl2, eSl3, eLen1, eLen2, eLen3, eAbs, eIntC, eMax2, eMin2, eList1, eList2, eList3, eTuple1, eTuple2, eAll, eAny, eIsi, eGcd2, eGcd3, eLcm, eIsqrt, eDivmod, eOne, eTwo, eThree, eB, eInt, eSeq1, eSeq2, eSeq3, eRng1, eRng2, eIsN, eNotN, gWset, mSeqI, mRng1, mRng2, startS, wipeS, List.map_cons, List.map_nil, List.length_cons, List.length_nil, List.replicate, List.cons_append, List.nil_append, List.append_nil, List.set, List.getElem?_cons_zero, List.getElem?_cons_succ, Option.some.injEq, SV.val.injEq, SV.own.injEq, exists_eq_left', exists_eq_left, true_and, and_true, Nat.reduceAdd, Nat.reduceSub, Nat.zero_add, ite_cr, D.tup.injEq, D.int.injEq, D.bl.injEq, D.lst.injEq, D.str.injEq, List.cons.injEq, reduceCtorEq, if_true, if_false, ite_true, ite_false, Bool.not_true, Bool.not_false, Bool.false_eq_true, not_true, not_false, Bool.true_and, Bool.and_true, Bool.false_and, Bool.and_false, decide_eq_true_eq, ask_int, ask_bool, ask_tuple, ask_list, ask_str, isSub_tuple, isTup_tup, int2, int3, at0, at1, at2, at3, pow2, eFour, ePr, e3I, ePrF, e3K, eFr, eFrF, eTupF, eTupK, eIxF0, eIxF1, fr_inj, nd, nd0, nd1, nd2, nd3, oo, zo, lit0, lit1, div1, ip2, Bool.not_eq_true', decide_eq_false_iff_not, sRat, sPlus, sMinus, sTimes, and_assoc, exists_and_left, Nat.reduceLeDiff, Nat.reduceLT, Int.reduceLT, Int.reduceLE, Int.reduceMul, Int.reduceAdd, Int.reduceSub, Int.reduceNeg, Int.reduceToNat, ne_eq, decide_true, decide_false, eq_self, eIxD0, eIxD1, eTupD2, dsc_inj, eRAb, eRAt, eRAl, le_q0, fr_abs, sSize, sCommon, sBeyond, mZip, or_false, false_or, eRAd, eInT, eTupLd, eTupTr, tr_inj, ld_inj, rw_inj, eIxT0, eIxT1, eIxT2, eNeF, eEqF, eEqR, eRAtr, mEnum, eIxK0, eIxK1, eIxK2, mYes]
    exact ⟨sf.mono (by decide), (sx q hq).mono (by decide), hy⟩
  · have e : (scl f x).map fr = x.map fun q => fr (f * q) := by unfold scl; rw [List.map_map]; rfl
    rw [← e]
    exact hp
theorem ok_is_whole {c : Addr} (B : Bn mg) (DF : Df K mg "is_whole" s_is_whole c) : Ok P w K mg base ⟨K, Tb⟩ "is_whole" ["value"] 1 sIsWhole := by
  have sc : FnScope ["value"] ["value"] (defScope s_is_whole) := ⟨rfl, rfl, rfl, by decide +kernel, rfl, by decide +kernel, by decide +kernel⟩
  refine ok_D (N := ["value"]) DF ⟨fun kV doc pm an cdv ct us hl => match us, hl with | [_], _ => rfl, fun kV doc pm an cdv ct p hp us hl => by simp only [kws, List.mem_cons, List.not_mem_nil, or_false] at hp; rcases hp with rfl <;> (match us, hl with | [_], _ => rfl)⟩ sc (fun ds P n h => by obtain ⟨_, rfl, _⟩ := g1_inv h; rfl) (fun A outer s H E wl f hr => (jss_one (js_ret ((je_and (je_callB (d_isi rfl) rfl B.isinstance Bt'.isinstance (ja_cons (je_var (pv 0)) (ja_cons (je_ty rfl B.int Bt'.int) ja_nil))) (je_one (je_not (je_callB (d_isi rfl) rfl B.isinstance Bt'.isinstance (ja_cons (je_var (pv 0)) (ja_cons (je_ty rfl B.bool Bt'.bool) ja_nil)))))))))) ?_
  intro ds Pd n h
  obtain ⟨d, rfl, hf, hp⟩ := g1_inv h
  have ht := fine_ty hf
  simp only [mRet, mRetN, mRetL, mIfS, mSeq, mNx, mPass, mExpr, mAsg, gSet, mVar, mC, mOp, mUn, mTB, mNotT, mAndT, mOrT, mAnd, mOr, mNot, mIf, mCons, mNil, mTup, mLst, mCall, mCallK, mSl, mOSome, mONone, mPar, mPar3, eTupD, eConsD, eNilD, eAdd1, eAdd2, eAdd3, eSub, eMul1, eMul2, eFdiv, eMod, ePow, eNeg, eLt, eLe, eGt, eGe, eEq1, eEq2, eNe1, eNe2, eIx1, eIx2, eIx3, eIx4, eSl1, eSl2, eSl3, eLen1, eLen2, eLen3, eAbs, eIntC, eMax2, eMin2, eList1, eList2, eList3, eTuple1, eTuple2, eAll, eAny, eIsi, eGcd2, eGcd3, eLcm, eIsqrt, eDivmod, eOne, eTwo, eThree, eB, eInt, eSeq1, eSeq2, eSeq3, eRng1, eRng2, eIsN, eNotN, gWset, mSeqI, mRng1, mRng2, startS, wipeS, List.map_cons, List.map_nil, List.length_cons, List.length_nil, List.replicate, List.cons_append, List.nil_append, List.append_nil, List.set, List.getElem?_cons_zero, List.getElem?_cons_succ, Option.some.injEq, SV.val.injEq, SV.own.injEq, exists_eq_left', exists_eq_left, true_and, and_true, Nat.reduceAdd, Nat.reduceSub, Nat.zero_add, ite_cr, D.tup.injEq, D.int.injEq, D.bl.injEq, D.lst.injEq, D.str.injEq, List.cons.injEq, reduceCtorEq, if_true, if_false, ite_true, ite_false, Bool.not_true, Bool.not_false, Bool.false_eq_true, not_true, not_false, Bool.true_and, Bool.and_true, Bool.false_and, Bool.and_false, decide_eq_true_eq, ask_int, ask_bool, ask_tuple, ask_list, ask_str, isSub_tuple, isTup_tup, int2, int3, at0, at1, at2, at3, pow2, ht]
  rw [isSub_int, isSub_bool]
  cases d <;> simp_all [isWhole, ite_cr]
theorem ok_is_fraction {c : Addr} (B : Bn mg) (DF : Df K mg "is_fraction" s_is_fraction c) (m_gcd : mg "gcd" = some (.builtin "math.gcd")) (O_is_whole : Ok P w K mg base ⟨K, Tb⟩ "is_whole" ["value"] 1 sIsWhole) : Ok P w K mg base ⟨K, Tb⟩ "is_fraction" ["value"] 2 sIsFraction := by
  have sc : FnScope ["value", "top", "bottom"] ["value"] (defScope s_is_fraction) := ⟨rfl, rfl, rfl, by decide +kernel, rfl, by decide +kernel, by decide +kernel⟩
  refine ok_D (N := ["value", "top", "bottom"]) DF ⟨fun kV doc pm an cdv ct us hl => match us, hl with | [_], _ => rfl, fun kV doc pm an cdv ct p hp us hl => by simp only [kws, List.mem_cons, List.not_mem_nil, or_false] at hp; rcases hp with rfl <;> (match us, hl with | [_], _ => rfl)⟩ sc (fun ds P n h => by obtain ⟨_, rfl, _⟩ := g1_inv h; rfl) (fun A outer s H E wl f hr => (jss_cons (js_if (PW.pt (jw_or (jt_not (jt_val (je_callB (d_isi rfl) rfl B.isinstance Bt'.isinstance (ja_cons (je_var (pv 0)) (ja_cons (je_ty rfl B.tuple Bt'.tuple) ja_nil))))) (jw_or1 (jt_cmp (d_ne rfl hr.cl) (je_callB (d_len rfl) rfl B.len Bt'.len (ja_cons (je_var (pv 0)) ja_nil)) (je_int) (nomark _))))) (jss_one (js_ret (je_bl))) jss_nil) (jss_cons (js_asg (je_var (pv 0)) (jg_tup (n := 2) rfl rfl (jgs_cons (jg (i := 1) sc.nd) (jgs_cons (jg (i := 2) sc.nd) jgs_nil)))) (jss_one (js_ret ((je_and (jc O_is_whole hr (ja_cons (je_var (pv 1)) ja_nil)) (je_and (jc O_is_whole hr (ja_cons (je_var (pv 2)) ja_nil)) (je_and (je_cmp d_gt (je_var (pv 2)) (je_int) (nomark _)) (je_one (je_cmp (d_eq rfl hr.cl) (je_callF d_gcd2 rfl m_gcd (ja_cons (je_var (pv 1)) (ja_cons (je_var (pv 2)) ja_nil))) (je_int) (nomark _)))))))))))) ?_
  intro ds Pd n h
  obtain ⟨d, rfl, hf, hp⟩ := g1_inv h
  have ht := fine_ty hf
  by_cases hd : isTup d = true
  · obtain ⟨xs, rfl⟩ := isTup_iff.mp hd
    have hx := fine_tup.mp hf
    by_cases hl : xs.length = 2
    · match xs, hl, hx, hp, ht with
      | [a, b], _, hx, hp, ht =>
        have ha : a.fine = true := hx a (by simp)
        have hb : b.fine = true := hx b (by simp)
        by_cases wa : isWhole a = true
        · obtain ⟨i, rfl⟩ := isWhole_iff.mp wa
          by_cases wb : isWhole b = true
          · obtain ⟨j, rfl⟩ := isWhole_iff.mp wb
            rw [fracB_int] at hp
            simp only [mRet, mRetN, mRetL, mIfS, mSeq, mNx, mPass, mExpr, mAsg, gSet, mVar, mC, mOp, mUn, mTB, mNotT, mAndT, mOrT, mAnd, mOr, mNot, mIf, mCons, mNil, mTup, mLst, mCall, mCallK, mSl, mOSome, mONone, mPar, mPar3, eTupD, eConsD, eNilD, eAdd1, eAdd2, eAdd3, eSub, eMul1, eMul2, eFdiv, eMod, ePow, eNeg, eLt, eLe, eGt, eGe, eEq1, eEq2, eNe1, eNe2, eIx1, eIx2, eIx3, eIx4, eSl1, eSl2, eSl3, eLen1, eLen2, eLen3, eAbs, eIntC, eMax2, eMin2, eList1, eList2, eList3, eTuple1, eTuple2, eAll, eAny, eIsi, eGcd2, eGcd3, eLcm, eIsqrt, eDivmod, eOne, eTwo, eThree, eB, eInt, eSeq1, eSeq2, eSeq3, eRng1, eRng2, eIsN, eNotN, gWset, mSeqI, mRng1, mRng2, startS, wipeS, List.map_cons, List.map_nil, List.length_cons, List.length_nil, List.replicate, List.cons_append, List.nil_append, List.append_nil, List.set, List.getElem?_cons_zero, List.getElem?_cons_succ, Option.some.injEq, SV.val.injEq, SV.own.injEq, exists_eq_left', exists_eq_left, true_and, and_true, Nat.reduceAdd, Nat.reduceSub, Nat.zero_add, ite_cr, D.tup.injEq, D.int.injEq, D.bl.injEq, D.lst.injEq, D.str.injEq, List.cons.injEq, reduceCtorEq, if_true, if_false, ite_true, ite_false, Bool.not_true, Bool.not_false, Bool.false_eq_true, not_true, not_false, Bool.true_and, Bool.and_true, Bool.false_and, Bool.and_false, decide_eq_true_eq, ask_int, ask_bool, ask_tuple, ask_list, ask_str, isSub_tuple, isTup_tup, int2, int3, at0, at1, at2, at3, pow2, ht, sIsWhole, ha, hb, isWhole_int, nat1]
            by_cases h1 : 0 < j <;> by_cases h2 : Nat.gcd i.natAbs j.natAbs = 1 <;> simp [h1, h2] at hp ⊢ <;> exact hp
          · rw [fracB_no (by rintro a b h; cases h; exact wb rfl)] at hp
            simp only [mRet, mRetN, mRetL, mIfS, mSeq, mNx, mPass, mExpr, mAsg, gSet, mVar, mC, mOp, mUn, mTB, mNotT, mAndT, mOrT, mAnd, mOr, mNot, mIf, mCons, mNil, mTup, mLst, mCall, mCallK, mSl, mOSome, mONone, mPar, mPar3, eTupD, eConsD, eNilD, eAdd1, eAdd2, eAdd3, eSub, eMul1, eMul2, eFdiv, eMod, ePow, eNeg, eLt, eLe, eGt, eGe, eEq1, eEq2, eNe1, eNe2, eIx1, eIx2, eIx3, eIx4, eSl1, eSl2, eSl3, eLen1, eLen2, eLen3, eAbs, eIntC, eMax2, eMin2, eList1, eList2, eList3, eTuple1, eTuple2, eAll, eAny, eIsi, eGcd2, eGcd3, eLcm, eIsqrt, eDivmod, eOne, eTwo, eThree, eB, eInt, eSeq1, eSeq2, eSeq3, eRng1, eRng2, eIsN, eNotN, gWset, mSeqI, mRng1, mRng2, startS, wipeS, List.map_cons, List.map_nil, List.length_cons, List.length_nil, List.replicate, List.cons_append, List.nil_append, List.append_nil, List.set, List.getElem?_cons_zero, List.getElem?_cons_succ, Option.some.injEq, SV.val.injEq, SV.own.injEq, exists_eq_left', exists_eq_left, true_and, and_true, Nat.reduceAdd, Nat.reduceSub, Nat.zero_add, ite_cr, D.tup.injEq, D.int.injEq, D.bl.injEq, D.lst.injEq, D.str.injEq, List.cons.injEq, reduceCtorEq, if_true, if_false, ite_true, ite_false, Bool.not_true, Bool.not_false, Bool.false_eq_true, not_true, not_false, Bool.true_and, Bool.and_true, Bool.false_and, Bool.and_false, decide_eq_true_eq, ask_int, ask_bool, ask_tuple, ask_list, ask_str, isSub_tuple, isTup_tup, int2, int3, at0, at1, at2, at3, pow2, ht, sIsWhole, ha, hb, isWhole_int, wb]
            exact hp
        · rw [fracB_no (by rintro a b h; cases h; exact wa rfl)] at hp
          simp only [mRet, mRetN, mRetL, mIfS, mSeq, mNx, mPass, mExpr, mAsg, gSet, mVar, mC, mOp, mUn, mTB, mNotT, mAndT, mOrT, mAnd, mOr, mNot, mIf, mCons, mNil, mTup, mLst, mCall, mCallK, mSl, mOSome, mONone, mPar, mPar3, eTupD, eConsD, eNilD, eAdd1, eAdd2, eAdd3, eSub, eMul1, eMul2, eFdiv, eMod, ePow, eNeg, eLt, eLe, eGt, eGe, eEq1, eEq2, eNe1, eNe2, eIx1, eIx2, eIx3, eIx4, eSl1, eSl2, eSl3, eLen1, eLen2, eLen3, eAbs, eIntC, eMax2, eMin2, eList1, eList2, eList3, eTuple1, eTuple2, eAll, eAny, eIsi, eGcd2, eGcd3, eLcm, eIsqrt, eDivmod, eOne, eTwo, eThree, eB, eInt, eSeq1, eSeq2, eSeq3, eRng1, eRng2, eIsN, eNotN, gWset, mSeqI, mRng1, mRng2, startS, wipeS, List.map_cons, List.map_nil, List.length_cons, List.length_nil, List.replicate, List.cons_append, List.nil_append, List.append_nil, List.set, List.getElem?_cons_zero, List.getElem?_cons_succ, Option.some.injEq, SV.val.injEq, SV.own.injEq, exists_eq_left', exists_eq_left, true_and, and_true, Nat.reduceAdd, Nat.reduceSub, Nat.zero_add, ite_cr, D.tup.injEq, D.int.injEq, D.bl.injEq, D.lst.injEq, D.str.injEq, List.cons.injEq, reduceCtorEq, if_true, if_false, ite_true, ite_false, Bool.not_true, Bool.not_false, Bool.false_eq_true, not_true, not_false, Bool.true_and, Bool.and_true, Bool.false_and, Bool.and_false, decide_eq_true_eq, ask_int, ask_bool, ask_tuple, ask_list, ask_str, isSub_tuple, isTup_tup, int2, int3, at0, at1, at2, at3, pow2, ht, sIsWhole, ha, hb, wa]
          exact hp
    · rw [fracB_no (by rintro a b h; cases h; exact hl rfl)] at hp
      have : ¬ ((xs.length : Nat) : Int) = 2 := by omega
      simp only [mRet, mRetN, mRetL, mIfS, mSeq, mNx, mPass, mExpr, mAsg, gSet, mVar, mC, mOp, mUn, mTB, mNotT, mAndT, mOrT, mAnd, mOr, mNot, mIf, mCons, mNil, mTup, mLst, mCall, mCallK, mSl, mOSome, mONone, mPar, mPar3, eTupD, eConsD, eNilD, eAdd1, eAdd2, eAdd3, eSub, eMul1, eMul2, eFdiv, eMod, ePow, eNeg, eLt, eLe, eGt, eGe, eEq1, eEq2, eNe1, eNe2, eIx1, eIx2, eIx3, eIx4, eSl1, eSl2, eSl3, eLen1, eLen2, eLen3, eAbs, eIntC, eMax2, eMin2, eList1, eList2, eList3, eTuple1, eTuple2, eAll, eAny, eIsi, eGcd2, eGcd3, eLcm, eIsqrt, eDivmod, eOne, eTwo, eThree, eB, eInt, eSeq1, eSeq2, eSeq3, eRng1, eRng2, eIsN, eNotN, gWset, mSeqI, mRng1, mRng2, startS, wipeS, List.map_cons, List.map_nil, List.length_cons, List.length_nil, List.replicate, List.cons_append, List.nil_append, List.append_nil, List.set, List.getElem?_cons_zero, List.getElem?_cons_succ, Option.some.injEq, SV.val.injEq, SV.own.injEq, exists_eq_left', exists_eq_left, true_and, and_true, Nat.reduceAdd, Nat.reduceSub, Nat.zero_add, ite_cr, D.tup.injEq, D.int.injEq, D.bl.injEq, D.lst.injEq, D.str.injEq, List.cons.injEq, reduceCtorEq, if_true, if_false, ite_true, ite_false, Bool.not_true, Bool.not_false, Bool.false_eq_true, not_true, not_false, Bool.true_and, Bool.and_true, Bool.false_and, Bool.and_false, decide_eq_true_eq, ask_int, ask_bool, ask_tuple, ask_list, ask_str, isSub_tuple, isTup_tup, int2, int3, at0, at1, at2, at3, pow2, ht, this, decide_false]
      exact hp
  · rw [fracB_no (by rintro a b h; cases h; exact hd rfl)] at hp
    simp only [mRet, mRetN, mRetL, mIfS, mSeq, mNx, mPass, mExpr, mAsg, gSet, mVar, mC, mOp, mUn, mTB, mNotT, mAndT, mOrT, mAnd, mOr, mNot, mIf, mCons, mNil, mTup, mLst, mCall, mCallK, mSl, mOSome, mONone, mPar, mPar3, eTupD, eConsD, eNilD, eAdd1, eAdd2, eAdd3, eSub, eMul1, eMul2, eFdiv, eMod, ePow, eNeg, eLt, eLe, eGt, eGe, eEq1, eEq2, eNe1, eNe2, eIx1, eIx2, eIx3, eIx4, eSl1, eSl2, eSl3, eLen1, eLen2, eLen3, eAbs, eIntC, eMax2, eMin2, eList1, eList2, eList3, eTuple1, eTuple2, eAll, eAny, eIsi, eGcd2, eGcd3, eLcm, eIsqrt, eDivmod, eOne, eTwo, eThree, eB, eInt, eSeq1, eSeq2, eSeq3, eRng1, eRng2, eIsN, eNotN, gWset, mSeqI, mRng1, mRng2, startS, wipeS, List.map_cons, List.map_nil, List.length_cons, List.length_nil, List.replicate, List.cons_append, List.nil_append, List.append_nil, List.set, List.getElem?_cons_zero, List.getElem?_cons_succ, Option.some.injEq, SV.val.injEq, SV.own.injEq, exists_eq_left', exists_eq_left, true_and, and_true, Nat.reduceAdd, Nat.reduceSub, Nat.zero_add, ite_cr, D.tup.injEq, D.int.injEq, D.bl.injEq, D.lst.injEq, D.str.injEq, List.cons.injEq, reduceCtorEq, if_true, if_false, ite_true, ite_false, Bool.not_true, Bool.not_false, Bool.false_eq_true, not_true, not_false, Bool.true_and, Bool.and_true, Bool.false_and, Bool.and_false, decide_eq_true_eq, ask_int, ask_bool, ask_tuple, ask_list, ask_str, isSub_tuple, isTup_tup, int2, int3, at0, at1, at2, at3, pow2, ht, hd]
    exact hp
theorem ok_check_row {c : Addr} (B : Bn mg) (DF : Df K mg "check_row" s_check_row c) (O_is_fraction : Ok P w K mg base ⟨K, Tb⟩ "is_fraction" ["value"] 2 sIsFraction) : Ok P w K mg base ⟨K, Tb⟩ "check_row" ["value", "lengths"] 3 sChkRow := by
  have sc : FnScope ["value", "lengths", "index", "part"] ["value", "lengths"] (defScope s_check_row) := ⟨rfl, rfl, rfl, by decide +kernel, rfl, by decide +kernel, by decide +kernel⟩
  refine ok_D (N := ["value", "lengths", "index", "part"]) DF ⟨fun kV doc pm an cdv ct us hl => match us, hl with | [_, _], _ => rfl, fun kV doc pm an cdv ct p hp us hl => by simp only [kws, List.mem_cons, List.not_mem_nil, or_false] at hp; rcases hp with rfl | rfl <;> (match us, hl with | [_, _], _ => rfl)⟩ sc (fun ds P n h => by obtain ⟨_, _, rfl, _⟩ := g2_inv h; rfl) (fun A outer s H E wl f hr => (jss_cons (js_if (PW.pt (jw_or (jt_not (jt_val (je_callB (d_isi rfl) rfl B.isinstance Bt'.isinstance (ja_cons (je_var (pv 0)) (ja_cons (je_ty rfl B.tuple Bt'.tuple) ja_nil))))) (jw_or1 (jt_cmp (d_notIn rfl) (je_callB (d_len rfl) rfl B.len Bt'.len (ja_cons (je_var (pv 0)) ja_nil)) (je_var (pv 1)) rfl)))) (jss_one (js_never)) jss_nil) (jss_one (js_for PassesOwn.never rfl (ji_enum rfl rfl B.enumerate (je_var (pv 0))) (jg_tup (n := 2) rfl rfl (jgs_cons (jg (i := 2) sc.nd) (jgs_cons (jg (i := 3) sc.nd) jgs_nil))) (jss_one (js_if (jt_not (jt_val (jc O_is_fraction hr (ja_cons (je_var (pv 3)) ja_nil)))) (jss_one (js_never)) jss_nil)))))) ?_
  intro ds Pd n h
  obtain ⟨d, e, rfl, qs, ns, ⟨rfl, rfl⟩, hl, hm, hs, hp⟩ := g2_inv h
  have hf : (rwD qs).fine = true := fine_tup.mpr fun d hd => by obtain ⟨q, hq, rfl⟩ := List.mem_map.mp hd; exact fr_fine (hs q hq)
  have ft : (DJ.D.tup (qs.map fr)).typ ∈ theTys := fine_ty hf
  unfold mFor rwD
  simp only [mRet, mRetN, mRetL, mIfS, mSeq, mNx, mPass, mExpr, mAsg, gSet, mVar, mC, mOp, mUn, mTB, mNotT, mAndT, mOrT, mAnd, mOr, mNot, mIf, mCons, mNil, mTup, mLst, mCall, mCallK, mSl, mOSome, mONone, mPar, mPar3, eTupD, eConsD, eNilD, eAdd1, eAdd2, eAdd3, eSub, eMul1, eMul2, eFdiv, eMod, ePow, eNeg, eLt, eLe, eGt, eGe, eEq1, eEq2, eNe1, eNe2, eIx1, eIx2, eIx3, eIx4, eSl1, eSl2, eSl3, eLen1, eLen2, eLen3, eAbs, eIntC, eMax2, eMin2, eList1, eList2, eList3, eTuple1, eTuple2, eAll, eAny, eIsi, eGcd2, eGcd3, eLcm, eIsqrt, eDivmod, eOne, eTwo, eThree, eB, eInt, eSeq1, eSeq2, eSeq3, eRng1, eRng2, eIsN, eNotN, gWset, mSeqI, mRng1, mRng2, startS, wipeS, List.map_cons, List.map_nil, List.length_cons, List.length_nil, List.replicate, List.cons_append, List.nil_append, List.append_nil, List.set, List.getElem?_cons_zero, List.getElem?_cons_succ, Option.some.injEq, SV.val.injEq, SV.own.injEq, exists_eq_left', exists_eq_left, true_and, and_true, Nat.reduceAdd, Nat.reduceSub, Nat.zero_add, ite_cr, D.tup.injEq, D.int.injEq, D.bl.injEq, D.lst.injEq, D.str.injEq, List.cons.injEq, reduceCtorEq, if_true, if_false, ite_true, ite_false, Bool.not_true, Bool.not_false, Bool.false_eq_true, not_true, not_false, Bool.true_and, Bool.and_true, Bool.false_and, Bool.and_false, decide_eq_true_eq, ask_int, ask_bool, ask_tuple, ask_list, ask_str, isSub_tuple, isTup_tup, int2, int3, at0, at1, at2, at3, pow2, eFour, ePr, e3I, ePrF, e3K, eFr, eFrF, eTupF, eTupK, eIxF0, eIxF1, fr_inj, nd, nd0, nd1, nd2, nd3, oo, zo, lit0, lit1, div1, ip2, Bool.not_eq_true', decide_eq_false_iff_not, sRat, sPlus, sMinus, sTimes, and_assoc, exists_and_left, Nat.reduceLeDiff, Nat.reduceLT, Int.reduceLT, Int.reduceLE, Int.reduceMul, Int.reduceAdd, Int.reduceSub, Int.reduceNeg, Int.reduceToNat, ne_eq, decide_true, decide_false, eq_self, eIxD0, eIxD1, eTupD2, dsc_inj, eRAb, eRAt, eRAl, le_q0, fr_abs, sSize, sCommon, sBeyond, mZip, or_false, false_or, eRAd, eInT, eTupLd, eTupTr, tr_inj, ld_inj, rw_inj, eIxT0, eIxT1, eIxT2, eNeF, eEqF, eEqR, eRAtr, mEnum, eIxK0, eIxK1, eIxK2, ft, List.length_map]
  obtain ⟨i1, i2⟩ := inD_int hm
  simp only [mRet, mRetN, mRetL, mIfS, mSeq, mNx, mPass, mExpr, mAsg, gSet, mVar, mC, mOp, mUn, mTB, mNotT, mAndT, mOrT, mAnd, mOr, mNot, mIf, mCons, mNil, mTup, mLst, mCall, mCallK, mSl, mOSome, mONone, mPar, mPar3, eTupD, eConsD, eNilD, eAdd1, eAdd2, eAdd3, eSub, eMul1, eMul2, eFdiv, eMod, ePow, eNeg, eLt, eLe, eGt, eGe, eEq1, eEq2, eNe1, eNe2, eIx1, eIx2, eIx3, eIx4, eSl1, eSl2, eSl3, eLen1, eLen2, eLen3, eAbs, eIntC, eMax2, eMin2, eList1, eList2, eList3, eTuple1, eTuple2, eAll, eAny, eIsi, eGcd2, eGcd3, eLcm, eIsqrt, eDivmod, eOne, eTwo, eThree, eB, eInt, eSeq1, eSeq2, eSeq3, eRng1, eRng2, eIsN, eNotN, gWset, mSeqI, mRng1, mRng2, startS, wipeS, List.map_cons, List.map_nil, List.length_cons, List.length_nil, List.replicate, List.cons_append, List.nil_append, List.append_nil, List.set, List.getElem?_cons_zero, List.getElem?_cons_succ, Option.some.injEq, SV.val.injEq, SV.own.injEq, exists_eq_left', exists_eq_left, true_and, and_true, Nat.reduceAdd, Nat.reduceSub, Nat.zero_add, ite_cr, D.tup.injEq, D.int.injEq, D.bl.injEq, D.lst.injEq, D.str.injEq, List.cons.injEq, reduceCtorEq, if_true, if_false, ite_true, ite_false, Bool.not_true, Bool.not_false, Bool.false_eq_true, not_true, not_false, Bool.true_and, Bool.and_true, Bool.false_and, Bool.and_false, decide_eq_true_eq, ask_int, ask_bool, ask_tuple, ask_list, ask_str, isSub_tuple, isTup_tup, int2, int3, at0, at1, at2, at3, pow2, eFour, ePr, e3I, ePrF, e3K, eFr, eFrF, eTupF, eTupK, eIxF0, eIxF1, fr_inj, nd, nd0, nd1, nd2, nd3, oo, zo, lit0, lit1, div1, ip2, Bool.not_eq_true', decide_eq_false_iff_not, sRat, sPlus, sMinus, sTimes, and_assoc, exists_and_left, Nat.reduceLeDiff, Nat.reduceLT, Int.reduceLT, Int.reduceLE, Int.reduceMul, Int.reduceAdd, Int.reduceSub, Int.reduceNeg, Int.reduceToNat, ne_eq, decide_true, decide_false, eq_self, eIxD0, eIxD1, eTupD2, dsc_inj, eRAb, eRAt, eRAl, le_q0, fr_abs, sSize, sCommon, sBeyond, mZip, or_false, false_or, eRAd, eInT, eTupLd, eTupTr, tr_inj, ld_inj, rw_inj, eIxT0, eIxT1, eIxT2, eNeF, eEqF, eEqR, eRAtr, mEnum, eIxK0, eIxK1, eIxK2, i1, i2, flatD]
  refine ⟨fun i l c => ∃ o1 o2 : Option SV, l = [some (SV.val (.tup (qs.map fr))), some (SV.val (.tup (ns.map .int))), o1, o2] ∧ c = n, ⟨none, none, rfl, rfl⟩, ?_, ?_⟩
  · rintro i d l' c' hd ⟨o1, o2, rfl, rfl⟩
    obtain ⟨x, hx, rfl⟩ := enD_get hd
    obtain ⟨q, hq, rfl⟩ := rw_get hx
    have hq2 := hs q (List.mem_of_getElem? hq)
    simp only [mRet, mRetN, mRetL, mIfS, mSeq, mNx, mPass, mExpr, mAsg, gSet, mVar, mC, mOp, mUn, mTB, mNotT, mAndT, mOrT, mAnd, mOr, mNot, mIf, mCons, mNil, mTup, mLst, mCall, mCallK, mSl, mOSome, mONone, mPar, mPar3, eTupD, eConsD, eNilD, eAdd1, eAdd2, eAdd3, eSub, eMul1, eMul2, eFdiv, eMod, ePow, eNeg, eLt, eLe, eGt, eGe, eEq1, eEq2, eNe1, eNe2, eIx1, eIx2, eIx3, eIx4, eSl1, eSl2, eSl3, eLen1, eLen2, eLen3, eAbs, eIntC, eMax2, eMin2, eList1, eList2, eList3, eTuple1, eTuple2, eAll, eAny, eIsi, eGcd2, eGcd3, eLcm, eIsqrt, eDivmod, eOne, eTwo, eThree, eB, eInt, eSeq1, eSeq2, eSeq3, eRng1, eRng2, eIsN, eNotN, gWset, mSeqI, mRng1, mRng2, startS, wipeS, List.map_cons, List.map_nil, List.length_cons, List.length_nil, List.replicate, List.cons_append, List.nil_append, List.append_nil, List.set, List.getElem?_cons_zero, List.getElem?_cons_succ, Option.some.injEq, SV.val.injEq, SV.own.injEq, exists_eq_left', exists_eq_left, true_and, and_true, Nat.reduceAdd, Nat.reduceSub, Nat.zero_add, ite_cr, D.tup.injEq, D.int.injEq, D.bl.injEq, D.lst.injEq, D.str.injEq, List.cons.injEq, reduceCtorEq, if_true, if_false, ite_true, ite_false, Bool.not_true, Bool.not_false, Bool.false_eq_true, not_true, not_false, Bool.true_and, Bool.and_true, Bool.false_and, Bool.and_false, decide_eq_true_eq, ask_int, ask_bool, ask_tuple, ask_list, ask_str, isSub_tuple, isTup_tup, int2, int3, at0, at1, at2, at3, pow2, eFour, ePr, e3I, ePrF, e3K, eFr, eFrF, eTupF, eTupK, eIxF0, eIxF1, fr_inj, nd, nd0, nd1, nd2, nd3, oo, zo, lit0, lit1, div1, ip2, Bool.not_eq_true', decide_eq_false_iff_not, sRat, sPlus, sMinus, sTimes, and_assoc, exists_and_left, Nat.reduceLeDiff, Nat.reduceLT, Int.reduceLT, Int.reduceLE, Int.reduceMul, Int.reduceAdd, Int.reduceSub, Int.reduceNeg, Int.reduceToNat, ne_eq, decide_true, decide_false, eq_self, eIxD0, eIxD1, eTupD2, dsc_inj, eRAb, eRAt, eRAl, le_q0, fr_abs, sSize, sCommon, sBeyond, mZip, or_false, false_or, eRAd, eInT, eTupLd, eTupTr, tr_inj, ld_inj, rw_inj, eIxT0, eIxT1, eIxT2, eNeF, eEqF, eEqR, eRAtr, mEnum, eIxK0, eIxK1, eIxK2, sIsFraction, fr_fine hq2, fracB_fr q]
    exact ⟨_, rfl⟩
  · rintro l' c' ⟨o1, o2, rfl, rfl⟩
    exact hp
theorem ok_ratio {c : Addr} (B : Bn mg) (DF : Df K mg "ratio" s_ratio c) (m_gcd : mg "gcd" = some (.builtin "math.gcd")) : Ok P w K mg base ⟨K, Tb⟩ "ratio" ["top", "bottom"] 1 sRat := by
  have sc : FnScope ["top", "bottom", "common"] ["top", "bottom"] (defScope s_ratio) := ⟨rfl, rfl, rfl, by decide +kernel, rfl, by decide +kernel, by decide +kernel⟩
  refine ok_D (N := ["top", "bottom", "common"]) DF ⟨fun kV doc pm an cdv ct us hl => match us, hl with | [_, _], _ => rfl, fun kV doc pm an cdv ct p hp us hl => by simp only [kws, List.mem_cons, List.not_mem_nil, or_false] at hp; rcases hp with rfl | rfl <;> (match us, hl with | [_, _], _ => rfl)⟩ sc (fun ds P n h => by obtain ⟨_, _, rfl, _⟩ := g2_inv h; rfl) (fun A outer s H E wl f hr => (jss_cons (js_set (i := 2) sc.nd rfl (by first | exact Or.inl rfl | exact Or.inr rfl) (je_callF d_gcd2 rfl m_gcd (ja_cons (je_var (pv 0)) (ja_cons (je_var (pv 1)) ja_nil)))) (jss_cons (js_if (jt_cmp d_lt (je_var (pv 1)) (je_int) (nomark _)) (jss_one (js_set (i := 2) sc.nd rfl (by first | exact Or.inl rfl | exact Or.inr rfl) (je_un d_neg (je_var (pv 2))))) jss_nil) (jss_one (js_ret (je_tup (ja_cons (je_op d_fdiv (je_var (pv 0)) (je_var (pv 2))) (ja_cons (je_op d_fdiv (je_var (pv 1)) (je_var (pv 2))) ja_nil)))))))) ?_
  intro ds Pd n h
  obtain ⟨d, e, rfl, h1⟩ := g2_inv h
  obtain ⟨a, rfl, h2⟩ := gInt_inv h1
  obtain ⟨b, rfl, ⟨b0, ba, bb⟩, hp⟩ := gInt_inv h2
  have gp : 0 < Nat.gcd a.natAbs b.natAbs := Nat.gcd_pos_of_pos_right _ (by omega)
  have gl : Nat.gcd a.natAbs b.natAbs ≤ b.natAbs := Nat.le_of_dvd (by omega) (Nat.gcd_dvd_right _ _)
  have gb : Bt 8000 ((Nat.gcd a.natAbs b.natAbs : Nat) : Int) := bb.le (by rw [Int.natAbs_natCast]; exact gl)
  have l1 := gb.log (k := 9000) (by decide) (by decide)
  have l2 := gb.neg.log (k := 9000) (by decide) (by decide)
  simp only [mRet, mRetN, mRetL, mIfS, mSeq, mNx, mPass, mExpr, mAsg, gSet, mVar, mC, mOp, mUn, mTB, mNotT, mAndT, mOrT, mAnd, mOr, mNot, mIf, mCons, mNil, mTup, mLst, mCall, mCallK, mSl, mOSome, mONone, mPar, mPar3, eTupD, eConsD, eNilD, eAdd1, eAdd2, eAdd3, eSub, eMul1, eMul2, eFdiv, eMod, ePow, eNeg, eLt, eLe, eGt, eGe, eEq1, eEq2, eNe1, eNe2, eIx1, eIx2, eIx3, eIx4, eSl1, eSl2, eSl3, eLen1, eLen2, eLen3, eAbs, eIntC, eMax2, eMin2, eList1, eList2, eList3, eTuple1, eTuple2, eAll, eAny, eIsi, eGcd2, eGcd3, eLcm, eIsqrt, eDivmod, eOne, eTwo, eThree, eB, eInt, eSeq1, eSeq2, eSeq3, eRng1, eRng2, eIsN, eNotN, gWset, mSeqI, mRng1, mRng2, startS, wipeS, List.map_cons, List.map_nil, List.length_cons, List.length_nil, List.replicate, List.cons_append, List.nil_append, List.append_nil, List.set, List.getElem?_cons_zero, List.getElem?_cons_succ, Option.some.injEq, SV.val.injEq, SV.own.injEq, exists_eq_left', exists_eq_left, true_and, and_true, Nat.reduceAdd, Nat.reduceSub, Nat.zero_add, ite_cr, D.tup.injEq, D.int.injEq, D.bl.injEq, D.lst.injEq, D.str.injEq, List.cons.injEq, reduceCtorEq, if_true, if_false, ite_true, ite_false, Bool.not_true, Bool.not_false, Bool.false_eq_true, not_true, not_false, Bool.true_and, Bool.and_true, Bool.false_and, Bool.and_false, decide_eq_true_eq, ask_int, ask_bool, ask_tuple, ask_list, ask_str, isSub_tuple, isTup_tup, int2, int3, at0, at1, at2, at3, pow2, eFour, ePr, e3I, ePrF, e3K, eFr, eFrF, eTupF, eTupK, eIxF0, eIxF1, fr_inj, nd, nd0, nd1, nd2, nd3, oo, zo, lit0, lit1, div1, ip2, Bool.not_eq_true', decide_eq_false_iff_not, sRat, sPlus, sMinus, sTimes, and_assoc, exists_and_left, Nat.reduceLeDiff, Nat.reduceLT, Int.reduceLT, Int.reduceLE, Int.reduceMul, Int.reduceAdd, Int.reduceSub, Int.reduceNeg, Int.reduceToNat, ne_eq, decide_true, decide_false, eq_self]
  split
  · obtain ⟨e1, e2⟩ := low_num (a := a) (g := -((Nat.gcd a.natAbs b.natAbs : Nat) : Int)) b0 (by rw [Int.natAbs_neg, Int.natAbs_natCast]) (by omega) (by omega)
    rw [e1, e2]
    exact ⟨by omega, l2, by omega, l2, hp⟩
  · obtain ⟨e1, e2⟩ := low_num (a := a) (g := ((Nat.gcd a.natAbs b.natAbs : Nat) : Int)) b0 (by rw [Int.natAbs_natCast]) (by omega) (by omega)
    rw [e1, e2]
    exact ⟨by omega, l1, by omega, l1, hp⟩
theorem ok_minus {c : Addr} (B : Bn mg) (DF : Df K mg "minus" s_minus c) (O_ratio : Ok P w K mg base ⟨K, Tb⟩ "ratio" ["top", "bottom"] 1 sRat) : Ok P w K mg base ⟨K, Tb⟩ "minus" ["first", "second"] 2 sMinus := by
  have sc : FnScope ["first", "second"] ["first", "second"] (defScope s_minus) := ⟨rfl, rfl, rfl, by decide +kernel, rfl, by decide +kernel, by decide +kernel⟩
  refine ok_D (N := ["first", "second"]) DF ⟨fun kV doc pm an cdv ct us hl => match us, hl with | [_, _], _ => rfl, fun kV doc pm an cdv ct p hp us hl => by simp only [kws, List.mem_cons, List.not_mem_nil, or_false] at hp; rcases hp with rfl | rfl <;> (match us, hl with | [_, _], _ => rfl)⟩ sc (fun ds P n h => by obtain ⟨_, _, rfl, _⟩ := g2_inv h; rfl) (fun A outer s H E wl f hr => (jss_one (js_ret (jc O_ratio hr (ja_cons (je_op d_sub (je_op d_mul (je_ix (d_ix rfl) (je_var (pv 0)) (je_int) (fun _ _ => rfl)) (je_ix (d_ix rfl) (je_var (pv 1)) (je_int) (fun _ _ => rfl))) (je_op d_mul (je_ix (d_ix rfl) (je_var (pv 1)) (je_int) (fun _ _ => rfl)) (je_ix (d_ix rfl) (je_var (pv 0)) (je_int) (fun _ _ => rfl)))) (ja_cons (je_op d_mul (je_ix (d_ix rfl) (je_var (pv 0)) (je_int) (fun _ _ => rfl)) (je_ix (d_ix rfl) (je_var (pv 1)) (je_int) (fun _ _ => rfl))) ja_nil)))))) ?_
  intro ds Pd n h
  obtain ⟨d, e, rfl, h1⟩ := g2_inv h
  obtain ⟨a, b, rfl, ⟨b0, ba, bb⟩, h2⟩ := gFr_inv h1
  obtain ⟨c, e, rfl, ⟨e0, bc, be⟩, hp⟩ := gFr_inv h2
  have nb : b ≠ 0 := by omega
  have ne : e ≠ 0 := by omega
  simp only [mRet, mRetN, mRetL, mIfS, mSeq, mNx, mPass, mExpr, mAsg, gSet, mVar, mC, mOp, mUn, mTB, mNotT, mAndT, mOrT, mAnd, mOr, mNot, mIf, mCons, mNil, mTup, mLst, mCall, mCallK, mSl, mOSome, mONone, mPar, mPar3, eTupD, eConsD, eNilD, eAdd1, eAdd2, eAdd3, eSub, eMul1, eMul2, eFdiv, eMod, ePow, eNeg, eLt, eLe, eGt, eGe, eEq1, eEq2, eNe1, eNe2, eIx1, eIx2, eIx3, eIx4, eSl1, eSl2, eSl3, eLen1, eLen2, eLen3, eAbs, eIntC, eMax2, eMin2, eList1, eList2, eList3, eTuple1, eTuple2, eAll, eAny, eIsi, eGcd2, eGcd3, eLcm, eIsqrt, eDivmod, eOne, eTwo, eThree, eB, eInt, eSeq1, eSeq2, eSeq3, eRng1, eRng2, eIsN, eNotN, gWset, mSeqI, mRng1, mRng2, startS, wipeS, List.map_cons, List.map_nil, List.length_cons, List.length_nil, List.replicate, List.cons_append, List.nil_append, List.append_nil, List.set, List.getElem?_cons_zero, List.getElem?_cons_succ, Option.some.injEq, SV.val.injEq, SV.own.injEq, exists_eq_left', exists_eq_left, true_and, and_true, Nat.reduceAdd, Nat.reduceSub, Nat.zero_add, ite_cr, D.tup.injEq, D.int.injEq, D.bl.injEq, D.lst.injEq, D.str.injEq, List.cons.injEq, reduceCtorEq, if_true, if_false, ite_true, ite_false, Bool.not_true, Bool.not_false, Bool.false_eq_true, not_true, not_false, Bool.true_and, Bool.and_true, Bool.false_and, Bool.and_false, decide_eq_true_eq, ask_int, ask_bool, ask_tuple, ask_list, ask_str, isSub_tuple, isTup_tup, int2, int3, at0, at1, at2, at3, pow2, eFour, ePr, e3I, ePrF, e3K, eFr, eFrF, eTupF, eTupK, eIxF0, eIxF1, fr_inj, nd, nd0, nd1, nd2, nd3, oo, zo, lit0, lit1, div1, ip2, Bool.not_eq_true', decide_eq_false_iff_not, sRat, sPlus, sMinus, sTimes, and_assoc, exists_and_left, Nat.reduceLeDiff, Nat.reduceLT, Int.reduceLT, Int.reduceLE, Int.reduceMul, Int.reduceAdd, Int.reduceSub, Int.reduceNeg, Int.reduceToNat, ne_eq, decide_true, decide_false, eq_self]
  refine ⟨cm ba be, cm bc bb, cm bb be, Int.mul_ne_zero nb ne, (Bt.sub (ba.mul be) (bc.mul bb)).mono (by decide), (bb.mul be).mono (by decide), ?_⟩
  rw [rp_sub nb ne]
  exact hp
theorem ok_row_minus {c : Addr} (B : Bn mg) (DF : Df K mg "row_minus" s_row_minus c) (O_minus : Ok P w K mg base ⟨K, Tb⟩ "minus" ["first", "second"] 2 sMinus) : Ok P w K mg base ⟨K, Tb⟩ "row_minus" ["row", "other"] 3 sRowMinus := by
  have sc : FnScope ["row", "other", "first", "second"] ["row", "other"] (defScope s_row_minus) := ⟨rfl, rfl, rfl, by decide +kernel, rfl, by decide +kernel, by decide +kernel⟩
  refine ok_D (N := ["row", "other", "first", "second"]) DF ⟨fun kV doc pm an cdv ct us hl => match us, hl with | [_, _], _ => rfl, fun kV doc pm an cdv ct p hp us hl => by simp only [kws, List.mem_cons, List.not_mem_nil, or_false] at hp; rcases hp with rfl | rfl <;> (match us, hl with | [_, _], _ => rfl)⟩ sc (fun ds P n h => by obtain ⟨_, _, rfl, _⟩ := g2_inv h; rfl) (fun A outer s H E wl f hr => (jss_one (js_ret (je_callTy (d_tuple rfl) rfl B.tuple Bt'.tuple (ja_cons (je_lc (own := [("first", 2), ("second", 3)]) rfl sc.nd (ji_zip rfl rfl B.zip (je_var (pv 0)) (je_var (pv 1))) (blkOk_by (by kernel_rfl)) (by decide) (fun _ _ _ _ _ => (jg_tup (n := 2) rfl rfl (jgs_cons (jg (i := 2) sc.nd) (jgs_cons (jg (i := 3) sc.nd) jgs_nil)))) (fun _ _ _ _ _ => jts_nil) (fun _ _ _ _ _ => (jc O_minus hr (ja_cons (je_var (pv 2)) (ja_cons (je_var (pv 3)) ja_nil))))) ja_nil))))) ?_
  intro ds Pd n h
  obtain ⟨d, e, rfl, qs, rs, ⟨rfl, rfl⟩, ⟨hl, hl2⟩, h1, h2, hp⟩ := g2_inv h
  unfold mLc rwD
  simp only [mRet, mRetN, mRetL, mIfS, mSeq, mNx, mPass, mExpr, mAsg, gSet, mVar, mC, mOp, mUn, mTB, mNotT, mAndT, mOrT, mAnd, mOr, mNot, mIf, mCons, mNil, mTup, mLst, mCall, mCallK, mSl, mOSome, mONone, mPar, mPar3, eTupD, eConsD, eNilD, eAdd1, eAdd2, eAdd3, eSub, eMul1, eMul2, eFdiv, eMod, ePow, eNeg, eLt, eLe, eGt, eGe, eEq1, eEq2, eNe1, eNe2, eIx1, eIx2, eIx3, eIx4, eSl1, eSl2, eSl3, eLen1, eLen2, eLen3, eAbs, eIntC, eMax2, eMin2, eList1, eList2, eList3, eTuple1, eTuple2, eAll, eAny, eIsi, eGcd2, eGcd3, eLcm, eIsqrt, eDivmod, eOne, eTwo, eThree, eB, eInt, eSeq1, eSeq2, eSeq3, eRng1, eRng2, eIsN, eNotN, gWset, mSeqI, mRng1, mRng2, startS, wipeS, List.map_cons, List.map_nil, List.length_cons, List.length_nil, List.replicate, List.cons_append, List.nil_append, List.append_nil, List.set, List.getElem?_cons_zero, List.getElem?_cons_succ, Option.some.injEq, SV.val.injEq, SV.own.injEq, exists_eq_left', exists_eq_left, true_and, and_true, Nat.reduceAdd, Nat.reduceSub, Nat.zero_add, ite_cr, D.tup.injEq, D.int.injEq, D.bl.injEq, D.lst.injEq, D.str.injEq, List.cons.injEq, reduceCtorEq, if_true, if_false, ite_true, ite_false, Bool.not_true, Bool.not_false, Bool.false_eq_true, not_true, not_false, Bool.true_and, Bool.and_true, Bool.false_and, Bool.and_false, decide_eq_true_eq, ask_int, ask_bool, ask_tuple, ask_list, ask_str, isSub_tuple, isTup_tup, int2, int3, at0, at1, at2, at3, pow2, eFour, ePr, e3I, ePrF, e3K, eFr, eFrF, eTupF, eTupK, eIxF0, eIxF1, fr_inj, nd, nd0, nd1, nd2, nd3, oo, zo, lit0, lit1, div1, ip2, Bool.not_eq_true', decide_eq_false_iff_not, sRat, sPlus, sMinus, sTimes, and_assoc, exists_and_left, Nat.reduceLeDiff, Nat.reduceLT, Int.reduceLT, Int.reduceLE, Int.reduceMul, Int.reduceAdd, Int.reduceSub, Int.reduceNeg, Int.reduceToNat, ne_eq, decide_true, decide_false, eq_self, eIxD0, eIxD1, eTupD2, dsc_inj, eRAb, eRAt, eRAl, le_q0, fr_abs, sSize, sCommon, sBeyond, mZip, or_false, false_or, eRAd, eInT, eTupLd, eTupTr, tr_inj, ld_inj, rw_inj, eIxT0, eIxT1, eIxT2, eNeF, eEqF, eEqR, eRAtr, mEnum, eIxK0, eIxK1, eIxK2, gZip]
  rw [zip_fr]
  refine ⟨by rw [List.length_map, List.length_zip]; omega, ?_⟩
  refine mColl_map (f := fun p => fr (1 * p.1 + -1 * p.2)) (fun p hp yes no c hy => ?_) ?_
  · obtain ⟨m1, m2⟩ := zip_mem hp
    unfold turnD
    simp only [mRet, mRetN, mRetL, mIfS, mSeq, mNx, mPass, mExpr, mAsg, gSet, mVar, mC, mOp, mUn, mTB, mNotT, mAndT, mOrT, mAnd, mOr, mNot, mIf, mCons, mNil, mTup, mLst, mCall, mCallK, mSl, mOSome, mONone, mPar, mPar3, eTupD, eConsD, eNilD, eAdd1, eAdd2, eAdd3, eSub, eMul1, eMul2, eFdiv, eMod, ePow, eNeg, eLt, eLe, eGt, eGe, eEq1, eEq2, eNe1, eNe2, eIx1, eIx2, eIx3, eIx4, eSl1, eSl2, eSl3, eLen1, eLen2, eLen3, eAbs, eIntC, eMax2, eMin2, eList1, eList2, eList3, eTuple1, eTuple2, eAll, eAny, eIsi, eGcd2, eGcd3, eLcm, eIsqrt, eDivmod, eOne, eTwo, eThree, eB, eInt, eSeq1, eSeq2, eSeq3, eRng1, eRng2, eIsN, eNotN, gWset, mSeqI, mRng1, mRng2, startS, wipeS, List.map_cons, List.map_nil, List.length_cons, List.length_nil, List.replicate, List.cons_append, List.nil_append, List.append_nil, List.set, List.getElem?_cons_zero, List.getElem?_cons_succ, Option.some.injEq, SV.val.injEq, SV.own.injEq, exists_eq_left', exists_eq_left, true_and, and_true, Nat.reduceAdd, Nat.reduceSub, Nat.zero_add, ite_cr, D.tup.injEq, D.int.injEq, D.bl.injEq, D.lst.injEq, D.str.injEq, List.cons.injEq, reduceCtorEq, if_true, if_false, ite_true, ite_false, Bool.not_true, Bool.not_false, Bool.false_eq_true, not_true, not_false, Bool.true_and, Bool.and_true, Bool.false_and, Bool.and_false, decide_eq_true_eq, ask_int, ask_bool, ask_tuple, ask_list, ask_str, isSub_tuple, isTup_tup, int2, int3, at0, at1, at2, at3, pow2, eFour, ePr, e3I, ePrF, e3K, eFr, eFrF, eTupF, eTupK, eIxF0, eIxF1, fr_inj, nd, nd0, nd1, nd2, nd3, oo, zo, lit0, lit1, div1, ip2, Bool.not_eq_true', decide_eq_false_iff_not, sRat, sPlus, sMinus, sTimes, and_assoc, exists_and_left, Nat.reduceLeDiff, Nat.reduceLT, Int.reduceLT, Int.reduceLE, Int.reduceMul, Int.reduceAdd, Int.reduceSub, Int.reduceNeg, Int.reduceToNat, ne_eq, decide_true, decide_false, eq_self, eIxD0, eIxD1, eTupD2, dsc_inj, eRAb, eRAt, eRAl, le_q0, fr_abs, sSize, sCommon, sBeyond, mZip, or_false, false_or, eRAd, eInT, eTupLd, eTupTr, tr_inj, ld_inj, rw_inj, eIxT0, eIxT1, eIxT2, eNeF, eEqF, eEqR, eRAtr, mEnum, eIxK0, eIxK1, eIxK2, mYes]
    refine ⟨(h1 _ m1).mono (by decide), (h2 _ m2).mono (by decide), ?_⟩
    rw [show p.1 - p.2 = 1 * p.1 + -1 * p.2 by grind]
    exact hy
  · rw [← comb_map]
    exact hp
theorem ok_plus {c : Addr} (B : Bn mg) (DF : Df K mg "plus" s_plus c) (O_ratio : Ok P w K mg base ⟨K, Tb⟩ "ratio" ["top", "bottom"] 1 sRat) : Ok P w K mg base ⟨K, Tb⟩ "plus" ["first", "second"] 2 sPlus := by
  have sc : FnScope ["first", "second"] ["first", "second"] (defScope s_plus) := ⟨rfl, rfl, rfl, by decide +kernel, rfl, by decide +kernel, by decide +kernel⟩
  refine ok_D (N := ["first", "second"]) DF ⟨fun kV doc pm an cdv ct us hl => match us, hl with | [_, _], _ => rfl, fun kV doc pm an cdv ct p hp us hl => by simp only [kws, List.mem_cons, List.not_mem_nil, or_false] at hp; rcases hp with rfl | rfl <;> (match us, hl with | [_, _], _ => rfl)⟩ sc (fun ds P n h => by obtain ⟨_, _, rfl, _⟩ := g2_inv h; rfl) (fun A outer s H E wl f hr => (jss_one (js_ret (jc O_ratio hr (ja_cons (je_op (d_add rfl) (je_op d_mul (je_ix (d_ix rfl) (je_var (pv 0)) (je_int) (fun _ _ => rfl)) (je_ix (d_ix rfl) (je_var (pv 1)) (je_int) (fun _ _ => rfl))) (je_op d_mul (je_ix (d_ix rfl) (je_var (pv 1)) (je_int) (fun _ _ => rfl)) (je_ix (d_ix rfl) (je_var (pv 0)) (je_int) (fun _ _ => rfl)))) (ja_cons (je_op d_mul (je_ix (d_ix rfl) (je_var (pv 0)) (je_int) (fun _ _ => rfl)) (je_ix (d_ix rfl) (je_var (pv 1)) (je_int) (fun _ _ => rfl))) ja_nil)))))) ?_
  intro ds Pd n h
  obtain ⟨d, e, rfl, h1⟩ := g2_inv h
  obtain ⟨a, b, rfl, ⟨b0, ba, bb⟩, h2⟩ := gFr_inv h1
  obtain ⟨c, e, rfl, ⟨e0, bc, be⟩, hp⟩ := gFr_inv h2
  have nb : b ≠ 0 := by omega
  have ne : e ≠ 0 := by omega
  simp only [mRet, mRetN, mRetL, mIfS, mSeq, mNx, mPass, mExpr, mAsg, gSet, mVar, mC, mOp, mUn, mTB, mNotT, mAndT, mOrT, mAnd, mOr, mNot, mIf, mCons, mNil, mTup, mLst, mCall, mCallK, mSl, mOSome, mONone, mPar, mPar3, eTupD, eConsD, eNilD, eAdd1, eAdd2, eAdd3, eSub, eMul1, eMul2, eFdiv, eMod, ePow, eNeg, eLt, eLe, eGt, eGe, eEq1, eEq2, eNe1, eNe2, eIx1, eIx2, eIx3, eIx4, eSl1, eSl2, eSl3, eLen1, eLen2, eLen3, eAbs, eIntC, eMax2, eMin2, eList1, eList2, eList3, eTuple1, eTuple2, eAll, eAny, eIsi, eGcd2, eGcd3, eLcm, eIsqrt, eDivmod, eOne, eTwo, eThree, eB, eInt, eSeq1, eSeq2, eSeq3, eRng1, eRng2, eIsN, eNotN, gWset, mSeqI, mRng1, mRng2, startS, wipeS, List.map_cons, List.map_nil, List.length_cons, List.length_nil, List.replicate, List.cons_append, List.nil_append, List.append_nil, List.set, List.getElem?_cons_zero, List.getElem?_cons_succ, Option.some.injEq, SV.val.injEq, SV.own.injEq, exists_eq_left', exists_eq_left, true_and, and_true, Nat.reduceAdd, Nat.reduceSub, Nat.zero_add, ite_cr, D.tup.injEq, D.int.injEq, D.bl.injEq, D.lst.injEq, D.str.injEq, List.cons.injEq, reduceCtorEq, if_true, if_false, ite_true, ite_false, Bool.not_true, Bool.not_false, Bool.false_eq_true, not_true, not_false, Bool.true_and, Bool.and_true, Bool.false_and, Bool.and_false, decide_eq_true_eq, ask_int, ask_bool, ask_tuple, ask_list, ask_str, isSub_tuple, isTup_tup, int2, int3, at0, at1, at2, at3, pow2, eFour, ePr, e3I, ePrF, e3K, eFr, eFrF, eTupF, eTupK, eIxF0, eIxF1, fr_inj, nd, nd0, nd1, nd2, nd3, oo, zo, lit0, lit1, div1, ip2, Bool.not_eq_true', decide_eq_false_iff_not, sRat, sPlus, sMinus, sTimes, and_assoc, exists_and_left, Nat.reduceLeDiff, Nat.reduceLT, Int.reduceLT, Int.reduceLE, Int.reduceMul, Int.reduceAdd, Int.reduceSub, Int.reduceNeg, Int.reduceToNat, ne_eq, decide_true, decide_false, eq_self]
  refine ⟨cm ba be, cm bc bb, cm bb be, Int.mul_ne_zero nb ne, (Bt.add (ba.mul be) (bc.mul bb)).mono (by decide), (bb.mul be).mono (by decide), ?_⟩
  rw [rp_add nb ne]
  exact hp
theorem ok_times {c : Addr} (B : Bn mg) (DF : Df K mg "times" s_times c) (O_ratio : Ok P w K mg base ⟨K, Tb⟩ "ratio" ["top", "bottom"] 1 sRat) : Ok P w K mg base ⟨K, Tb⟩ "times" ["first", "second"] 2 sTimes := by
  have sc : FnScope ["first", "second"] ["first", "second"] (defScope s_times) := ⟨rfl, rfl, rfl, by decide +kernel, rfl, by decide +kernel, by decide +kernel⟩
  refine ok_D (N := ["first", "second"]) DF ⟨fun kV doc pm an cdv ct us hl => match us, hl with | [_, _], _ => rfl, fun kV doc pm an cdv ct p hp us hl => by simp only [kws, List.mem_cons, List.not_mem_nil, or_false] at hp; rcases hp with rfl | rfl <;> (match us, hl with | [_, _], _ => rfl)⟩ sc (fun ds P n h => by obtain ⟨_, _, rfl, _⟩ := g2_inv h; rfl) (fun A outer s H E wl f hr => (jss_one (js_ret (jc O_ratio hr (ja_cons (je_op d_mul (je_ix (d_ix rfl) (je_var (pv 0)) (je_int) (fun _ _ => rfl)) (je_ix (d_ix rfl) (je_var (pv 1)) (je_int) (fun _ _ => rfl))) (ja_cons (je_op d_mul (je_ix (d_ix rfl) (je_var (pv 0)) (je_int) (fun _ _ => rfl)) (je_ix (d_ix rfl) (je_var (pv 1)) (je_int) (fun _ _ => rfl))) ja_nil)))))) ?_
  intro ds Pd n h
  obtain ⟨d, e, rfl, h1⟩ := g2_inv h
  obtain ⟨a, b, rfl, ⟨b0, ba, bb⟩, h2⟩ := gFr_inv h1
  obtain ⟨c, e, rfl, ⟨e0, bc, be⟩, hp⟩ := gFr_inv h2
  have nb : b ≠ 0 := by omega
  have ne : e ≠ 0 := by omega
  simp only [mRet, mRetN, mRetL, mIfS, mSeq, mNx, mPass, mExpr, mAsg, gSet, mVar, mC, mOp, mUn, mTB, mNotT, mAndT, mOrT, mAnd, mOr, mNot, mIf, mCons, mNil, mTup, mLst, mCall, mCallK, mSl, mOSome, mONone, mPar, mPar3, eTupD, eConsD, eNilD, eAdd1, eAdd2, eAdd3, eSub, eMul1, eMul2, eFdiv, eMod, ePow, eNeg, eLt, eLe, eGt, eGe, eEq1, eEq2, eNe1, eNe2, eIx1, eIx2, eIx3, eIx4, eSl1, eSl2, eSl3, eLen1, eLen2, eLen3, eAbs, eIntC, eMax2, eMin2, eList1, eList2, eList3, eTuple1, eTuple2, eAll, eAny, eIsi, eGcd2, eGcd3, eLcm, eIsqrt, eDivmod, eOne, eTwo, eThree, eB, eInt, eSeq1, eSeq2, eSeq3, eRng1, eRng2, eIsN, eNotN, gWset, mSeqI, mRng1, mRng2, startS, wipeS, List.map_cons, List.map_nil, List.length_cons, List.length_nil, List.replicate, List.cons_append, List.nil_append, List.append_nil, List.set, List.getElem?_cons_zero, List.getElem?_cons_succ, Option.some.injEq, SV.val.injEq, SV.own.injEq, exists_eq_left', exists_eq_left, true_and, and_true, Nat.reduceAdd, Nat.reduceSub, Nat.zero_add, ite_cr, D.tup.injEq, D.int.injEq, D.bl.injEq, D.lst.injEq, D.str.injEq, List.cons.injEq, reduceCtorEq, if_true, if_false, ite_true, ite_false, Bool.not_true, Bool.not_false, Bool.false_eq_true, not_true, not_false, Bool.true_and, Bool.and_true, Bool.false_and, Bool.and_false, decide_eq_true_eq, ask_int, ask_bool, ask_tuple, ask_list, ask_str, isSub_tuple, isTup_tup, int2, int3, at0, at1, at2, at3, pow2, eFour, ePr, e3I, ePrF, e3K, eFr, eFrF, eTupF, eTupK, eIxF0, eIxF1, fr_inj, nd, nd0, nd1, nd2, nd3, oo, zo, lit0, lit1, div1, ip2, Bool.not_eq_true', decide_eq_false_iff_not, sRat, sPlus, sMinus, sTimes, and_assoc, exists_and_left, Nat.reduceLeDiff, Nat.reduceLT, Int.reduceLT, Int.reduceLE, Int.reduceMul, Int.reduceAdd, Int.reduceSub, Int.reduceNeg, Int.reduceToNat, ne_eq, decide_true, decide_false, eq_self]
  refine ⟨cm ba bc, cm bb be, Int.mul_ne_zero nb ne, (ba.mul bc).mono (by decide), (bb.mul be).mono (by decide), ?_⟩
  rw [rp_mul nb ne]
  exact hp
theorem ok_dot {c : Addr} (B : Bn mg) (DF : Df K mg "dot" s_dot c) (c_NIL : Cst K mg "NIL" (fr 0)) (O_plus : Ok P w K mg base ⟨K, Tb⟩ "plus" ["first", "second"] 2 sPlus) (O_times : Ok P w K mg base ⟨K, Tb⟩ "times" ["first", "second"] 2 sTimes) : Ok P w K mg base ⟨K, Tb⟩ "dot" ["row", "other"] 3 sDot := by
  have sc : FnScope ["row", "other", "total", "first", "second"] ["row", "other"] (defScope s_dot) := ⟨rfl, rfl, rfl, by decide +kernel, rfl, by decide +kernel, by decide +kernel⟩
  refine ok_D (N := ["row", "other", "total", "first", "second"]) DF ⟨fun kV doc pm an cdv ct us hl => match us, hl with | [_, _], _ => rfl, fun kV doc pm an cdv ct p hp us hl => by simp only [kws, List.mem_cons, List.not_mem_nil, or_false] at hp; rcases hp with rfl | rfl <;> (match us, hl with | [_, _], _ => rfl)⟩ sc (fun ds P n h => by obtain ⟨_, _, rfl, _⟩ := g2_inv h; rfl) (fun A outer s H E wl f hr => (jss_cons (js_set (i := 2) sc.nd rfl (by first | exact Or.inl rfl | exact Or.inr rfl) (je_cst c_NIL)) (jss_cut (js_for PassesOwn.never rfl (ji_zip rfl rfl B.zip (je_var (pv 0)) (je_var (pv 1))) (jg_tup (n := 2) rfl rfl (jgs_cons (jg (i := 3) sc.nd) (jgs_cons (jg (i := 4) sc.nd) jgs_nil))) (jss_one (js_set (i := 2) sc.nd rfl (by first | exact Or.inl rfl | exact Or.inr rfl) (jc O_plus hr (ja_cons (je_var (pv 2)) (ja_cons (jc O_times hr (ja_cons (je_var (pv 3)) (ja_cons (je_var (pv 4)) ja_nil))) ja_nil)))))) (jss_one (js_ret (je_var (pv 2))))))) ?_
  intro ds Pd n h
  obtain ⟨d, e, rfl, qs, rs, a, b, ⟨rfl, rfl⟩, ⟨la, lb⟩, ⟨hl, hl2⟩, ⟨h1, h2⟩, hp⟩ := g2_inv h
  unfold mCut mFor rwD
  simp only [mRet, mRetN, mRetL, mIfS, mSeq, mNx, mPass, mExpr, mAsg, gSet, mVar, mC, mOp, mUn, mTB, mNotT, mAndT, mOrT, mAnd, mOr, mNot, mIf, mCons, mNil, mTup, mLst, mCall, mCallK, mSl, mOSome, mONone, mPar, mPar3, eTupD, eConsD, eNilD, eAdd1, eAdd2, eAdd3, eSub, eMul1, eMul2, eFdiv, eMod, ePow, eNeg, eLt, eLe, eGt, eGe, eEq1, eEq2, eNe1, eNe2, eIx1, eIx2, eIx3, eIx4, eSl1, eSl2, eSl3, eLen1, eLen2, eLen3, eAbs, eIntC, eMax2, eMin2, eList1, eList2, eList3, eTuple1, eTuple2, eAll, eAny, eIsi, eGcd2, eGcd3, eLcm, eIsqrt, eDivmod, eOne, eTwo, eThree, eB, eInt, eSeq1, eSeq2, eSeq3, eRng1, eRng2, eIsN, eNotN, gWset, mSeqI, mRng1, mRng2, startS, wipeS, List.map_cons, List.map_nil, List.length_cons, List.length_nil, List.replicate, List.cons_append, List.nil_append, List.append_nil, List.set, List.getElem?_cons_zero, List.getElem?_cons_succ, Option.some.injEq, SV.val.injEq, SV.own.injEq, exists_eq_left', exists_eq_left, true_and, and_true, Nat.reduceAdd, Nat.reduceSub, Nat.zero_add, ite_cr, D.tup.injEq, D.int.injEq, D.bl.injEq, D.lst.injEq, D.str.injEq, List.cons.injEq, reduceCtorEq, if_true, if_false, ite_true, ite_false, Bool.not_true, Bool.not_false, Bool.false_eq_true, not_true, not_false, Bool.true_and, Bool.and_true, Bool.false_and, Bool.and_false, decide_eq_true_eq, ask_int, ask_bool, ask_tuple, ask_list, ask_str, isSub_tuple, isTup_tup, int2, int3, at0, at1, at2, at3, pow2, eFour, ePr, e3I, ePrF, e3K, eFr, eFrF, eTupF, eTupK, eIxF0, eIxF1, fr_inj, nd, nd0, nd1, nd2, nd3, oo, zo, lit0, lit1, div1, ip2, Bool.not_eq_true', decide_eq_false_iff_not, sRat, sPlus, sMinus, sTimes, and_assoc, exists_and_left, Nat.reduceLeDiff, Nat.reduceLT, Int.reduceLT, Int.reduceLE, Int.reduceMul, Int.reduceAdd, Int.reduceSub, Int.reduceNeg, Int.reduceToNat, ne_eq, decide_true, decide_false, eq_self, eIxD0, eIxD1, eTupD2, dsc_inj, eRAb, eRAt, eRAl, le_q0, fr_abs, sSize, sCommon, sBeyond, mZip, or_false, false_or, eRAd, eInT, eTupLd, eTupTr, tr_inj, ld_inj, rw_inj, eIxT0, eIxT1, eIxT2, eNeF, eEqF, eEqR, eRAtr, mEnum, eIxK0, eIxK1, eIxK2, gZip]
  have sz := fun i => dot_part (i := i) la lb hl hl2 h1 h2
  refine ⟨fun l c => ∃ o1 o2 : Option SV, l = [some (SV.val (.tup (qs.map fr))), some (SV.val (.tup (rs.map fr))), some (SV.val (fr (dotr qs rs))), o1, o2] ∧ c = n, ⟨fun i l c => ∃ o1 o2 : Option SV, l = [some (SV.val (.tup (qs.map fr))), some (SV.val (.tup (rs.map fr))), some (SV.val (fr (dotr (qs.take i) (rs.take i)))), o1, o2] ∧ c = n, ⟨none, none, rfl, rfl⟩, ?_, ?_⟩, ?_⟩
  · rintro i d l' c' hd ⟨o1, o2, rfl, rfl⟩
    obtain ⟨x, y, hx, hy, rfl⟩ := zipD_get hd
    obtain ⟨q, hq, rfl⟩ := rw_get hx
    obtain ⟨r, hr, rfl⟩ := rw_get hy
    have zq := h1 q (List.mem_of_getElem? hq)
    have zr := h2 r (List.mem_of_getElem? hr)
    simp only [mRet, mRetN, mRetL, mIfS, mSeq, mNx, mPass, mExpr, mAsg, gSet, mVar, mC, mOp, mUn, mTB, mNotT, mAndT, mOrT, mAnd, mOr, mNot, mIf, mCons, mNil, mTup, mLst, mCall, mCallK, mSl, mOSome, mONone, mPar, mPar3, eTupD, eConsD, eNilD, eAdd1, eAdd2, eAdd3, eSub, eMul1, eMul2, eFdiv, eMod, ePow, eNeg, eLt, eLe, eGt, eGe, eEq1, eEq2, eNe1, eNe2, eIx1, eIx2, eIx3, eIx4, eSl1, eSl2, eSl3, eLen1, eLen2, eLen3, eAbs, eIntC, eMax2, eMin2, eList1, eList2, eList3, eTuple1, eTuple2, eAll, eAny, eIsi, eGcd2, eGcd3, eLcm, eIsqrt, eDivmod, eOne, eTwo, eThree, eB, eInt, eSeq1, eSeq2, eSeq3, eRng1, eRng2, eIsN, eNotN, gWset, mSeqI, mRng1, mRng2, startS, wipeS, List.map_cons, List.map_nil, List.length_cons, List.length_nil, List.replicate, List.cons_append, List.nil_append, List.append_nil, List.set, List.getElem?_cons_zero, List.getElem?_cons_succ, Option.some.injEq, SV.val.injEq, SV.own.injEq, exists_eq_left', exists_eq_left, true_and, and_true, Nat.reduceAdd, Nat.reduceSub, Nat.zero_add, ite_cr, D.tup.injEq, D.int.injEq, D.bl.injEq, D.lst.injEq, D.str.injEq, List.cons.injEq, reduceCtorEq, if_true, if_false, ite_true, ite_false, Bool.not_true, Bool.not_false, Bool.false_eq_true, not_true, not_false, Bool.true_and, Bool.and_true, Bool.false_and, Bool.and_false, decide_eq_true_eq, ask_int, ask_bool, ask_tuple, ask_list, ask_str, isSub_tuple, isTup_tup, int2, int3, at0, at1, at2, at3, pow2, eFour, ePr, e3I, ePrF, e3K, eFr, eFrF, eTupF, eTupK, eIxF0, eIxF1, fr_inj, nd, nd0, nd1, nd2, nd3, oo, zo, lit0, lit1, div1, ip2, Bool.not_eq_true', decide_eq_false_iff_not, sRat, sPlus, sMinus, sTimes, and_assoc, exists_and_left, Nat.reduceLeDiff, Nat.reduceLT, Int.reduceLT, Int.reduceLE, Int.reduceMul, Int.reduceAdd, Int.reduceSub, Int.reduceNeg, Int.reduceToNat, ne_eq, decide_true, decide_false, eq_self, eIxD0, eIxD1, eTupD2, dsc_inj, eRAb, eRAt, eRAl, le_q0, fr_abs, sSize, sCommon, sBeyond, mZip, or_false, false_or, eRAd, eInT, eTupLd, eTupTr, tr_inj, ld_inj, rw_inj, eIxT0, eIxT1, eIxT2, eNeF, eEqF, eEqR, eRAtr, mEnum, eIxK0, eIxK1, eIxK2]
    refine ⟨zq.sz (by omega), zr.sz (by omega), sz i, (zq.mul zr).sz (by omega), ?_⟩
    rw [dot_snoc hq hr]
    try exact ⟨_, _, rfl, rfl⟩
  · rintro l' c' ⟨o1, o2, rfl, rfl⟩
    rw [zipD_len, List.length_map, List.length_map, ← hl2, Nat.min_self, List.take_length, hl2, List.take_length]
    exact ⟨_, _, rfl, rfl⟩
  · rintro l' c' ⟨o1, o2, rfl, rfl⟩
    simp only [mRet, mRetN, mRetL, mIfS, mSeq, mNx, mPass, mExpr, mAsg, gSet, mVar, mC, mOp, mUn, mTB, mNotT, mAndT, mOrT, mAnd, mOr, mNot, mIf, mCons, mNil, mTup, mLst, mCall, mCallK, mSl, mOSome, mONone, mPar, mPar3, eTupD, eConsD, eNilD, eAdd1, eAdd2, eAdd3, eSub, eMul1, eMul2, eFdiv, eMod, ePow, eNeg, eLt, eLe, eGt, eGe, eEq1, eEq2, eNe1, eNe2, eIx1, eIx2, eIx3, eIx4, eSl1, eSl2, eSl3, eLen1, eLen2, eLen3, eAbs, eIntC, eMax2, eMin2, eList1, eList2, eList3, eTuple1, eTuple2, eAll, eAny, eIsi, eGcd2, eGcd3, eLcm, eIsqrt, eDivmod, eOne, eTwo, eThree, eB, eInt, eSeq1, eSeq2, eSeq3, eRng1, eRng2, eIsN, eNotN, gWset, mSeqI, mRng1, mRng2, startS, wipeS, List.map_cons, List.map_nil, List.length_cons, List.length_nil, List.replicate, List.cons_append, List.nil_append, List.append_nil, List.set, List.getElem?_cons_zero, List.getElem?_cons_succ, Option.some.injEq, SV.val.injEq, SV.own.injEq, exists_eq_left', exists_eq_left, true_and, and_true, Nat.reduceAdd, Nat.reduceSub, Nat.zero_add, ite_cr, D.tup.injEq, D.int.injEq, D.bl.injEq, D.lst.injEq, D.str.injEq, List.cons.injEq, reduceCtorEq, if_true, if_false, ite_true, ite_false, Bool.not_true, Bool.not_false, Bool.false_eq_true, not_true, not_false, Bool.true_and, Bool.and_true, Bool.false_and, Bool.and_false, decide_eq_true_eq, ask_int, ask_bool, ask_tuple, ask_list, ask_str, isSub_tuple, isTup_tup, int2, int3, at0, at1, at2, at3, pow2, eFour, ePr, e3I, ePrF, e3K, eFr, eFrF, eTupF, eTupK, eIxF0, eIxF1, fr_inj, nd, nd0, nd1, nd2, nd3, oo, zo, lit0, lit1, div1, ip2, Bool.not_eq_true', decide_eq_false_iff_not, sRat, sPlus, sMinus, sTimes, and_assoc, exists_and_left, Nat.reduceLeDiff, Nat.reduceLT, Int.reduceLT, Int.reduceLE, Int.reduceMul, Int.reduceAdd, Int.reduceSub, Int.reduceNeg, Int.reduceToNat, ne_eq, decide_true, decide_false, eq_self, eIxD0, eIxD1, eTupD2, dsc_inj, eRAb, eRAt, eRAl, le_q0, fr_abs, sSize, sCommon, sBeyond, mZip, or_false, false_or, eRAd, eInT, eTupLd, eTupTr, tr_inj, ld_inj, rw_inj, eIxT0, eIxT1, eIxT2, eNeF, eEqF, eEqR, eRAtr, mEnum, eIxK0, eIxK1, eIxK2]
    exact hp
theorem ok_gap_of {c : Addr} (B : Bn mg) (DF : Df K mg "gap_of" s_gap_of c) (c_ROW_LENGTHS : Cst K mg "ROW_LENGTHS" (.tup [(.int 1), (.int 2), (.int 3), (.int 4)])) (O_check_row : Ok P w K mg base ⟨K, Tb⟩ "check_row" ["value", "lengths"] 3 sChkRow) (O_row_minus : Ok P w K mg base ⟨K, Tb⟩ "row_minus" ["row", "other"] 3 sRowMinus) (O_dot : Ok P w K mg base ⟨K, Tb⟩ "dot" ["row", "other"] 3 sDot) : Ok P w K mg base ⟨K, Tb⟩ "gap_of" ["x", "u", "y", "v"] 4 sGapOf := by
  have sc : FnScope ["x", "u", "y", "v", "row", "place", "value"] ["x", "u", "y", "v"] (defScope s_gap_of) := ⟨rfl, rfl, rfl, by decide +kernel, rfl, by decide +kernel, by decide +kernel⟩
  refine ok_D (N := ["x", "u", "y", "v", "row", "place", "value"]) DF ⟨fun kV doc pm an cdv ct us hl => match us, hl with | [_, _, _, _], _ => rfl, fun kV doc pm an cdv ct p hp us hl => by simp only [kws, List.mem_cons, List.not_mem_nil, or_false] at hp; rcases hp with rfl | rfl | rfl | rfl | rfl | rfl | rfl | rfl | rfl | rfl | rfl | rfl | rfl | rfl | rfl | rfl | rfl | rfl | rfl | rfl | rfl | rfl | rfl | rfl <;> (match us, hl with | [_, _, _, _], _ => rfl)⟩ sc (fun ds P n h => by obtain ⟨_, _, _, _, rfl, _⟩ := g4_inv h; rfl) (fun A outer s H E wl f hr => (jss_cons (js_expr (jc O_check_row hr (ja_cons (je_var (pv 0)) (ja_cons (je_cst c_ROW_LENGTHS) ja_nil)))) (jss_cut (js_for PassesOwn.never rfl (ji_seq rfl (je_tup (ja_cons (je_var (pv 1)) (ja_cons (je_var (pv 2)) (ja_cons (je_var (pv 3)) ja_nil))))) (jg (i := 4) sc.nd) (jss_one (js_expr (jc O_check_row hr (ja_cons (je_var (pv 4)) (ja_cons (je_tup (ja_cons (je_callB (d_len rfl) rfl B.len Bt'.len (ja_cons (je_var (pv 0)) ja_nil)) ja_nil)) ja_nil)))))) (jss_cons (js_if (PW.pt (jw_and (jt_cmp (d_eq rfl hr.cl) (je_var (pv 0)) (je_var (pv 2)) (nomark _)) (jw_and1 (jt_cmp (d_eq rfl hr.cl) (je_var (pv 1)) (je_var (pv 3)) (nomark _))))) (jss_one (js_never)) jss_nil) (jss_cons (js_par (i := 5) (j := 6) rfl sc.nd rfl rfl (by decide) rfl rfl (jc O_row_minus hr (ja_cons (je_var (pv 0)) (ja_cons (je_var (pv 2)) ja_nil))) (jc O_row_minus hr (ja_cons (je_var (pv 1)) (ja_cons (je_var (pv 3)) ja_nil))) rfl) (jss_one (js_ret (je_tup (ja_cons (jc O_dot hr (ja_cons (je_var (pv 5)) (ja_cons (je_var (pv 5)) ja_nil))) (ja_cons (jc O_dot hr (ja_cons (je_var (pv 5)) (ja_cons (je_var (pv 6)) ja_nil))) (ja_cons (jc O_dot hr (ja_cons (je_var (pv 6)) (ja_cons (je_var (pv 6)) ja_nil))) ja_nil))))))))))) ?_
  intro ds Pd n h
  obtain ⟨d1, d2, d3, d4, rfl, x, u, y, v, a, b, ⟨rfl, rfl, rfl, rfl⟩, ⟨la, lb⟩, ⟨l0, l1, l2, l3, l4⟩, ⟨hx, hu, hy, hv⟩, hne, hp⟩ := g4_inv h
  have w : ∀ {p : List Rat}, Rz a b p → ∀ q ∈ p, Sz 1000 q := fun h q hq => (h q hq).sz (by omega)
  unfold mCut mFor
  simp only [mRet, mRetN, mRetL, mIfS, mSeq, mNx, mPass, mExpr, mAsg, gSet, mVar, mC, mOp, mUn, mTB, mNotT, mAndT, mOrT, mAnd, mOr, mNot, mIf, mCons, mNil, mTup, mLst, mCall, mCallK, mSl, mOSome, mONone, mPar, mPar3, eTupD, eConsD, eNilD, eAdd1, eAdd2, eAdd3, eSub, eMul1, eMul2, eFdiv, eMod, ePow, eNeg, eLt, eLe, eGt, eGe, eEq1, eEq2, eNe1, eNe2, eIx1, eIx2, eIx3, eIx4, eSl1, eSl2, eSl3, eLen1, eLen2, eLen3, eAbs, eIntC, eMax2, eMin2, eList1, eList2, eList3, eTuple1, eTuple2, eAll, eAny, eIsi, eGcd2, eGcd3, eLcm, eIsqrt, eDivmod, eOne, eTwo, eThree, eB, eInt, eSeq1, eSeq2, eSeq3, eRng1, eRng2, eIsN, eNotN, gWset, mSeqI, mRng1, mRng2, startS, wipeS, List.map_cons, List.map_nil, List.length_cons, List.length_nil, List.replicate, List.cons_append, List.nil_append, List.append_nil, List.set, List.getElem?_cons_zero, List.getElem?_cons_succ, Option.some.injEq, SV.val.injEq, SV.own.injEq, exists_eq_left', exists_eq_left, true_and, and_true, Nat.reduceAdd, Nat.reduceSub, Nat.zero_add, ite_cr, D.tup.injEq, D.int.injEq, D.bl.injEq, D.lst.injEq, D.str.injEq, List.cons.injEq, reduceCtorEq, if_true, if_false, ite_true, ite_false, Bool.not_true, Bool.not_false, Bool.false_eq_true, not_true, not_false, Bool.true_and, Bool.and_true, Bool.false_and, Bool.and_false, decide_eq_true_eq, ask_int, ask_bool, ask_tuple, ask_list, ask_str, isSub_tuple, isTup_tup, int2, int3, at0, at1, at2, at3, pow2, eFour, ePr, e3I, ePrF, e3K, eFr, eFrF, eTupF, eTupK, eIxF0, eIxF1, fr_inj, nd, nd0, nd1, nd2, nd3, oo, zo, lit0, lit1, div1, ip2, Bool.not_eq_true', decide_eq_false_iff_not, sRat, sPlus, sMinus, sTimes, and_assoc, exists_and_left, Nat.reduceLeDiff, Nat.reduceLT, Int.reduceLT, Int.reduceLE, Int.reduceMul, Int.reduceAdd, Int.reduceSub, Int.reduceNeg, Int.reduceToNat, ne_eq, decide_true, decide_false, eq_self, eIxD0, eIxD1, eTupD2, dsc_inj, eRAb, eRAt, eRAl, le_q0, fr_abs, sSize, sCommon, sBeyond, mZip, or_false, false_or, eRAd, eInT, eTupLd, eTupTr, tr_inj, ld_inj, rw_inj, eIxT0, eIxT1, eIxT2, eNeF, eEqF, eEqR, eRAtr, mEnum, eIxK0, eIxK1, eIxK2, sChkRow]
  refine ⟨[1, 2, 3, 4], rfl, by omega, by simp only [List.mem_cons, List.not_mem_nil, or_false]; omega, w hx, ?_⟩
  refine ⟨fun l c => ∃ o : Option SV, l = [some (SV.val (rwD x)), some (SV.val (rwD u)), some (SV.val (rwD y)), some (SV.val (rwD v)), o, none, none] ∧ c = n, ⟨fun i l c => ∃ o : Option SV, l = [some (SV.val (rwD x)), some (SV.val (rwD u)), some (SV.val (rwD y)), some (SV.val (rwD v)), o, none, none] ∧ c = n, ⟨none, rfl, rfl⟩, ?_, fun _ _ h => h⟩, ?_⟩
  · rintro i d l' c' hd ⟨o, rfl, rfl⟩
    have hd : d ∈ [rwD u, rwD y, rwD v] := List.mem_of_getElem? hd
    obtain ⟨p, rfl, hp2, hl⟩ : ∃ p, d = rwD p ∧ Rz a b p ∧ p.length = x.length := by
      simp only [List.mem_cons, List.not_mem_nil, or_false] at hd
      rcases hd with rfl | rfl | rfl
      · exact ⟨_, rfl, hu, l2⟩
      · exact ⟨_, rfl, hy, l3⟩
      · exact ⟨_, rfl, hv, l4⟩
    have el : ∀ {P : DJ.D → Cr}, gLen (rwD x) P = P (.int (x.length : Int)) := fun {P} => by unfold rwD; simp only [mRet, mRetN, mRetL, mIfS, mSeq, mNx, mPass, mExpr, mAsg, gSet, mVar, mC, mOp, mUn, mTB, mNotT, mAndT, mOrT, mAnd, mOr, mNot, mIf, mCons, mNil, mTup, mLst, mCall, mCallK, mSl, mOSome, mONone, mPar, mPar3, eTupD, eConsD, eNilD, eAdd1, eAdd2, eAdd3, eSub, eMul1, eMul2, eFdiv, eMod, ePow, eNeg, eLt, eLe, eGt, eGe, eEq1, eEq2, eNe1, eNe2, eIx1, eIx2, eIx3, eIx4, eSl1, eSl2, eSl3, eLen1, eLen2, eLen3, eAbs, eIntC, eMax2, eMin2, eList1, eList2, eList3, eTuple1, eTuple2, eAll, eAny, eIsi, eGcd2, eGcd3, eLcm, eIsqrt, eDivmod, eOne, eTwo, eThree, eB, eInt, eSeq1, eSeq2, eSeq3, eRng1, eRng2, eIsN, eNotN, gWset, mSeqI, mRng1, mRng2, startS, wipeS, List.map_cons, List.map_nil, List.length_cons, List.length_nil, List.replicate, List.cons_append, List.nil_append, List.append_nil, List.set, List.getElem?_cons_zero, List.getElem?_cons_succ, Option.some.injEq, SV.val.injEq, SV.own.injEq, exists_eq_left', exists_eq_left, true_and, and_true, Nat.reduceAdd, Nat.reduceSub, Nat.zero_add, ite_cr, D.tup.injEq, D.int.injEq, D.bl.injEq, D.lst.injEq, D.str.injEq, List.cons.injEq, reduceCtorEq, if_true, if_false, ite_true, ite_false, Bool.not_true, Bool.not_false, Bool.false_eq_true, not_true, not_false, Bool.true_and, Bool.and_true, Bool.false_and, Bool.and_false, decide_eq_true_eq, ask_int, ask_bool, ask_tuple, ask_list, ask_str, isSub_tuple, isTup_tup, int2, int3, at0, at1, at2, at3, pow2, eFour, ePr, e3I, ePrF, e3K, eFr, eFrF, eTupF, eTupK, eIxF0, eIxF1, fr_inj, nd, nd0, nd1, nd2, nd3, oo, zo, lit0, lit1, div1, ip2, Bool.not_eq_true', decide_eq_false_iff_not, sRat, sPlus, sMinus, sTimes, and_assoc, exists_and_left, Nat.reduceLeDiff, Nat.reduceLT, Int.reduceLT, Int.reduceLE, Int.reduceMul, Int.reduceAdd, Int.reduceSub, Int.reduceNeg, Int.reduceToNat, ne_eq, decide_true, decide_false, eq_self, eIxD0, eIxD1, eTupD2, dsc_inj, eRAb, eRAt, eRAl, le_q0, fr_abs, sSize, sCommon, sBeyond, mZip, or_false, false_or, eRAd, eInT, eTupLd, eTupTr, tr_inj, ld_inj, rw_inj, eIxT0, eIxT1, eIxT2, eNeF, eEqF, eEqR, eRAtr, mEnum, eIxK0, eIxK1, eIxK2, List.length_map]
    simp only [mRet, mRetN, mRetL, mIfS, mSeq, mNx, mPass, mExpr, mAsg, gSet, mVar, mC, mOp, mUn, mTB, mNotT, mAndT, mOrT, mAnd, mOr, mNot, mIf, mCons, mNil, mTup, mLst, mCall, mCallK, mSl, mOSome, mONone, mPar, mPar3, eTupD, eConsD, eNilD, eAdd1, eAdd2, eAdd3, eSub, eMul1, eMul2, eFdiv, eMod, ePow, eNeg, eLt, eLe, eGt, eGe, eEq1, eEq2, eNe1, eNe2, eIx1, eIx2, eIx3, eIx4, eSl1, eSl2, eSl3, eLen1, eLen2, eLen3, eAbs, eIntC, eMax2, eMin2, eList1, eList2, eList3, eTuple1, eTuple2, eAll, eAny, eIsi, eGcd2, eGcd3, eLcm, eIsqrt, eDivmod, eOne, eTwo, eThree, eB, eInt, eSeq1, eSeq2, eSeq3, eRng1, eRng2, eIsN, eNotN, gWset, mSeqI, mRng1, mRng2, startS, wipeS, List.map_cons, List.map_nil, List.length_cons, List.length_nil, List.replicate, List.cons_append, List.nil_append, List.append_nil, List.set, List.getElem?_cons_zero, List.getElem?_cons_succ, Option.some.injEq, SV.val.injEq, SV.own.injEq, exists_eq_left', exists_eq_left, true_and, and_true, Nat.reduceAdd, Nat.reduceSub, Nat.zero_add, ite_cr, D.tup.injEq, D.int.injEq, D.bl.injEq, D.lst.injEq, D.str.injEq, List.cons.injEq, reduceCtorEq, if_true, if_false, ite_true, ite_false, Bool.not_true, Bool.not_false, Bool.false_eq_true, not_true, not_false, Bool.true_and, Bool.and_true, Bool.false_and, Bool.and_false, decide_eq_true_eq, ask_int, ask_bool, ask_tuple, ask_list, ask_str, isSub_tuple, isTup_tup, int2, int3, at0, at1, at2, at3, pow2, eFour, ePr, e3I, ePrF, e3K, eFr, eFrF, eTupF, eTupK, eIxF0, eIxF1, fr_inj, nd, nd0, nd1, nd2, nd3, oo, zo, lit0, lit1, div1, ip2, Bool.not_eq_true', decide_eq_false_iff_not, sRat, sPlus, sMinus, sTimes, and_assoc, exists_and_left, Nat.reduceLeDiff, Nat.reduceLT, Int.reduceLT, Int.reduceLE, Int.reduceMul, Int.reduceAdd, Int.reduceSub, Int.reduceNeg, Int.reduceToNat, ne_eq, decide_true, decide_false, eq_self, eIxD0, eIxD1, eTupD2, dsc_inj, eRAb, eRAt, eRAl, le_q0, fr_abs, sSize, sCommon, sBeyond, mZip, or_false, false_or, eRAd, eInT, eTupLd, eTupTr, tr_inj, ld_inj, rw_inj, eIxT0, eIxT1, eIxT2, eNeF, eEqF, eEqR, eRAtr, mEnum, eIxK0, eIxK1, eIxK2, el]
    refine ⟨[(x.length : Int)], rfl, by omega, by simp only [List.mem_cons, List.not_mem_nil, or_false]; omega, w hp2⟩
  · rintro l' c' ⟨o, rfl, rfl⟩
    have z1 : Rz (a + 3 + b) (2 * b + 2) (comb 1 (-1) x y) := (comb_sz hx hy).mono (by omega) (by omega)
    have z2 : Rz (a + 3 + b) (2 * b + 2) (comb 1 (-1) u v) := (comb_sz hu hv).mono (by omega) (by omega)
    have n1 : (comb 1 (-1) x y).length = x.length := comb_len (by omega)
    have n2 : (comb 1 (-1) u v).length = x.length := by rw [comb_len (by omega)]; omega
    simp only [mRet, mRetN, mRetL, mIfS, mSeq, mNx, mPass, mExpr, mAsg, gSet, mVar, mC, mOp, mUn, mTB, mNotT, mAndT, mOrT, mAnd, mOr, mNot, mIf, mCons, mNil, mTup, mLst, mCall, mCallK, mSl, mOSome, mONone, mPar, mPar3, eTupD, eConsD, eNilD, eAdd1, eAdd2, eAdd3, eSub, eMul1, eMul2, eFdiv, eMod, ePow, eNeg, eLt, eLe, eGt, eGe, eEq1, eEq2, eNe1, eNe2, eIx1, eIx2, eIx3, eIx4, eSl1, eSl2, eSl3, eLen1, eLen2, eLen3, eAbs, eIntC, eMax2, eMin2, eList1, eList2, eList3, eTuple1, eTuple2, eAll, eAny, eIsi, eGcd2, eGcd3, eLcm, eIsqrt, eDivmod, eOne, eTwo, eThree, eB, eInt, eSeq1, eSeq2, eSeq3, eRng1, eRng2, eIsN, eNotN, gWset, mSeqI, mRng1, mRng2, startS, wipeS, List.map_cons, List.map_nil, List.length_cons, List.length_nil, List.replicate, List.cons_append, List.nil_append, List.append_nil, List.set, List.getElem?_cons_zero, List.getElem?_cons_succ, Option.some.injEq, SV.val.injEq, SV.own.injEq, exists_eq_left', exists_eq_left, true_and, and_true, Nat.reduceAdd, Nat.reduceSub, Nat.zero_add, ite_cr, D.tup.injEq, D.int.injEq, D.bl.injEq, D.lst.injEq, D.str.injEq, List.cons.injEq, reduceCtorEq, if_true, if_false, ite_true, ite_false, Bool.not_true, Bool.not_false, Bool.false_eq_true, not_true, not_false, Bool.true_and, Bool.and_true, Bool.false_and, Bool.and_false, decide_eq_true_eq, ask_int, ask_bool, ask_tuple, ask_list, ask_str, isSub_tuple, isTup_tup, int2, int3, at0, at1, at2, at3, pow2, eFour, ePr, e3I, ePrF, e3K, eFr, eFrF, eTupF, eTupK, eIxF0, eIxF1, fr_inj, nd, nd0, nd1, nd2, nd3, oo, zo, lit0, lit1, div1, ip2, Bool.not_eq_true', decide_eq_false_iff_not, sRat, sPlus, sMinus, sTimes, and_assoc, exists_and_left, Nat.reduceLeDiff, Nat.reduceLT, Int.reduceLT, Int.reduceLE, Int.reduceMul, Int.reduceAdd, Int.reduceSub, Int.reduceNeg, Int.reduceToNat, ne_eq, decide_true, decide_false, eq_self, eIxD0, eIxD1, eTupD2, dsc_inj, eRAb, eRAt, eRAl, le_q0, fr_abs, sSize, sCommon, sBeyond, mZip, or_false, false_or, eRAd, eInT, eTupLd, eTupTr, tr_inj, ld_inj, rw_inj, eIxT0, eIxT1, eIxT2, eNeF, eEqF, eEqR, eRAtr, mEnum, eIxK0, eIxK1, eIxK2, sRowMinus, sDot]
    by_cases hxy : x = y
    · by_cases huv : u = v
      · exact absurd ⟨hxy, huv⟩ hne
      · rw [if_pos hxy, if_neg huv]
        exact ⟨by omega, by omega, w hx, w hy, by omega, by omega, w hu, w hv, a + 3 + b, by omega, 2 * b + 2, by omega, by omega, z1, z1, a + 3 + b, by omega, 2 * b + 2, by omega, by omega, by omega, z1, z2, a + 3 + b, by omega, 2 * b + 2, by omega, by omega, z2, z2, hp⟩
    · rw [if_neg hxy]
      exact ⟨by omega, by omega, w hx, w hy, by omega, by omega, w hu, w hv, a + 3 + b, by omega, 2 * b + 2, by omega, by omega, z1, z1, a + 3 + b, by omega, 2 * b + 2, by omega, by omega, by omega, z1, z2, a + 3 + b, by omega, 2 * b + 2, by omega, by omega, z2, z2, hp⟩
theorem ok_are_fractions {c : Addr} (B : Bn mg) (DF : Df K mg "are_fractions" s_are_fractions c) {Pt : Addr} (hP : Pt ∈ Tb) (TB : GxR.TabB base mg c Pt) (O_is_fraction : Ok P w K mg base ⟨K, Tb⟩ "is_fraction" ["value"] 2 sIsFraction) : Ok P w K mg base ⟨K, Tb⟩ "are_fractions" ["value", "many"] 4 sAreFractions := by
  have sc : FnScope ["value", "many", "part"] ["value", "many"] (defScope s_are_fractions) := ⟨rfl, rfl, rfl, by decide +kernel, rfl, by decide +kernel, by decide +kernel⟩
  refine ok_D (N := ["value", "many", "part"]) DF ⟨fun kV doc pm an cdv ct us hl => match us, hl with | [_, _], _ => rfl, fun kV doc pm an cdv ct p hp us hl => by simp only [kws, List.mem_cons, List.not_mem_nil, or_false] at hp; rcases hp with rfl | rfl <;> (match us, hl with | [_, _], _ => rfl)⟩ sc (fun ds P n h => by obtain ⟨_, _, rfl, _⟩ := h; rfl) (fun A outer s H E wl f hr => (jss_one (js_ret ((je_and (je_callB (d_isi rfl) rfl B.isinstance Bt'.isinstance (ja_cons (je_var (pv 0)) (ja_cons (je_ty rfl B.tuple Bt'.tuple) ja_nil))) (je_and (je_cmp (d_eq rfl hr.cl) (je_callB (d_len rfl) rfl B.len Bt'.len (ja_cons (je_var (pv 0)) ja_nil)) (je_var (pv 1)) (nomark _)) (je_one (je_allG (own := [("part", 2)]) (k := 2) (hr.le (by decide)) rfl B.all rfl sc.nd hP TB rfl (ji_seq rfl (je_var (pv 0))) (gblk_by (by kernel_rfl)) (by decide) ⟨fun A s H C code fp pn hr => (jg (i := 2) sc.nd), fun A s H C code fp pn hr => jts_nil, fun A s H C code fp pn hr => (jc O_is_fraction hr (ja_cons (je_var (pv 2)) ja_nil))⟩)))))))) ?_
  intro ds Pd n h
  obtain ⟨d, m, rfl, hf, hp⟩ := h
  have ht := fine_ty hf
  by_cases hd : isTup d = true
  · obtain ⟨xs, rfl⟩ := isTup_iff.mp hd
    have hx := fine_tup.mp hf
    have hp : Pd (.bl (decide ((xs.length : Int) = m) && xs.all fracB)) n := hp
    simp only [mRet, mRetN, mRetL, mIfS, mSeq, mNx, mPass, mExpr, mAsg, gSet, mVar, mC, mOp, mUn, mTB, mNotT, mAndT, mOrT, mAnd, mOr, mNot, mIf, mCons, mNil, mTup, mLst, mCall, mCallK, mSl, mOSome, mONone, mPar, mPar3, eTupD, eConsD, eNilD, eAdd1, eAdd2, eAdd3, eSub, eMul1, eMul2, eFdiv, eMod, ePow, eNeg, eLt, eLe, eGt, eGe, eEq1, eEq2, eNe1, eNe2, eIx1, eIx2, eIx3, eIx4, eSl1, eSl2, eSl3, eLen1, eLen2, eLen3, eAbs, eIntC, eMax2, eMin2, eList1, eList2, eList3, eTuple1, eTuple2, eAll, eAny, eIsi, eGcd2, eGcd3, eLcm, eIsqrt, eDivmod, eOne, eTwo, eThree, eB, eInt, eSeq1, eSeq2, eSeq3, eRng1, eRng2, eIsN, eNotN, gWset, mSeqI, mRng1, mRng2, startS, wipeS, List.map_cons, List.map_nil, List.length_cons, List.length_nil, List.replicate, List.cons_append, List.nil_append, List.append_nil, List.set, List.getElem?_cons_zero, List.getElem?_cons_succ, Option.some.injEq, SV.val.injEq, SV.own.injEq, exists_eq_left', exists_eq_left, true_and, and_true, Nat.reduceAdd, Nat.reduceSub, Nat.zero_add, ite_cr, D.tup.injEq, D.int.injEq, D.bl.injEq, D.lst.injEq, D.str.injEq, List.cons.injEq, reduceCtorEq, if_true, if_false, ite_true, ite_false, Bool.not_true, Bool.not_false, Bool.false_eq_true, not_true, not_false, Bool.true_and, Bool.and_true, Bool.false_and, Bool.and_false, decide_eq_true_eq, ask_int, ask_bool, ask_tuple, ask_list, ask_str, isSub_tuple, isTup_tup, int2, int3, at0, at1, at2, at3, pow2, ht]
    by_cases hl : ((xs.length : Nat) : Int) = m
    · simp only [hl, if_true, decide_true, Bool.true_and] at hp ⊢
      unfold mAllG
      simp only [mRet, mRetN, mRetL, mIfS, mSeq, mNx, mPass, mExpr, mAsg, gSet, mVar, mC, mOp, mUn, mTB, mNotT, mAndT, mOrT, mAnd, mOr, mNot, mIf, mCons, mNil, mTup, mLst, mCall, mCallK, mSl, mOSome, mONone, mPar, mPar3, eTupD, eConsD, eNilD, eAdd1, eAdd2, eAdd3, eSub, eMul1, eMul2, eFdiv, eMod, ePow, eNeg, eLt, eLe, eGt, eGe, eEq1, eEq2, eNe1, eNe2, eIx1, eIx2, eIx3, eIx4, eSl1, eSl2, eSl3, eLen1, eLen2, eLen3, eAbs, eIntC, eMax2, eMin2, eList1, eList2, eList3, eTuple1, eTuple2, eAll, eAny, eIsi, eGcd2, eGcd3, eLcm, eIsqrt, eDivmod, eOne, eTwo, eThree, eB, eInt, eSeq1, eSeq2, eSeq3, eRng1, eRng2, eIsN, eNotN, gWset, mSeqI, mRng1, mRng2, startS, wipeS, List.map_cons, List.map_nil, List.length_cons, List.length_nil, List.replicate, List.cons_append, List.nil_append, List.append_nil, List.set, List.getElem?_cons_zero, List.getElem?_cons_succ, Option.some.injEq, SV.val.injEq, SV.own.injEq, exists_eq_left', exists_eq_left, true_and, and_true, Nat.reduceAdd, Nat.reduceSub, Nat.zero_add, ite_cr, D.tup.injEq, D.int.injEq, D.bl.injEq, D.lst.injEq, D.str.injEq, List.cons.injEq, reduceCtorEq, if_true, if_false, ite_true, ite_false, Bool.not_true, Bool.not_false, Bool.false_eq_true, not_true, not_false, Bool.true_and, Bool.and_true, Bool.false_and, Bool.and_false, decide_eq_true_eq, ask_int, ask_bool, ask_tuple, ask_list, ask_str, isSub_tuple, isTup_tup, int2, int3, at0, at1, at2, at3, pow2, ht]
      refine mAllL_of (f := fracB) (fun d hd yes no c h => ?_) hp
      unfold turnD
      simp only [mRet, mRetN, mRetL, mIfS, mSeq, mNx, mPass, mExpr, mAsg, gSet, mVar, mC, mOp, mUn, mTB, mNotT, mAndT, mOrT, mAnd, mOr, mNot, mIf, mCons, mNil, mTup, mLst, mCall, mCallK, mSl, mOSome, mONone, mPar, mPar3, eTupD, eConsD, eNilD, eAdd1, eAdd2, eAdd3, eSub, eMul1, eMul2, eFdiv, eMod, ePow, eNeg, eLt, eLe, eGt, eGe, eEq1, eEq2, eNe1, eNe2, eIx1, eIx2, eIx3, eIx4, eSl1, eSl2, eSl3, eLen1, eLen2, eLen3, eAbs, eIntC, eMax2, eMin2, eList1, eList2, eList3, eTuple1, eTuple2, eAll, eAny, eIsi, eGcd2, eGcd3, eLcm, eIsqrt, eDivmod, eOne, eTwo, eThree, eB, eInt, eSeq1, eSeq2, eSeq3, eRng1, eRng2, eIsN, eNotN, gWset, mSeqI, mRng1, mRng2, startS, wipeS, List.map_cons, List.map_nil, List.length_cons, List.length_nil, List.replicate, List.cons_append, List.nil_append, List.append_nil, List.set, List.getElem?_cons_zero, List.getElem?_cons_succ, Option.some.injEq, SV.val.injEq, SV.own.injEq, exists_eq_left', exists_eq_left, true_and, and_true, Nat.reduceAdd, Nat.reduceSub, Nat.zero_add, ite_cr, D.tup.injEq, D.int.injEq, D.bl.injEq, D.lst.injEq, D.str.injEq, List.cons.injEq, reduceCtorEq, if_true, if_false, ite_true, ite_false, Bool.not_true, Bool.not_false, Bool.false_eq_true, not_true, not_false, Bool.true_and, Bool.and_true, Bool.false_and, Bool.and_false, decide_eq_true_eq, ask_int, ask_bool, ask_tuple, ask_list, ask_str, isSub_tuple, isTup_tup, int2, int3, at0, at1, at2, at3, pow2, mYes, sIsFraction, hx d hd]
      exact h
    · simp only [hl, if_false, decide_false, Bool.false_and] at hp ⊢
      exact hp
  · have e : fracsB d m = false := by cases d <;> first | rfl | exact absurd rfl hd
    rw [e] at hp
    simp only [mRet, mRetN, mRetL, mIfS, mSeq, mNx, mPass, mExpr, mAsg, gSet, mVar, mC, mOp, mUn, mTB, mNotT, mAndT, mOrT, mAnd, mOr, mNot, mIf, mCons, mNil, mTup, mLst, mCall, mCallK, mSl, mOSome, mONone, mPar, mPar3, eTupD, eConsD, eNilD, eAdd1, eAdd2, eAdd3, eSub, eMul1, eMul2, eFdiv, eMod, ePow, eNeg, eLt, eLe, eGt, eGe, eEq1, eEq2, eNe1, eNe2, eIx1, eIx2, eIx3, eIx4, eSl1, eSl2, eSl3, eLen1, eLen2, eLen3, eAbs, eIntC, eMax2, eMin2, eList1, eList2, eList3, eTuple1, eTuple2, eAll, eAny, eIsi, eGcd2, eGcd3, eLcm, eIsqrt, eDivmod, eOne, eTwo, eThree, eB, eInt, eSeq1, eSeq2, eSeq3, eRng1, eRng2, eIsN, eNotN, gWset, mSeqI, mRng1, mRng2, startS, wipeS, List.map_cons, List.map_nil, List.length_cons, List.length_nil, List.replicate, List.cons_append, List.nil_append, List.append_nil, List.set, List.getElem?_cons_zero, List.getElem?_cons_succ, Option.some.injEq, SV.val.injEq, SV.own.injEq, exists_eq_left', exists_eq_left, true_and, and_true, Nat.reduceAdd, Nat.reduceSub, Nat.zero_add, ite_cr, D.tup.injEq, D.int.injEq, D.bl.injEq, D.lst.injEq, D.str.injEq, List.cons.injEq, reduceCtorEq, if_true, if_false, ite_true, ite_false, Bool.not_true, Bool.not_false, Bool.false_eq_true, not_true, not_false, Bool.true_and, Bool.and_true, Bool.false_and, Bool.and_false, decide_eq_true_eq, ask_int, ask_bool, ask_tuple, ask_list, ask_str, isSub_tuple, isTup_tup, int2, int3, at0, at1, at2, at3, pow2, ht, hd]
    exact hp
theorem ok_is_inside {c : Addr} (B : Bn mg) (DF : Df K mg "is_inside" s_is_inside c) : Ok P w K mg base ⟨K, Tb⟩ "is_inside" ["gap"] 1 sIsInside := by
  have sc : FnScope ["gap"] ["gap"] (defScope s_is_inside) := ⟨rfl, rfl, rfl, by decide +kernel, rfl, by decide +kernel, by decide +kernel⟩
  refine ok_D (N := ["gap"]) DF ⟨fun kV doc pm an cdv ct us hl => match us, hl with | [_], _ => rfl, fun kV doc pm an cdv ct p hp us hl => by simp only [kws, List.mem_cons, List.not_mem_nil, or_false] at hp; rcases hp with rfl <;> (match us, hl with | [_], _ => rfl)⟩ sc (fun ds P n h => by obtain ⟨_, _, _, rfl, _⟩ := h; rfl) (fun A outer s H E wl f hr => (jss_one (js_ret ((je_and (je_cmp d_gt (je_op (d_add rfl) (je_ix (d_ix rfl) (je_var (pv 0)) (je_int) (fun _ _ => rfl)) (je_ix (d_ix rfl) (je_var (pv 0)) (je_int) (fun _ _ => rfl))) (je_int) (nomark _)) (je_one (je_cmp d_ge (je_op d_mul (je_ix (d_ix rfl) (je_var (pv 0)) (je_int) (fun _ _ => rfl)) (je_ix (d_ix rfl) (je_var (pv 0)) (je_int) (fun _ _ => rfl))) (je_op d_pow (je_ix (d_ix rfl) (je_var (pv 0)) (je_int) (fun _ _ => rfl)) (je_int)) (nomark _)))))))) ?_
  intro ds Pd n h
  obtain ⟨a, b, c, rfl, ⟨ba, bb, bc⟩, hp⟩ := h
  simp only [mRet, mRetN, mRetL, mIfS, mSeq, mNx, mPass, mExpr, mAsg, gSet, mVar, mC, mOp, mUn, mTB, mNotT, mAndT, mOrT, mAnd, mOr, mNot, mIf, mCons, mNil, mTup, mLst, mCall, mCallK, mSl, mOSome, mONone, mPar, mPar3, eTupD, eConsD, eNilD, eAdd1, eAdd2, eAdd3, eSub, eMul1, eMul2, eFdiv, eMod, ePow, eNeg, eLt, eLe, eGt, eGe, eEq1, eEq2, eNe1, eNe2, eIx1, eIx2, eIx3, eIx4, eSl1, eSl2, eSl3, eLen1, eLen2, eLen3, eAbs, eIntC, eMax2, eMin2, eList1, eList2, eList3, eTuple1, eTuple2, eAll, eAny, eIsi, eGcd2, eGcd3, eLcm, eIsqrt, eDivmod, eOne, eTwo, eThree, eB, eInt, eSeq1, eSeq2, eSeq3, eRng1, eRng2, eIsN, eNotN, gWset, mSeqI, mRng1, mRng2, startS, wipeS, List.map_cons, List.map_nil, List.length_cons, List.length_nil, List.replicate, List.cons_append, List.nil_append, List.append_nil, List.set, List.getElem?_cons_zero, List.getElem?_cons_succ, Option.some.injEq, SV.val.injEq, SV.own.injEq, exists_eq_left', exists_eq_left, true_and, and_true, Nat.reduceAdd, Nat.reduceSub, Nat.zero_add, ite_cr, D.tup.injEq, D.int.injEq, D.bl.injEq, D.lst.injEq, D.str.injEq, List.cons.injEq, reduceCtorEq, if_true, if_false, ite_true, ite_false, Bool.not_true, Bool.not_false, Bool.false_eq_true, not_true, not_false, Bool.true_and, Bool.and_true, Bool.false_and, Bool.and_false, decide_eq_true_eq, ask_int, ask_bool, ask_tuple, ask_list, ask_str, isSub_tuple, isTup_tup, int2, int3, at0, at1, at2, at3, pow2, pow2_ok bb, cm ba bc]
  by_cases h1 : 0 < a + c <;> simp [h1] at hp ⊢ <;> exact hp
theorem ok_whole_row {c : Addr} (B : Bn mg) (DF : Df K mg "whole_row" s_whole_row c) {Pt : Addr} (hP : Pt ∈ Tb) (TB : GxR.TabB base mg c Pt) : Ok P w K mg base ⟨K, Tb⟩ "whole_row" ["row", "bottom"] 2 sWholeRow := by
  have sc : FnScope ["row", "bottom", "top", "under"] ["row", "bottom"] (defScope s_whole_row) := ⟨rfl, rfl, rfl, by decide +kernel, rfl, by decide +kernel, by decide +kernel⟩
  refine ok_D (N := ["row", "bottom", "top", "under"]) DF ⟨fun kV doc pm an cdv ct us hl => match us, hl with | [_, _], _ => rfl, fun kV doc pm an cdv ct p hp us hl => by simp only [kws, List.mem_cons, List.not_mem_nil, or_false] at hp; rcases hp with rfl | rfl <;> (match us, hl with | [_, _], _ => rfl)⟩ sc (fun ds P n h => by obtain ⟨_, _, rfl, _⟩ := h; rfl) (fun A outer s H E wl f hr => (jss_one (js_ret (je_tupG (own := [("top", 2), ("under", 3)]) (k := 0) (hr.le (by decide)) rfl B.tuple rfl sc.nd hP TB rfl (ji_seq rfl (je_var (pv 0))) (gblk_by (by kernel_rfl)) (by decide) ⟨fun A s H C code fp pn hr => (jg_tup (n := 2) rfl rfl (jgs_cons (jg (i := 2) sc.nd) (jgs_cons (jg (i := 3) sc.nd) jgs_nil))), fun A s H C code fp pn hr => jts_nil, fun A s H C code fp pn hr => (je_op d_mul (je_var (pv 2)) (je_op d_fdiv (je_var (pv 1)) (je_var (pv 3))))⟩)))) ?_
  intro ds Pd n h
  obtain ⟨ps, L, rfl, hl, hb, hL, hp⟩ := h
  unfold mTupG
  simp only [mRet, mRetN, mRetL, mIfS, mSeq, mNx, mPass, mExpr, mAsg, gSet, mVar, mC, mOp, mUn, mTB, mNotT, mAndT, mOrT, mAnd, mOr, mNot, mIf, mCons, mNil, mTup, mLst, mCall, mCallK, mSl, mOSome, mONone, mPar, mPar3, eTupD, eConsD, eNilD, eAdd1, eAdd2, eAdd3, eSub, eMul1, eMul2, eFdiv, eMod, ePow, eNeg, eLt, eLe, eGt, eGe, eEq1, eEq2, eNe1, eNe2, eIx1, eIx2, eIx3, eIx4, eSl1, eSl2, eSl3, eLen1, eLen2, eLen3, eAbs, eIntC, eMax2, eMin2, eList1, eList2, eList3, eTuple1, eTuple2, eAll, eAny, eIsi, eGcd2, eGcd3, eLcm, eIsqrt, eDivmod, eOne, eTwo, eThree, eB, eInt, eSeq1, eSeq2, eSeq3, eRng1, eRng2, eIsN, eNotN, gWset, mSeqI, mRng1, mRng2, startS, wipeS, List.map_cons, List.map_nil, List.length_cons, List.length_nil, List.replicate, List.cons_append, List.nil_append, List.append_nil, List.set, List.getElem?_cons_zero, List.getElem?_cons_succ, Option.some.injEq, SV.val.injEq, SV.own.injEq, exists_eq_left', exists_eq_left, true_and, and_true, Nat.reduceAdd, Nat.reduceSub, Nat.zero_add, ite_cr, D.tup.injEq, D.int.injEq, D.bl.injEq, D.lst.injEq, D.str.injEq, List.cons.injEq, reduceCtorEq, if_true, if_false, ite_true, ite_false, Bool.not_true, Bool.not_false, Bool.false_eq_true, not_true, not_false, Bool.true_and, Bool.and_true, Bool.false_and, Bool.and_false, decide_eq_true_eq, ask_int, ask_bool, ask_tuple, ask_list, ask_str, isSub_tuple, isTup_tup, int2, int3, at0, at1, at2, at3, pow2]
  refine ⟨by rw [List.length_map]; omega, ?_⟩
  refine mColl_map (f := fun p => .int (p.1 * (L / p.2))) (fun p hp yes no c h => ?_) hp
  obtain ⟨b1, b2, b3⟩ := hb p hp
  have e1 : L.fdiv p.2 = L / p.2 := Int.fdiv_eq_ediv_of_nonneg _ (by omega)
  have hB3 : Bt 6000 (L / p.2) := hL.le (Int.natAbs_ediv_le_natAbs _ _)
  have b0 : p.2 ≠ 0 := by omega
  have b4 := b3.log (k := 9000) (by decide) (by decide)
  unfold turnD
  simp only [mRet, mRetN, mRetL, mIfS, mSeq, mNx, mPass, mExpr, mAsg, gSet, mVar, mC, mOp, mUn, mTB, mNotT, mAndT, mOrT, mAnd, mOr, mNot, mIf, mCons, mNil, mTup, mLst, mCall, mCallK, mSl, mOSome, mONone, mPar, mPar3, eTupD, eConsD, eNilD, eAdd1, eAdd2, eAdd3, eSub, eMul1, eMul2, eFdiv, eMod, ePow, eNeg, eLt, eLe, eGt, eGe, eEq1, eEq2, eNe1, eNe2, eIx1, eIx2, eIx3, eIx4, eSl1, eSl2, eSl3, eLen1, eLen2, eLen3, eAbs, eIntC, eMax2, eMin2, eList1, eList2, eList3, eTuple1, eTuple2, eAll, eAny, eIsi, eGcd2, eGcd3, eLcm, eIsqrt, eDivmod, eOne, eTwo, eThree, eB, eInt, eSeq1, eSeq2, eSeq3, eRng1, eRng2, eIsN, eNotN, gWset, mSeqI, mRng1, mRng2, startS, wipeS, List.map_cons, List.map_nil, List.length_cons, List.length_nil, List.replicate, List.cons_append, List.nil_append, List.append_nil, List.set, List.getElem?_cons_zero, List.getElem?_cons_succ, Option.some.injEq, SV.val.injEq, SV.own.injEq, exists_eq_left', exists_eq_left, true_and, and_true, Nat.reduceAdd, Nat.reduceSub, Nat.zero_add, ite_cr, D.tup.injEq, D.int.injEq, D.bl.injEq, D.lst.injEq, D.str.injEq, List.cons.injEq, reduceCtorEq, if_true, if_false, ite_true, ite_false, Bool.not_true, Bool.not_false, Bool.false_eq_true, not_true, not_false, Bool.true_and, Bool.and_true, Bool.false_and, Bool.and_false, decide_eq_true_eq, ask_int, ask_bool, ask_tuple, ask_list, ask_str, isSub_tuple, isTup_tup, int2, int3, at0, at1, at2, at3, pow2, mYes, prOf, b4, e1, cm b1 hB3]
  exact ⟨b0, h⟩
theorem ok_common_bottom {c : Addr} (B : Bn mg) (DF : Df K mg "common_bottom" s_common_bottom c) (m_lcm : mg "lcm" = some (.builtin "math.lcm")) : Ok P w K mg base ⟨K, Tb⟩ "common_bottom" ["rows"] 1 sCommonBottom := by
  have sc : FnScope ["rows", "bottom", "row", "part"] ["rows"] (defScope s_common_bottom) := ⟨rfl, rfl, rfl, by decide +kernel, rfl, by decide +kernel, by decide +kernel⟩
  refine ok_D (N := ["rows", "bottom", "row", "part"]) DF ⟨fun kV doc pm an cdv ct us hl => match us, hl with | [_], _ => rfl, fun kV doc pm an cdv ct p hp us hl => by simp only [kws, List.mem_cons, List.not_mem_nil, or_false] at hp; rcases hp with rfl <;> (match us, hl with | [_], _ => rfl)⟩ sc (fun ds P n h => by obtain ⟨_, _, _, rfl, _⟩ := h; rfl) (fun A outer s H E wl f hr => (jss_cons (js_set (i := 1) sc.nd rfl (by first | exact Or.inl rfl | exact Or.inr rfl) (je_int)) (jss_cut (js_for PassesOwn.never rfl (ji_seq rfl (je_var (pv 0))) (jg (i := 2) sc.nd) (jss_one (js_for PassesOwn.never rfl (ji_seq rfl (je_var (pv 2))) (jg (i := 3) sc.nd) (jss_one (js_set (i := 1) sc.nd rfl (by first | exact Or.inl rfl | exact Or.inr rfl) (je_callF d_lcm rfl m_lcm (ja_cons (je_var (pv 1)) (ja_cons (je_ix (d_ix rfl) (je_var (pv 3)) (je_int) (fun _ _ => rfl)) ja_nil)))))))) (jss_one (js_ret (je_var (pv 1))))))) ?_
  intro ds Pd n h
  obtain ⟨rows, k, d, rfl, hd, hb, hk, hk2, hp⟩ := h
  unfold mCut mFor
  have e : ∀ W : List DJ.D → Cr, gSeq d W = W (rows.map rowD) := fun W => by rcases hd with rfl | rfl <;> rfl
  simp only [mRet, mRetN, mRetL, mIfS, mSeq, mNx, mPass, mExpr, mAsg, gSet, mVar, mC, mOp, mUn, mTB, mNotT, mAndT, mOrT, mAnd, mOr, mNot, mIf, mCons, mNil, mTup, mLst, mCall, mCallK, mSl, mOSome, mONone, mPar, mPar3, eTupD, eConsD, eNilD, eAdd1, eAdd2, eAdd3, eSub, eMul1, eMul2, eFdiv, eMod, ePow, eNeg, eLt, eLe, eGt, eGe, eEq1, eEq2, eNe1, eNe2, eIx1, eIx2, eIx3, eIx4, eSl1, eSl2, eSl3, eLen1, eLen2, eLen3, eAbs, eIntC, eMax2, eMin2, eList1, eList2, eList3, eTuple1, eTuple2, eAll, eAny, eIsi, eGcd2, eGcd3, eLcm, eIsqrt, eDivmod, eOne, eTwo, eThree, eB, eInt, eSeq1, eSeq2, eSeq3, eRng1, eRng2, eIsN, eNotN, gWset, mSeqI, mRng1, mRng2, startS, wipeS, List.map_cons, List.map_nil, List.length_cons, List.length_nil, List.replicate, List.cons_append, List.nil_append, List.append_nil, List.set, List.getElem?_cons_zero, List.getElem?_cons_succ, Option.some.injEq, SV.val.injEq, SV.own.injEq, exists_eq_left', exists_eq_left, true_and, and_true, Nat.reduceAdd, Nat.reduceSub, Nat.zero_add, ite_cr, D.tup.injEq, D.int.injEq, D.bl.injEq, D.lst.injEq, D.str.injEq, List.cons.injEq, reduceCtorEq, if_true, if_false, ite_true, ite_false, Bool.not_true, Bool.not_false, Bool.false_eq_true, not_true, not_false, Bool.true_and, Bool.and_true, Bool.false_and, Bool.and_false, decide_eq_true_eq, ask_int, ask_bool, ask_tuple, ask_list, ask_str, isSub_tuple, isTup_tup, int2, int3, at0, at1, at2, at3, pow2, e]
  refine ⟨fun l c => ∃ row part, l = [some (SV.val d), some (SV.val (.int (lcms rows.flatten 1 : Nat))), row, part] ∧ c = n,
    ⟨fun i l c => ∃ row part, l = [some (SV.val d), some (SV.val (.int (lcms (rows.take i).flatten 1 : Nat))), row, part] ∧ c = n, ⟨none, none, rfl, rfl⟩, ?_, ?_⟩, ?_⟩
  · rintro i d2 l' c' hd2 ⟨row, part, rfl, rfl⟩
    rw [List.getElem?_map] at hd2
    cases e2 : rows[i]? with
    | none => rw [e2] at hd2; cases hd2
    | some r =>
      rw [e2] at hd2
      cases hd2
      have hr : r ∈ rows := List.mem_of_getElem? e2
      simp only [mRet, mRetN, mRetL, mIfS, mSeq, mNx, mPass, mExpr, mAsg, gSet, mVar, mC, mOp, mUn, mTB, mNotT, mAndT, mOrT, mAnd, mOr, mNot, mIf, mCons, mNil, mTup, mLst, mCall, mCallK, mSl, mOSome, mONone, mPar, mPar3, eTupD, eConsD, eNilD, eAdd1, eAdd2, eAdd3, eSub, eMul1, eMul2, eFdiv, eMod, ePow, eNeg, eLt, eLe, eGt, eGe, eEq1, eEq2, eNe1, eNe2, eIx1, eIx2, eIx3, eIx4, eSl1, eSl2, eSl3, eLen1, eLen2, eLen3, eAbs, eIntC, eMax2, eMin2, eList1, eList2, eList3, eTuple1, eTuple2, eAll, eAny, eIsi, eGcd2, eGcd3, eLcm, eIsqrt, eDivmod, eOne, eTwo, eThree, eB, eInt, eSeq1, eSeq2, eSeq3, eRng1, eRng2, eIsN, eNotN, gWset, mSeqI, mRng1, mRng2, startS, wipeS, List.map_cons, List.map_nil, List.length_cons, List.length_nil, List.replicate, List.cons_append, List.nil_append, List.append_nil, List.set, List.getElem?_cons_zero, List.getElem?_cons_succ, Option.some.injEq, SV.val.injEq, SV.own.injEq, exists_eq_left', exists_eq_left, true_and, and_true, Nat.reduceAdd, Nat.reduceSub, Nat.zero_add, ite_cr, D.tup.injEq, D.int.injEq, D.bl.injEq, D.lst.injEq, D.str.injEq, List.cons.injEq, reduceCtorEq, if_true, if_false, ite_true, ite_false, Bool.not_true, Bool.not_false, Bool.false_eq_true, not_true, not_false, Bool.true_and, Bool.and_true, Bool.false_and, Bool.and_false, decide_eq_true_eq, ask_int, ask_bool, ask_tuple, ask_list, ask_str, isSub_tuple, isTup_tup, int2, int3, at0, at1, at2, at3, pow2, rowD]
      refine ⟨fun j l c => ∃ part, l = [some (SV.val d), some (SV.val (.int (lcms ((rows.take i).flatten ++ r.take j) 1 : Nat))), some (SV.val (.tup (r.map prOf))), part] ∧ c = c', ⟨part, by rw [List.take_zero, List.append_nil], rfl⟩, ?_, ?_⟩
      · rintro j d3 l2 c2 hd3 ⟨part, rfl, rfl⟩
        rw [List.getElem?_map] at hd3
        cases e3 : r[j]? with
        | none => rw [e3] at hd3; cases hd3
        | some p =>
          rw [e3] at hd3
          cases hd3
          have hm := hb r hr p (List.mem_of_getElem? e3)
          obtain ⟨t, ht⟩ := flat_pre (j := j) e2
          have hsub : ∀ q ∈ (rows.take i).flatten ++ r.take j, 0 < q.2 ∧ Bt k q.2 := fun q hq => by
            have : q ∈ rows.flatten := by rw [ht]; exact List.mem_append_left _ hq
            obtain ⟨r2, h2, h3⟩ := List.mem_flatten.mp this
            exact hb r2 h2 q h3
          have hlen : ((rows.take i).flatten ++ r.take j).length ≤ rows.flatten.length := by rw [ht, List.length_append (bs := t)]; omega
          have hB := (lcms_btk (m := 1) (k := 1) hsub (by decide) bt_one).1
          have hkl : k * ((rows.take i).flatten ++ r.take j).length ≤ k * rows.flatten.length := Nat.mul_le_mul_left _ hlen
          have hB2 : Bt 6000 (lcms ((rows.take i).flatten ++ r.take j) 1 : Nat) := hB.mono (by omega)
          simp only [mRet, mRetN, mRetL, mIfS, mSeq, mNx, mPass, mExpr, mAsg, gSet, mVar, mC, mOp, mUn, mTB, mNotT, mAndT, mOrT, mAnd, mOr, mNot, mIf, mCons, mNil, mTup, mLst, mCall, mCallK, mSl, mOSome, mONone, mPar, mPar3, eTupD, eConsD, eNilD, eAdd1, eAdd2, eAdd3, eSub, eMul1, eMul2, eFdiv, eMod, ePow, eNeg, eLt, eLe, eGt, eGe, eEq1, eEq2, eNe1, eNe2, eIx1, eIx2, eIx3, eIx4, eSl1, eSl2, eSl3, eLen1, eLen2, eLen3, eAbs, eIntC, eMax2, eMin2, eList1, eList2, eList3, eTuple1, eTuple2, eAll, eAny, eIsi, eGcd2, eGcd3, eLcm, eIsqrt, eDivmod, eOne, eTwo, eThree, eB, eInt, eSeq1, eSeq2, eSeq3, eRng1, eRng2, eIsN, eNotN, gWset, mSeqI, mRng1, mRng2, startS, wipeS, List.map_cons, List.map_nil, List.length_cons, List.length_nil, List.replicate, List.cons_append, List.nil_append, List.append_nil, List.set, List.getElem?_cons_zero, List.getElem?_cons_succ, Option.some.injEq, SV.val.injEq, SV.own.injEq, exists_eq_left', exists_eq_left, true_and, and_true, Nat.reduceAdd, Nat.reduceSub, Nat.zero_add, ite_cr, D.tup.injEq, D.int.injEq, D.bl.injEq, D.lst.injEq, D.str.injEq, List.cons.injEq, reduceCtorEq, if_true, if_false, ite_true, ite_false, Bool.not_true, Bool.not_false, Bool.false_eq_true, not_true, not_false, Bool.true_and, Bool.and_true, Bool.false_and, Bool.and_false, decide_eq_true_eq, ask_int, ask_bool, ask_tuple, ask_list, ask_str, isSub_tuple, isTup_tup, int2, int3, at0, at1, at2, at3, pow2, prOf, hB2, hm.2.mono (show k ≤ 6000 by omega)]
          refine ⟨_, ?_, rfl⟩
          rw [take_snoc e3, ← List.append_assoc, lcms_snoc]; rfl
      · rintro l2 c2 ⟨part, rfl, rfl⟩
        rw [List.length_map, List.take_length, take_snoc e2, List.flatten_append, List.flatten_singleton]
        exact ⟨_, _, rfl, rfl⟩
  · rintro l' c' ⟨row, part, rfl, rfl⟩
    refine ⟨row, part, ?_, rfl⟩
    rw [List.length_map, List.take_length]
  · rintro l' c' ⟨row, part, rfl, rfl⟩
    simp only [mRet, mRetN, mRetL, mIfS, mSeq, mNx, mPass, mExpr, mAsg, gSet, mVar, mC, mOp, mUn, mTB, mNotT, mAndT, mOrT, mAnd, mOr, mNot, mIf, mCons, mNil, mTup, mLst, mCall, mCallK, mSl, mOSome, mONone, mPar, mPar3, eTupD, eConsD, eNilD, eAdd1, eAdd2, eAdd3, eSub, eMul1, eMul2, eFdiv, eMod, ePow, eNeg, eLt, eLe, eGt, eGe, eEq1, eEq2, eNe1, eNe2, eIx1, eIx2, eIx3, eIx4, eSl1, eSl2, eSl3, eLen1, eLen2, eLen3, eAbs, eIntC, eMax2, eMin2, eList1, eList2, eList3, eTuple1, eTuple2, eAll, eAny, eIsi, eGcd2, eGcd3, eLcm, eIsqrt, eDivmod, eOne, eTwo, eThree, eB, eInt, eSeq1, eSeq2, eSeq3, eRng1, eRng2, eIsN, eNotN, gWset, mSeqI, mRng1, mRng2, startS, wipeS, List.map_cons, List.map_nil, List.length_cons, List.length_nil, List.replicate, List.cons_append, List.nil_append, List.append_nil, List.set, List.getElem?_cons_zero, List.getElem?_cons_succ, Option.some.injEq, SV.val.injEq, SV.own.injEq, exists_eq_left', exists_eq_left, true_and, and_true, Nat.reduceAdd, Nat.reduceSub, Nat.zero_add, ite_cr, D.tup.injEq, D.int.injEq, D.bl.injEq, D.lst.injEq, D.str.injEq, List.cons.injEq, reduceCtorEq, if_true, if_false, ite_true, ite_false, Bool.not_true, Bool.not_false, Bool.false_eq_true, not_true, not_false, Bool.true_and, Bool.and_true, Bool.false_and, Bool.and_false, decide_eq_true_eq, ask_int, ask_bool, ask_tuple, ask_list, ask_str, isSub_tuple, isTup_tup, int2, int3, at0, at1, at2, at3, pow2]
    exact hp
theorem ok_whole_parts {c : Addr} (B : Bn mg) (DF : Df K mg "whole_parts" s_whole_parts c) (O_whole_row : Ok P w K mg base ⟨K, Tb⟩ "whole_row" ["row", "bottom"] 2 sWholeRow) (O_common_bottom : Ok P w K mg base ⟨K, Tb⟩ "common_bottom" ["rows"] 1 sCommonBottom) : Ok P w K mg base ⟨K, Tb⟩ "whole_parts" ["fractions"] 3 sWholeQ := by
  have sc : FnScope ["fractions"] ["fractions"] (defScope s_whole_parts) := ⟨rfl, rfl, rfl, by decide +kernel, rfl, by decide +kernel, by decide +kernel⟩
  refine ok_D (N := ["fractions"]) DF ⟨fun kV doc pm an cdv ct us hl => match us, hl with | [_], _ => rfl, fun kV doc pm an cdv ct p hp us hl => by simp only [kws, List.mem_cons, List.not_mem_nil, or_false] at hp; rcases hp with rfl <;> (match us, hl with | [_], _ => rfl)⟩ sc (fun ds P n h => by obtain ⟨_, _, rfl, _⟩ := h; rfl) (fun A outer s H E wl f hr => (jss_one (js_ret (jc O_whole_row hr (ja_cons (je_var (pv 0)) (ja_cons (jc O_common_bottom hr (ja_cons (je_tup (ja_cons (je_var (pv 0)) ja_nil)) ja_nil)) ja_nil)))))) ?_
  intro ds Pd n h
  obtain ⟨qs, k, rfl, hk, hk2, hl, hs, hp⟩ := h
  have hL := (lq_pos hs).2.mono (show 1 + k * qs.length ≤ 6000 by omega)
  simp only [mRet, mRetN, mRetL, mIfS, mSeq, mNx, mPass, mExpr, mAsg, gSet, mVar, mC, mOp, mUn, mTB, mNotT, mAndT, mOrT, mAnd, mOr, mNot, mIf, mCons, mNil, mTup, mLst, mCall, mCallK, mSl, mOSome, mONone, mPar, mPar3, eTupD, eConsD, eNilD, eAdd1, eAdd2, eAdd3, eSub, eMul1, eMul2, eFdiv, eMod, ePow, eNeg, eLt, eLe, eGt, eGe, eEq1, eEq2, eNe1, eNe2, eIx1, eIx2, eIx3, eIx4, eSl1, eSl2, eSl3, eLen1, eLen2, eLen3, eAbs, eIntC, eMax2, eMin2, eList1, eList2, eList3, eTuple1, eTuple2, eAll, eAny, eIsi, eGcd2, eGcd3, eLcm, eIsqrt, eDivmod, eOne, eTwo, eThree, eB, eInt, eSeq1, eSeq2, eSeq3, eRng1, eRng2, eIsN, eNotN, gWset, mSeqI, mRng1, mRng2, startS, wipeS, List.map_cons, List.map_nil, List.length_cons, List.length_nil, List.replicate, List.cons_append, List.nil_append, List.append_nil, List.set, List.getElem?_cons_zero, List.getElem?_cons_succ, Option.some.injEq, SV.val.injEq, SV.own.injEq, exists_eq_left', exists_eq_left, true_and, and_true, Nat.reduceAdd, Nat.reduceSub, Nat.zero_add, ite_cr, D.tup.injEq, D.int.injEq, D.bl.injEq, D.lst.injEq, D.str.injEq, List.cons.injEq, reduceCtorEq, if_true, if_false, ite_true, ite_false, Bool.not_true, Bool.not_false, Bool.false_eq_true, not_true, not_false, Bool.true_and, Bool.and_true, Bool.false_and, Bool.and_false, decide_eq_true_eq, ask_int, ask_bool, ask_tuple, ask_list, ask_str, isSub_tuple, isTup_tup, int2, int3, at0, at1, at2, at3, pow2, sWholeRow, sCommonBottom]
  refine ⟨by decide, [qs.map qp], k, .inl ?_, ?_, ?_, by omega, qs.map qp, _, ⟨?_, rfl⟩, ?_, ?_, ?_, ?_⟩
  · rw [List.map_cons, List.map_nil, rowD, List.map_map]; rfl
  · intro r hr p hp
    rw [List.mem_singleton.mp hr] at hp
    obtain ⟨q, hq, rfl⟩ := List.mem_map.mp hp
    exact ⟨den_gt0 q, by unfold Bt qp; rw [Int.natAbs_natCast]; exact (hs q hq).2⟩
  · rw [List.flatten_singleton, List.length_map]; omega
  · rw [List.map_map]; rfl
  · rw [List.length_map]; omega
  · intro p hp
    obtain ⟨q, hq, rfl⟩ := List.mem_map.mp hp
    have s := (hs q hq).mono hk2
    exact ⟨s.1, den_gt0 q, by unfold Bt qp; rw [Int.natAbs_natCast]; exact s.2⟩
  · rw [List.flatten_singleton]; exact hL
  · rw [List.flatten_singleton, List.map_map]; exact hp
theorem ok_is_gap {c : Addr} (B : Bn mg) (DF : Df K mg "is_gap" s_is_gap c) (O_are_fractions : Ok P w K mg base ⟨K, Tb⟩ "are_fractions" ["value", "many"] 4 sAreFractions) (O_is_inside : Ok P w K mg base ⟨K, Tb⟩ "is_inside" ["gap"] 1 sIsInside) (O_whole_parts : Ok P w K mg base ⟨K, Tb⟩ "whole_parts" ["fractions"] 3 sWholeQ) : Ok P w K mg base ⟨K, Tb⟩ "is_gap" ["value"] 5 sIsGap := by
  have sc : FnScope ["value"] ["value"] (defScope s_is_gap) := ⟨rfl, rfl, rfl, by decide +kernel, rfl, by decide +kernel, by decide +kernel⟩
  refine ok_D (N := ["value"]) DF ⟨fun kV doc pm an cdv ct us hl => match us, hl with | [_], _ => rfl, fun kV doc pm an cdv ct p hp us hl => by simp only [kws, List.mem_cons, List.not_mem_nil, or_false] at hp; rcases hp with rfl <;> (match us, hl with | [_], _ => rfl)⟩ sc (fun ds P n h => by obtain ⟨_, rfl, _⟩ := g1_inv h; rfl) (fun A outer s H E wl f hr => (jss_one (js_ret ((je_and (jc O_are_fractions hr (ja_cons (je_var (pv 0)) (ja_cons (je_int) ja_nil))) (je_one (jc O_is_inside hr (ja_cons (jc O_whole_parts hr (ja_cons (je_var (pv 0)) ja_nil)) ja_nil)))))))) ?_
  intro ds Pd n h
  obtain ⟨d, rfl, hf, hp⟩ := g1_inv h
  simp only [mRet, mRetN, mRetL, mIfS, mSeq, mNx, mPass, mExpr, mAsg, gSet, mVar, mC, mOp, mUn, mTB, mNotT, mAndT, mOrT, mAnd, mOr, mNot, mIf, mCons, mNil, mTup, mLst, mCall, mCallK, mSl, mOSome, mONone, mPar, mPar3, eTupD, eConsD, eNilD, eAdd1, eAdd2, eAdd3, eSub, eMul1, eMul2, eFdiv, eMod, ePow, eNeg, eLt, eLe, eGt, eGe, eEq1, eEq2, eNe1, eNe2, eIx1, eIx2, eIx3, eIx4, eSl1, eSl2, eSl3, eLen1, eLen2, eLen3, eAbs, eIntC, eMax2, eMin2, eList1, eList2, eList3, eTuple1, eTuple2, eAll, eAny, eIsi, eGcd2, eGcd3, eLcm, eIsqrt, eDivmod, eOne, eTwo, eThree, eB, eInt, eSeq1, eSeq2, eSeq3, eRng1, eRng2, eIsN, eNotN, gWset, mSeqI, mRng1, mRng2, startS, wipeS, List.map_cons, List.map_nil, List.length_cons, List.length_nil, List.replicate, List.cons_append, List.nil_append, List.append_nil, List.set, List.getElem?_cons_zero, List.getElem?_cons_succ, Option.some.injEq, SV.val.injEq, SV.own.injEq, exists_eq_left', exists_eq_left, true_and, and_true, Nat.reduceAdd, Nat.reduceSub, Nat.zero_add, ite_cr, D.tup.injEq, D.int.injEq, D.bl.injEq, D.lst.injEq, D.str.injEq, List.cons.injEq, reduceCtorEq, if_true, if_false, ite_true, ite_false, Bool.not_true, Bool.not_false, Bool.false_eq_true, not_true, not_false, Bool.true_and, Bool.and_true, Bool.false_and, Bool.and_false, decide_eq_true_eq, ask_int, ask_bool, ask_tuple, ask_list, ask_str, isSub_tuple, isTup_tup, int2, int3, at0, at1, at2, at3, pow2, sAreFractions]
  refine ⟨d, 3, ⟨rfl, rfl⟩, hf, ?_⟩
  cases e : fracsB d 3 with
  | false =>
    rw [gapB_no e] at hp
    simp only [mRet, mRetN, mRetL, mIfS, mSeq, mNx, mPass, mExpr, mAsg, gSet, mVar, mC, mOp, mUn, mTB, mNotT, mAndT, mOrT, mAnd, mOr, mNot, mIf, mCons, mNil, mTup, mLst, mCall, mCallK, mSl, mOSome, mONone, mPar, mPar3, eTupD, eConsD, eNilD, eAdd1, eAdd2, eAdd3, eSub, eMul1, eMul2, eFdiv, eMod, ePow, eNeg, eLt, eLe, eGt, eGe, eEq1, eEq2, eNe1, eNe2, eIx1, eIx2, eIx3, eIx4, eSl1, eSl2, eSl3, eLen1, eLen2, eLen3, eAbs, eIntC, eMax2, eMin2, eList1, eList2, eList3, eTuple1, eTuple2, eAll, eAny, eIsi, eGcd2, eGcd3, eLcm, eIsqrt, eDivmod, eOne, eTwo, eThree, eB, eInt, eSeq1, eSeq2, eSeq3, eRng1, eRng2, eIsN, eNotN, gWset, mSeqI, mRng1, mRng2, startS, wipeS, List.map_cons, List.map_nil, List.length_cons, List.length_nil, List.replicate, List.cons_append, List.nil_append, List.append_nil, List.set, List.getElem?_cons_zero, List.getElem?_cons_succ, Option.some.injEq, SV.val.injEq, SV.own.injEq, exists_eq_left', exists_eq_left, true_and, and_true, Nat.reduceAdd, Nat.reduceSub, Nat.zero_add, ite_cr, D.tup.injEq, D.int.injEq, D.bl.injEq, D.lst.injEq, D.str.injEq, List.cons.injEq, reduceCtorEq, if_true, if_false, ite_true, ite_false, Bool.not_true, Bool.not_false, Bool.false_eq_true, not_true, not_false, Bool.true_and, Bool.and_true, Bool.false_and, Bool.and_false, decide_eq_true_eq, ask_int, ask_bool, ask_tuple, ask_list, ask_str, isSub_tuple, isTup_tup, int2, int3, at0, at1, at2, at3, pow2]
    exact hp
  | true =>
    simp only [mRet, mRetN, mRetL, mIfS, mSeq, mNx, mPass, mExpr, mAsg, gSet, mVar, mC, mOp, mUn, mTB, mNotT, mAndT, mOrT, mAnd, mOr, mNot, mIf, mCons, mNil, mTup, mLst, mCall, mCallK, mSl, mOSome, mONone, mPar, mPar3, eTupD, eConsD, eNilD, eAdd1, eAdd2, eAdd3, eSub, eMul1, eMul2, eFdiv, eMod, ePow, eNeg, eLt, eLe, eGt, eGe, eEq1, eEq2, eNe1, eNe2, eIx1, eIx2, eIx3, eIx4, eSl1, eSl2, eSl3, eLen1, eLen2, eLen3, eAbs, eIntC, eMax2, eMin2, eList1, eList2, eList3, eTuple1, eTuple2, eAll, eAny, eIsi, eGcd2, eGcd3, eLcm, eIsqrt, eDivmod, eOne, eTwo, eThree, eB, eInt, eSeq1, eSeq2, eSeq3, eRng1, eRng2, eIsN, eNotN, gWset, mSeqI, mRng1, mRng2, startS, wipeS, List.map_cons, List.map_nil, List.length_cons, List.length_nil, List.replicate, List.cons_append, List.nil_append, List.append_nil, List.set, List.getElem?_cons_zero, List.getElem?_cons_succ, Option.some.injEq, SV.val.injEq, SV.own.injEq, exists_eq_left', exists_eq_left, true_and, and_true, Nat.reduceAdd, Nat.reduceSub, Nat.zero_add, ite_cr, D.tup.injEq, D.int.injEq, D.bl.injEq, D.lst.injEq, D.str.injEq, List.cons.injEq, reduceCtorEq, if_true, if_false, ite_true, ite_false, Bool.not_true, Bool.not_false, Bool.false_eq_true, not_true, not_false, Bool.true_and, Bool.and_true, Bool.false_and, Bool.and_false, decide_eq_true_eq, ask_int, ask_bool, ask_tuple, ask_list, ask_str, isSub_tuple, isTup_tup, int2, int3, at0, at1, at2, at3, pow2]
    cases d <;> first | (cases e; done) | skip
    rename_i xs
    have e : (decide ((xs.length : Int) = 3) && xs.all fracB) = true := e
    rw [Bool.and_eq_true, decide_eq_true_eq] at e
    obtain ⟨e1, e2⟩ := e
    obtain ⟨qs, rfl⟩ := fracs_q e2
    have hx := fine_tup.mp hf
    have hl : qs.length = 3 := by rw [List.length_map] at e1; omega
    match qs, hl, hx, hp, e2 with
    | [a, b, c], _, hx, hp, e2 =>
      have sa := fine_fr (hx (fr a) (by simp))
      have sb := fine_fr (hx (fr b) (by simp))
      have sc := fine_fr (hx (fr c) (by simp))
      refine ⟨[a, b, c], 1000, rfl, by simp, by decide, by simp, mem3 sa sb sc, ?_⟩
      have hB : ∀ q ∈ [a, b, c], Bt 9000 (wq [a, b, c] q) := fun q hq => (wq_bt (mem3 sa sb sc) hq).mono (by simp)
      have dd : ∀ {q : Rat}, Sz 1000 q → 0 < ((q.den : Nat) : Int) ∧ Bt 1000 ((q.den : Nat) : Int) := fun {q} s => ⟨den_gt0 q, by unfold Bt; rw [Int.natAbs_natCast]; exact s.2⟩
      have hp : Pd (.bl (gapB (.tup [.tup [.int a.num, .int ((a.den : Nat) : Int)], .tup [.int b.num, .int ((b.den : Nat) : Int)], .tup [.int c.num, .int ((c.den : Nat) : Int)]]))) n := hp
      rw [gapB_frac (fracB_fr a) (fracB_fr b) (fracB_fr c), ← gap_is (a := a.num) (b := b.num) (c := c.num) (dd sa) (dd sb) (dd sc) _ rfl] at hp
      exact ⟨_, _, _, rfl, ⟨hB a (by simp), hB b (by simp), hB c (by simp)⟩, hp⟩
theorem ok__law_pairs_right {c : Addr} (B : Bn mg) (DF : Df K mg "_law_pairs_right" s__law_pairs_right c) (O__law_gap_between : Ok P w K mg base ⟨K, Tb⟩ "_law_gap_between" ["_law_x", "_law_u", "_law_y", "_law_v"] 4 sGapBtw) (O__law_draw : Ok P w K mg base ⟨K, Tb⟩ "_law_draw" ["_law_well_here", "_law_many"] 1 sDraw) (O__law_row : Ok P w K mg base ⟨K, Tb⟩ "_law_row" ["_law_well_here", "_law_size"] 3 sRowD4) (O__law_fraction : Ok P w K mg base ⟨K, Tb⟩ "_law_fraction" ["_law_well_here"] 2 (sDrawQ 3 (fun _ => True))) (O__law_scaled : Ok P w K mg base ⟨K, Tb⟩ "_law_scaled" ["_law_factor", "_law_row_here"] 3 sScaled) (O_gap_of : Ok P w K mg base ⟨K, Tb⟩ "gap_of" ["x", "u", "y", "v"] 4 sGapOf) (O__law_joined : Ok P w K mg base ⟨K, Tb⟩ "_law_joined" ["_law_x", "_law_factor", "_law_y"] 3 sJoined) (O__law_times : Ok P w K mg base ⟨K, Tb⟩ "_law_times" ["_law_x", "_law_y"] 2 sTimes) (O__law_plus : Ok P w K mg base ⟨K, Tb⟩ "_law_plus" ["_law_x", "_law_y"] 2 sPlus) (O_is_gap : Ok P w K mg base ⟨K, Tb⟩ "is_gap" ["value"] 5 sIsGap) : OkG P w K mg base ⟨K, Tb⟩ "_law_pairs_right" ["_law_well_here"] 6 (sYes3 100) := by
  have sc : FnScope ["_law_well_here", "_law_size", "_law_x", "_law_u", "_law_y", "_law_v", "_law_way", "_law_at", "_law_more", "_law_factor", "_law_due", "_law_wide", "_law_told", "_law_row_here"] ["_law_well_here"] (defScope s__law_pairs_right) := ⟨rfl, rfl, rfl, by decide +kernel, rfl, by decide +kernel, by decide +kernel⟩
  refine ok_G (N := ["_law_well_here", "_law_size", "_law_x", "_law_u", "_law_y", "_law_v", "_law_way", "_law_at", "_law_more", "_law_factor", "_law_due", "_law_wide", "_law_told", "_law_row_here"]) DF (fun kV doc pm an cdv ct us hl => match us, hl with | [_], _ => rfl) sc (fun ds P n h => by obtain ⟨rfl, _⟩ := h; rfl) (fun A outer s H wl f hq hr => (jss_cons (js_set (i := 1) sc.nd rfl (by first | exact Or.inl rfl | exact Or.inr rfl) (je_op (d_add rfl) (je_int) (jc O__law_draw hr (ja_cons (je_var (pv 0)) (ja_cons (je_int) ja_nil))))) (jss_cons (js_par (i := 2) (j := 3) rfl sc.nd rfl rfl (by decide) rfl rfl (jc O__law_row hr (ja_cons (je_var (pv 0)) (ja_cons (je_var (pv 1)) ja_nil))) (jc O__law_row hr (ja_cons (je_var (pv 0)) (ja_cons (je_var (pv 1)) ja_nil))) rfl) (jss_cons (js_par (i := 4) (j := 5) rfl sc.nd rfl rfl (by decide) rfl rfl (jc O__law_row hr (ja_cons (je_var (pv 0)) (ja_cons (je_var (pv 1)) ja_nil))) (jc O__law_row hr (ja_cons (je_var (pv 0)) (ja_cons (je_var (pv 1)) ja_nil))) rfl) (jss_cons (js_par (i := 6) (j := 7) rfl sc.nd rfl rfl (by decide) rfl rfl (jc O__law_draw hr (ja_cons (je_var (pv 0)) (ja_cons (je_int) ja_nil))) (jc O__law_draw hr (ja_cons (je_var (pv 0)) (ja_cons (je_var (pv 1)) ja_nil))) rfl) (jss_cutT (js_if (jt_cmp (d_eq rfl hr.cl) (je_var (pv 6)) (je_int) (nomark _)) (jss_one (js_set (i := 4) sc.nd rfl (by first | exact Or.inl rfl | exact Or.inr rfl) (je_var (pv 2)))) jss_nil) (jss_cutT (js_if (jt_cmp (d_eq rfl hr.cl) (je_var (pv 6)) (je_int) (nomark _)) (jss_one (js_set (i := 5) sc.nd rfl (by first | exact Or.inl rfl | exact Or.inr rfl) (je_var (pv 3)))) jss_nil) (jss_cutT (js_if (PW.pt (jw_and (jt_cmp (d_eq rfl hr.cl) (je_var (pv 2)) (je_var (pv 4)) (nomark _)) (jw_and1 (jt_cmp (d_eq rfl hr.cl) (je_var (pv 3)) (je_var (pv 5)) (nomark _))))) (jss_one (js_set (i := 5) sc.nd rfl (by first | exact Or.inl rfl | exact Or.inr rfl) (je_op (d_add rfl) (je_op (d_add rfl) (je_slice rfl (je_var (pv 5)) jo_none (jo_some (je_var (pv 7)))) (je_tup (ja_cons (jc O__law_plus hr (ja_cons (je_ix (d_ix rfl) (je_var (pv 5)) (je_var (pv 7)) (fun _ _ => rfl)) (ja_cons (je_tup (ja_cons (je_int) (ja_cons (je_int) ja_nil))) ja_nil))) ja_nil))) (je_slice rfl (je_var (pv 5)) (jo_some (je_op (d_add rfl) (je_var (pv 7)) (je_int))) jo_none)))) jss_nil) (jss_cons (js_asg (je_tup (ja_cons (jc O__law_row hr (ja_cons (je_var (pv 0)) (ja_cons (je_var (pv 1)) ja_nil))) (ja_cons (jc O__law_fraction hr (ja_cons (je_var (pv 0)) ja_nil)) ja_nil))) (jg_tup (n := 2) rfl rfl (jgs_cons (jg (i := 8) sc.nd) (jgs_cons (jg (i := 9) sc.nd) jgs_nil)))) (jss_cutT (js_if (jt_cmp (d_eq rfl hr.cl) (je_ix (d_ix rfl) (je_var (pv 9)) (je_int) (fun _ _ => rfl)) (je_int) (nomark _)) (jss_one (js_set (i := 9) sc.nd rfl (by first | exact Or.inl rfl | exact Or.inr rfl) (je_tup (ja_cons (je_un d_neg (je_int)) (ja_cons (je_int) ja_nil))))) jss_nil) (jss_cutT (js_set (i := 10) sc.nd rfl (by first | exact Or.inl rfl | exact Or.inr rfl) (jc O__law_gap_between hr (ja_cons (je_var (pv 2)) (ja_cons (je_var (pv 3)) (ja_cons (je_var (pv 4)) (ja_cons (je_var (pv 5)) ja_nil)))))) (jss_cutT (js_lc (i := 11) (own := [("_law_row_here", 13)]) rfl sc.nd (ji_seq rfl (je_tup (ja_cons (je_var (pv 2)) (ja_cons (je_var (pv 3)) (ja_cons (je_var (pv 4)) (ja_cons (je_var (pv 5)) ja_nil)))))) (blkOk_by (by kernel_rfl)) (by decide) (fun _ _ _ _ _ => (jg (i := 13) sc.nd)) (fun _ _ _ _ _ => jts_nil) (fun _ _ _ _ _ => (jc O__law_scaled hr (ja_cons (je_var (pv 9)) (ja_cons (je_var (pv 13)) ja_nil))))) (jss_cutT (js_set (i := 12) sc.nd rfl (by first | exact Or.inl rfl | exact Or.inr rfl) (je_lst (ja_cons (jc O_gap_of hr (ja_cons (je_var (pv 2)) (ja_cons (je_var (pv 3)) (ja_cons (je_var (pv 4)) (ja_cons (je_var (pv 5)) ja_nil))))) (ja_cons (jck O_gap_of (List.mem_of_getElem? (i := 23) rfl) hr (jk_cons (je_var (pv 3)) (jk_cons (je_var (pv 2)) (jk_cons (je_var (pv 5)) (jk_cons (je_var (pv 4)) jk_nil)))) (len4)) (ja_cons (jc O_gap_of hr (ja_cons (jc O__law_joined hr (ja_cons (je_var (pv 2)) (ja_cons (je_tup (ja_cons (je_int) (ja_cons (je_int) ja_nil))) (ja_cons (je_var (pv 8)) ja_nil)))) (ja_cons (je_var (pv 3)) (ja_cons (jc O__law_joined hr (ja_cons (je_var (pv 4)) (ja_cons (je_tup (ja_cons (je_int) (ja_cons (je_int) ja_nil))) (ja_cons (je_var (pv 8)) ja_nil)))) (ja_cons (je_var (pv 5)) ja_nil))))) (ja_cons (jc O_gap_of hr (ja_cons (je_var (pv 2)) (ja_cons (jc O__law_joined hr (ja_cons (je_var (pv 3)) (ja_cons (je_var (pv 9)) (ja_cons (je_var (pv 8)) ja_nil)))) (ja_cons (je_var (pv 4)) (ja_cons (jc O__law_joined hr (ja_cons (je_var (pv 5)) (ja_cons (je_var (pv 9)) (ja_cons (je_var (pv 8)) ja_nil)))) ja_nil))))) ja_nil)))))) (jss_cutT (js_if (PW.pt (jw_or (jt_cmp (d_ne rfl hr.cl) (je_callB (d_reprA rfl hq hr.cl) rfl B.repr Bt'.repr (ja_cons (je_var (pv 12)) ja_nil)) (je_callB (d_reprA rfl hq hr.cl) rfl B.repr Bt'.repr (ja_cons (je_op d_mul (je_lst (ja_cons (je_var (pv 10)) ja_nil)) (je_int)) ja_nil)) (nomark _)) (jw_or1 (jt_cmp (d_ne rfl hr.cl) (je_callB (d_reprA rfl hq hr.cl) rfl B.repr Bt'.repr (ja_cons (je_lst (ja_cons (jc O_is_gap hr (ja_cons (je_var (pv 10)) ja_nil)) (ja_cons (jc O_is_gap hr (ja_cons (je_ix (d_ix rfl) (je_var (pv 12)) (je_int) (fun _ _ => rfl)) ja_nil)) ja_nil))) ja_nil)) (je_str) (nomark _))))) (jss_one (js_ret (je_bl))) jss_nil) (jss_one (js_ret (je_cmp (d_eq rfl hr.cl) (je_callB (d_reprA rfl hq hr.cl) rfl B.repr Bt'.repr (ja_cons (jc O_gap_of hr (ja_cons (je_ix (d_ix rfl) (je_var (pv 11)) (je_int) (fun _ _ => rfl)) (ja_cons (je_ix (d_ix rfl) (je_var (pv 11)) (je_int) (fun _ _ => rfl)) (ja_cons (je_ix (d_ix rfl) (je_var (pv 11)) (je_int) (fun _ _ => rfl)) (ja_cons (je_ix (d_ix rfl) (je_var (pv 11)) (je_int) (fun _ _ => rfl)) ja_nil))))) ja_nil)) (je_callB (d_reprA rfl hq hr.cl) rfl B.repr Bt'.repr (ja_cons (jc O__law_scaled hr (ja_cons (jc O__law_times hr (ja_cons (je_var (pv 9)) (ja_cons (je_var (pv 9)) ja_nil))) (ja_cons (je_var (pv 10)) ja_nil))) ja_nil)) (nomark _)))))))))))))))))) ?_
  intro ds Pd n hh
  obtain ⟨rfl, hn, hp⟩ := hh
  simp only [mRet, mRetN, mRetL, mIfS, mSeq, mNx, mPass, mExpr, mAsg, gSet, mVar, mC, mOp, mUn, mTB, mNotT, mAndT, mOrT, mAnd, mOr, mNot, mIf, mCons, mNil, mTup, mLst, mCall, mCallK, mSl, mOSome, mONone, mPar, mPar3, eTupD, eConsD, eNilD, eAdd1, eAdd2, eAdd3, eSub, eMul1, eMul2, eFdiv, eMod, ePow, eNeg, eLt, eLe, eGt, eGe, eEq1, eEq2, eNe1, eNe2, eIx1, eIx2, eIx3, eIx4, eSl1, eSl2, eSl3, eLen1, eLen2, eLen3, eAbs, eIntC, eMax2, eMin2, eList1, eList2, eList3, eTuple1, eTuple2, eAll, eAny, eIsi, eGcd2, eGcd3, eLcm, eIsqrt, eDivmod, eOne, eTwo, eThree, eB, eInt, eSeq1, eSeq2, eSeq3, eRng1, eRng2, eIsN, eNotN, gWset, mSeqI, mRng1, mRng2, startS, wipeS, List.map_cons, List.map_nil, List.length_cons, List.length_nil, List.replicate, List.cons_append, List.nil_append, List.append_nil, List.set, List.getElem?_cons_zero, List.getElem?_cons_succ, Option.some.injEq, SV.val.injEq, SV.own.injEq, exists_eq_left', exists_eq_left, true_and, and_true, Nat.reduceAdd, Nat.reduceSub, Nat.zero_add, ite_cr, D.tup.injEq, D.int.injEq, D.bl.injEq, D.lst.injEq, D.str.injEq, List.cons.injEq, reduceCtorEq, if_true, if_false, ite_true, ite_false, Bool.not_true, Bool.not_false, Bool.false_eq_true, not_true, not_false, Bool.true_and, Bool.and_true, Bool.false_and, Bool.and_false, decide_eq_true_eq, ask_int, ask_bool, ask_tuple, ask_list, ask_str, isSub_tuple, isTup_tup, int2, int3, at0, at1, at2, at3, pow2, eFour, ePr, e3I, ePrF, e3K, eFr, eFrF, eTupF, eTupK, eIxF0, eIxF1, fr_inj, nd, nd0, nd1, nd2, nd3, oo, zo, lit0, lit1, div1, ip2, Bool.not_eq_true', decide_eq_false_iff_not, sRat, sPlus, sMinus, sTimes, and_assoc, exists_and_left, Nat.reduceLeDiff, Nat.reduceLT, Int.reduceLT, Int.reduceLE, Int.reduceMul, Int.reduceAdd, Int.reduceSub, Int.reduceNeg, Int.reduceToNat, ne_eq, decide_true, decide_false, eq_self, eIxD0, eIxD1, eTupD2, dsc_inj, eRAb, eRAt, eRAl, le_q0, fr_abs, sSize, sCommon, sBeyond, mZip, or_false, false_or, eRAd, eInT, eTupLd, eTupTr, tr_inj, ld_inj, rw_inj, eIxT0, eIxT1, eIxT2, eNeF, eEqF, eEqR, eRAtr, mEnum, eIxK0, eIxK1, eIxK2, sDraw, sRowD4]
  refine ⟨by omega, fun z c1 z0 z1 h1 => ⟨by omega, by omega, by omega, fun x c2 lx sx h2 => ⟨by omega, by omega, by omega, fun u c3 lu su h3 => ⟨by omega, by omega, by omega, fun y0 c4 ly sy h4 => ⟨by omega, by omega, by omega, fun v0 c5 lv sv h5 => ⟨by omega, fun w c6 w0 w1 h6 => ⟨by omega, by omega, by omega, fun a c7 a0 a1 h7 => ?_⟩⟩⟩⟩⟩⟩⟩
  obtain ⟨j, rfl⟩ := Int.eq_ofNat_of_zero_le a0
  have up : ∀ {p : List Rat}, Rz 22 10 p → Rz 25 12 p := fun h => h.mono (by decide) (by decide)
  refine mCut_J (fun l c => ∃ y : List Rat, l = [some (SV.val .well), some (SV.val (.int (1 + z))), some (SV.val (rwD x)), some (SV.val (rwD u)), some (SV.val (rwD y)), some (SV.val (rwD v0)), some (SV.val (.int w)), some (SV.val (.int (j : Nat))), none, none, none, none, none, none] ∧ y.length = y0.length ∧ Rz 22 10 y ∧ c = c7) ?_ ?_
  · intro J hJ
    simp only [mRet, mRetN, mRetL, mIfS, mSeq, mNx, mPass, mExpr, mAsg, gSet, mVar, mC, mOp, mUn, mTB, mNotT, mAndT, mOrT, mAnd, mOr, mNot, mIf, mCons, mNil, mTup, mLst, mCall, mCallK, mSl, mOSome, mONone, mPar, mPar3, eTupD, eConsD, eNilD, eAdd1, eAdd2, eAdd3, eSub, eMul1, eMul2, eFdiv, eMod, ePow, eNeg, eLt, eLe, eGt, eGe, eEq1, eEq2, eNe1, eNe2, eIx1, eIx2, eIx3, eIx4, eSl1, eSl2, eSl3, eLen1, eLen2, eLen3, eAbs, eIntC, eMax2, eMin2, eList1, eList2, eList3, eTuple1, eTuple2, eAll, eAny, eIsi, eGcd2, eGcd3, eLcm, eIsqrt, eDivmod, eOne, eTwo, eThree, eB, eInt, eSeq1, eSeq2, eSeq3, eRng1, eRng2, eIsN, eNotN, gWset, mSeqI, mRng1, mRng2, startS, wipeS, List.map_cons, List.map_nil, List.length_cons, List.length_nil, List.replicate, List.cons_append, List.nil_append, List.append_nil, List.set, List.getElem?_cons_zero, List.getElem?_cons_succ, Option.some.injEq, SV.val.injEq, SV.own.injEq, exists_eq_left', exists_eq_left, true_and, and_true, Nat.reduceAdd, Nat.reduceSub, Nat.zero_add, ite_cr, D.tup.injEq, D.int.injEq, D.bl.injEq, D.lst.injEq, D.str.injEq, List.cons.injEq, reduceCtorEq, if_true, if_false, ite_true, ite_false, Bool.not_true, Bool.not_false, Bool.false_eq_true, not_true, not_false, Bool.true_and, Bool.and_true, Bool.false_and, Bool.and_false, decide_eq_true_eq, ask_int, ask_bool, ask_tuple, ask_list, ask_str, isSub_tuple, isTup_tup, int2, int3, at0, at1, at2, at3, pow2, eFour, ePr, e3I, ePrF, e3K, eFr, eFrF, eTupF, eTupK, eIxF0, eIxF1, fr_inj, nd, nd0, nd1, nd2, nd3, oo, zo, lit0, lit1, div1, ip2, Bool.not_eq_true', decide_eq_false_iff_not, sRat, sPlus, sMinus, sTimes, and_assoc, exists_and_left, Nat.reduceLeDiff, Nat.reduceLT, Int.reduceLT, Int.reduceLE, Int.reduceMul, Int.reduceAdd, Int.reduceSub, Int.reduceNeg, Int.reduceToNat, ne_eq, decide_true, decide_false, eq_self, eIxD0, eIxD1, eTupD2, dsc_inj, eRAb, eRAt, eRAl, le_q0, fr_abs, sSize, sCommon, sBeyond, mZip, or_false, false_or, eRAd, eInT, eTupLd, eTupTr, tr_inj, ld_inj, rw_inj, eIxT0, eIxT1, eIxT2, eNeF, eEqF, eEqR, eRAtr, mEnum, eIxK0, eIxK1, eIxK2]
    by_cases hw : w = 0
    · rw [if_pos hw]; exact hJ _ _ ⟨x, rfl, by omega, sx, rfl⟩
    · rw [if_neg hw]; exact hJ _ _ ⟨y0, rfl, rfl, sy, rfl⟩
  rintro l' c' ⟨y, rfl, ly2, sy2, rfl⟩
  refine mCut_J (fun l c => ∃ v : List Rat, l = [some (SV.val .well), some (SV.val (.int (1 + z))), some (SV.val (rwD x)), some (SV.val (rwD u)), some (SV.val (rwD y)), some (SV.val (rwD v)), some (SV.val (.int w)), some (SV.val (.int (j : Nat))), none, none, none, none, none, none] ∧ v.length = v0.length ∧ Rz 22 10 v ∧ c = c') ?_ ?_
  · intro J hJ
    simp only [mRet, mRetN, mRetL, mIfS, mSeq, mNx, mPass, mExpr, mAsg, gSet, mVar, mC, mOp, mUn, mTB, mNotT, mAndT, mOrT, mAnd, mOr, mNot, mIf, mCons, mNil, mTup, mLst, mCall, mCallK, mSl, mOSome, mONone, mPar, mPar3, eTupD, eConsD, eNilD, eAdd1, eAdd2, eAdd3, eSub, eMul1, eMul2, eFdiv, eMod, ePow, eNeg, eLt, eLe, eGt, eGe, eEq1, eEq2, eNe1, eNe2, eIx1, eIx2, eIx3, eIx4, eSl1, eSl2, eSl3, eLen1, eLen2, eLen3, eAbs, eIntC, eMax2, eMin2, eList1, eList2, eList3, eTuple1, eTuple2, eAll, eAny, eIsi, eGcd2, eGcd3, eLcm, eIsqrt, eDivmod, eOne, eTwo, eThree, eB, eInt, eSeq1, eSeq2, eSeq3, eRng1, eRng2, eIsN, eNotN, gWset, mSeqI, mRng1, mRng2, startS, wipeS, List.map_cons, List.map_nil, List.length_cons, List.length_nil, List.replicate, List.cons_append, List.nil_append, List.append_nil, List.set, List.getElem?_cons_zero, List.getElem?_cons_succ, Option.some.injEq, SV.val.injEq, SV.own.injEq, exists_eq_left', exists_eq_left, true_and, and_true, Nat.reduceAdd, Nat.reduceSub, Nat.zero_add, ite_cr, D.tup.injEq, D.int.injEq, D.bl.injEq, D.lst.injEq, D.str.injEq, List.cons.injEq, reduceCtorEq, if_true, if_false, ite_true, ite_false, Bool.not_true, Bool.not_false, Bool.false_eq_true, not_true, not_false, Bool.true_and, Bool.and_true, Bool.false_and, Bool.and_false, decide_eq_true_eq, ask_int, ask_bool, ask_tuple, ask_list, ask_str, isSub_tuple, isTup_tup, int2, int3, at0, at1, at2, at3, pow2, eFour, ePr, e3I, ePrF, e3K, eFr, eFrF, eTupF, eTupK, eIxF0, eIxF1, fr_inj, nd, nd0, nd1, nd2, nd3, oo, zo, lit0, lit1, div1, ip2, Bool.not_eq_true', decide_eq_false_iff_not, sRat, sPlus, sMinus, sTimes, and_assoc, exists_and_left, Nat.reduceLeDiff, Nat.reduceLT, Int.reduceLT, Int.reduceLE, Int.reduceMul, Int.reduceAdd, Int.reduceSub, Int.reduceNeg, Int.reduceToNat, ne_eq, decide_true, decide_false, eq_self, eIxD0, eIxD1, eTupD2, dsc_inj, eRAb, eRAt, eRAl, le_q0, fr_abs, sSize, sCommon, sBeyond, mZip, or_false, false_or, eRAd, eInT, eTupLd, eTupTr, tr_inj, ld_inj, rw_inj, eIxT0, eIxT1, eIxT2, eNeF, eEqF, eEqR, eRAtr, mEnum, eIxK0, eIxK1, eIxK2]
    by_cases hw : w = 1
    · rw [if_pos hw]; exact hJ _ _ ⟨u, rfl, by omega, su, rfl⟩
    · rw [if_neg hw]; exact hJ _ _ ⟨v0, rfl, rfl, sv, rfl⟩
  rintro l' c' ⟨v1, rfl, lv2, sv2, rfl⟩
  refine mCut_J (fun l c => ∃ v : List Rat, l = [some (SV.val .well), some (SV.val (.int (1 + z))), some (SV.val (rwD x)), some (SV.val (rwD u)), some (SV.val (rwD y)), some (SV.val (rwD v)), some (SV.val (.int w)), some (SV.val (.int (j : Nat))), none, none, none, none, none, none] ∧ v.length = v0.length ∧ Rz 25 12 v ∧ ¬ (x = y ∧ u = v) ∧ c = c') ?_ ?_
  · intro J hJ
    have hj : j < v1.length := by omega
    have ej : (j : Int) + 1 = ((j + 1 : Nat) : Int) := by omega
    have gj := sv2 _ (List.getElem_mem hj)
    haveI : SzP v1[j] 22 10 := ⟨gj⟩
    simp only [mRet, mRetN, mRetL, mIfS, mSeq, mNx, mPass, mExpr, mAsg, gSet, mVar, mC, mOp, mUn, mTB, mNotT, mAndT, mOrT, mAnd, mOr, mNot, mIf, mCons, mNil, mTup, mLst, mCall, mCallK, mSl, mOSome, mONone, mPar, mPar3, eTupD, eConsD, eNilD, eAdd1, eAdd2, eAdd3, eSub, eMul1, eMul2, eFdiv, eMod, ePow, eNeg, eLt, eLe, eGt, eGe, eEq1, eEq2, eNe1, eNe2, eIx1, eIx2, eIx3, eIx4, eSl1, eSl2, eSl3, eLen1, eLen2, eLen3, eAbs, eIntC, eMax2, eMin2, eList1, eList2, eList3, eTuple1, eTuple2, eAll, eAny, eIsi, eGcd2, eGcd3, eLcm, eIsqrt, eDivmod, eOne, eTwo, eThree, eB, eInt, eSeq1, eSeq2, eSeq3, eRng1, eRng2, eIsN, eNotN, gWset, mSeqI, mRng1, mRng2, startS, wipeS, List.map_cons, List.map_nil, List.length_cons, List.length_nil, List.replicate, List.cons_append, List.nil_append, List.append_nil, List.set, List.getElem?_cons_zero, List.getElem?_cons_succ, Option.some.injEq, SV.val.injEq, SV.own.injEq, exists_eq_left', exists_eq_left, true_and, and_true, Nat.reduceAdd, Nat.reduceSub, Nat.zero_add, ite_cr, D.tup.injEq, D.int.injEq, D.bl.injEq, D.lst.injEq, D.str.injEq, List.cons.injEq, reduceCtorEq, if_true, if_false, ite_true, ite_false, Bool.not_true, Bool.not_false, Bool.false_eq_true, not_true, not_false, Bool.true_and, Bool.and_true, Bool.false_and, Bool.and_false, decide_eq_true_eq, ask_int, ask_bool, ask_tuple, ask_list, ask_str, isSub_tuple, isTup_tup, int2, int3, at0, at1, at2, at3, pow2, eFour, ePr, e3I, ePrF, e3K, eFr, eFrF, eTupF, eTupK, eIxF0, eIxF1, fr_inj, nd, nd0, nd1, nd2, nd3, oo, zo, lit0, lit1, div1, ip2, Bool.not_eq_true', decide_eq_false_iff_not, sRat, sPlus, sMinus, sTimes, and_assoc, exists_and_left, Nat.reduceLeDiff, Nat.reduceLT, Int.reduceLT, Int.reduceLE, Int.reduceMul, Int.reduceAdd, Int.reduceSub, Int.reduceNeg, Int.reduceToNat, ne_eq, decide_true, decide_false, eq_self, eIxD0, eIxD1, eTupD2, dsc_inj, eRAb, eRAt, eRAl, le_q0, fr_abs, sSize, sCommon, sBeyond, mZip, or_false, false_or, eRAd, eInT, eTupLd, eTupTr, tr_inj, ld_inj, rw_inj, eIxT0, eIxT1, eIxT2, eNeF, eEqF, eEqR, eRAtr, mEnum, eIxK0, eIxK1, eIxK2, eSlL (show j ≤ v1.length by omega), ej, eSlRn (show j + 1 ≤ v1.length by omega), eIxRn (List.getElem?_eq_getElem hj), fr_13, rw1_eta, eAddRR, set_split hj]
    by_cases hxy : x = y
    · by_cases huv : u = v1
      · rw [if_pos hxy, if_pos huv]
        refine ⟨szc (by decide), szc (by decide), by rw [List.length_take]; (try simp); omega, by rw [List.length_append, List.length_take, List.length_drop]; (try simp); omega, ?_⟩
        refine hJ _ _ ⟨_, rfl, by rw [List.length_set]; exact lv2, ?_, ?_, rfl⟩
        · intro r hr
          rcases List.mem_or_eq_of_mem_set hr with hr | rfl
          · exact up sv2 r hr
          · exact s2c (by decide)
        · rintro ⟨_, e⟩
          rw [huv] at e
          have k1 : v1[j]? = some (v1[j] + 1 / 3) := by
            conv => lhs; rw [e]
            rw [List.getElem?_set_self hj]
          rw [List.getElem?_eq_getElem hj] at k1
          have k2 := Option.some.inj k1
          have : (1 / 3 : Rat) = 0 := by grind
          exact absurd this (by decide +kernel)
      · rw [if_pos hxy, if_neg huv]
        exact hJ _ _ ⟨v1, rfl, lv2, up sv2, fun h => huv h.2, rfl⟩
    · rw [if_neg hxy]
      exact hJ _ _ ⟨v1, rfl, lv2, up sv2, fun h => hxy h.1, rfl⟩
  rintro l' c' ⟨v, rfl, lv3, sv3, hne, rfl⟩
  simp only [mRet, mRetN, mRetL, mIfS, mSeq, mNx, mPass, mExpr, mAsg, gSet, mVar, mC, mOp, mUn, mTB, mNotT, mAndT, mOrT, mAnd, mOr, mNot, mIf, mCons, mNil, mTup, mLst, mCall, mCallK, mSl, mOSome, mONone, mPar, mPar3, eTupD, eConsD, eNilD, eAdd1, eAdd2, eAdd3, eSub, eMul1, eMul2, eFdiv, eMod, ePow, eNeg, eLt, eLe, eGt, eGe, eEq1, eEq2, eNe1, eNe2, eIx1, eIx2, eIx3, eIx4, eSl1, eSl2, eSl3, eLen1, eLen2, eLen3, eAbs, eIntC, eMax2, eMin2, eList1, eList2, eList3, eTuple1, eTuple2, eAll, eAny, eIsi, eGcd2, eGcd3, eLcm, eIsqrt, eDivmod, eOne, eTwo, eThree, eB, eInt, eSeq1, eSeq2, eSeq3, eRng1, eRng2, eIsN, eNotN, gWset, mSeqI, mRng1, mRng2, startS, wipeS, List.map_cons, List.map_nil, List.length_cons, List.length_nil, List.replicate, List.cons_append, List.nil_append, List.append_nil, List.set, List.getElem?_cons_zero, List.getElem?_cons_succ, Option.some.injEq, SV.val.injEq, SV.own.injEq, exists_eq_left', exists_eq_left, true_and, and_true, Nat.reduceAdd, Nat.reduceSub, Nat.zero_add, ite_cr, D.tup.injEq, D.int.injEq, D.bl.injEq, D.lst.injEq, D.str.injEq, List.cons.injEq, reduceCtorEq, if_true, if_false, ite_true, ite_false, Bool.not_true, Bool.not_false, Bool.false_eq_true, not_true, not_false, Bool.true_and, Bool.and_true, Bool.false_and, Bool.and_false, decide_eq_true_eq, ask_int, ask_bool, ask_tuple, ask_list, ask_str, isSub_tuple, isTup_tup, int2, int3, at0, at1, at2, at3, pow2, eFour, ePr, e3I, ePrF, e3K, eFr, eFrF, eTupF, eTupK, eIxF0, eIxF1, fr_inj, nd, nd0, nd1, nd2, nd3, oo, zo, lit0, lit1, div1, ip2, Bool.not_eq_true', decide_eq_false_iff_not, sRat, sPlus, sMinus, sTimes, and_assoc, exists_and_left, Nat.reduceLeDiff, Nat.reduceLT, Int.reduceLT, Int.reduceLE, Int.reduceMul, Int.reduceAdd, Int.reduceSub, Int.reduceNeg, Int.reduceToNat, ne_eq, decide_true, decide_false, eq_self, eIxD0, eIxD1, eTupD2, dsc_inj, eRAb, eRAt, eRAl, le_q0, fr_abs, sSize, sCommon, sBeyond, mZip, or_false, false_or, eRAd, eInT, eTupLd, eTupTr, tr_inj, ld_inj, rw_inj, eIxT0, eIxT1, eIxT2, eNeF, eEqF, eEqR, eRAtr, mEnum, eIxK0, eIxK1, eIxK2, sRowD4, sDrawQ]
  refine ⟨by omega, by omega, by omega, fun m c8 lm sm h8 => ⟨by omega, fun f0 c9 sf0 _ h9 => ?_⟩⟩
  refine mCut_J (fun l c => ∃ f : Rat, l = [some (SV.val .well), some (SV.val (.int (1 + z))), some (SV.val (rwD x)), some (SV.val (rwD u)), some (SV.val (rwD y)), some (SV.val (rwD v)), some (SV.val (.int w)), some (SV.val (.int (j : Nat))), some (SV.val (rwD m)), some (SV.val (fr f)), none, none, none, none] ∧ Sz2 22 10 f ∧ f ≠ 0 ∧ c = c9) ?_ ?_
  · intro J hJ
    simp only [mRet, mRetN, mRetL, mIfS, mSeq, mNx, mPass, mExpr, mAsg, gSet, mVar, mC, mOp, mUn, mTB, mNotT, mAndT, mOrT, mAnd, mOr, mNot, mIf, mCons, mNil, mTup, mLst, mCall, mCallK, mSl, mOSome, mONone, mPar, mPar3, eTupD, eConsD, eNilD, eAdd1, eAdd2, eAdd3, eSub, eMul1, eMul2, eFdiv, eMod, ePow, eNeg, eLt, eLe, eGt, eGe, eEq1, eEq2, eNe1, eNe2, eIx1, eIx2, eIx3, eIx4, eSl1, eSl2, eSl3, eLen1, eLen2, eLen3, eAbs, eIntC, eMax2, eMin2, eList1, eList2, eList3, eTuple1, eTuple2, eAll, eAny, eIsi, eGcd2, eGcd3, eLcm, eIsqrt, eDivmod, eOne, eTwo, eThree, eB, eInt, eSeq1, eSeq2, eSeq3, eRng1, eRng2, eIsN, eNotN, gWset, mSeqI, mRng1, mRng2, startS, wipeS, List.map_cons, List.map_nil, List.length_cons, List.length_nil, List.replicate, List.cons_append, List.nil_append, List.append_nil, List.set, List.getElem?_cons_zero, List.getElem?_cons_succ, Option.some.injEq, SV.val.injEq, SV.own.injEq, exists_eq_left', exists_eq_left, true_and, and_true, Nat.reduceAdd, Nat.reduceSub, Nat.zero_add, ite_cr, D.tup.injEq, D.int.injEq, D.bl.injEq, D.lst.injEq, D.str.injEq, List.cons.injEq, reduceCtorEq, if_true, if_false, ite_true, ite_false, Bool.not_true, Bool.not_false, Bool.false_eq_true, not_true, not_false, Bool.true_and, Bool.and_true, Bool.false_and, Bool.and_false, decide_eq_true_eq, ask_int, ask_bool, ask_tuple, ask_list, ask_str, isSub_tuple, isTup_tup, int2, int3, at0, at1, at2, at3, pow2, eFour, ePr, e3I, ePrF, e3K, eFr, eFrF, eTupF, eTupK, eIxF0, eIxF1, fr_inj, nd, nd0, nd1, nd2, nd3, oo, zo, lit0, lit1, div1, ip2, Bool.not_eq_true', decide_eq_false_iff_not, sRat, sPlus, sMinus, sTimes, and_assoc, exists_and_left, Nat.reduceLeDiff, Nat.reduceLT, Int.reduceLT, Int.reduceLE, Int.reduceMul, Int.reduceAdd, Int.reduceSub, Int.reduceNeg, Int.reduceToNat, ne_eq, decide_true, decide_false, eq_self, eIxD0, eIxD1, eTupD2, dsc_inj, eRAb, eRAt, eRAl, le_q0, fr_abs, sSize, sCommon, sBeyond, mZip, or_false, false_or, eRAd, eInT, eTupLd, eTupTr, tr_inj, ld_inj, rw_inj, eIxT0, eIxT1, eIxT2, eNeF, eEqF, eEqR, eRAtr, mEnum, eIxK0, eIxK1, eIxK2, fr_m52]
    by_cases hz : f0.num = 0
    · rw [if_pos hz]
      exact hJ _ _ ⟨_, rfl, ⟨by decide +kernel, by decide +kernel⟩, by decide +kernel, rfl⟩
    · rw [if_neg hz]
      exact hJ _ _ ⟨_, rfl, sf0, fun e0 => hz (by rw [e0]; rfl), rfl⟩
  rintro l' c' ⟨f, rfl, sf, fz, rfl⟩
  haveI : SzP f 22 10 := ⟨sf⟩
  have l0 : 0 < x.length := by omega
  have l4 : x.length ≤ 4 := by omega
  have l1 : u.length = x.length := by omega
  have l2 : y.length = x.length := by omega
  have l3 : v.length = x.length := by omega
  have lm2 : m.length = x.length := by omega
  have x25 := up sx
  have u25 := up su
  have y25 := up sy2
  have m25 := up sm
  have ft : f * f ≠ 0 := fun h => by rcases Rat.mul_eq_zero.mp h with h | h <;> exact fz h
  have gB : ∀ {P : DJ.D → Cr} {n : Nat}, P (gp x u y v) n → sGapBtw [rwD x, rwD u, rwD y, rwD v] P n := fun h => g4s_do (a := 25) (b := 12) (by decide) (by decide) ⟨l0, l4⟩ l1 l2 l3 x25 u25 y25 sv3 trivial h
  have gO : ∀ {P : DJ.D → Cr} {n : Nat}, P (gp x u y v) n → sGapOf [rwD x, rwD u, rwD y, rwD v] P n := fun h => g4s_do (a := 25) (b := 12) (by decide) (by decide) ⟨l0, l4⟩ l1 l2 l3 x25 u25 y25 sv3 hne h
  have gE : ∀ {P : DJ.D → Cr} {n : Nat}, P (gp x u y v) n → sGapOf [rwD y, rwD v, rwD x, rwD u] P n := fun h => g4s_do (a := 25) (b := 12) (by decide) (by decide) ⟨by omega, by omega⟩ (by omega) (by omega) (by omega) y25 sv3 x25 u25 (fun hh => hne ⟨hh.1.symm, hh.2.symm⟩) (by rw [gp_ex]; exact h)
  have w7 : ∀ {p : List Rat}, Rz 25 12 p → Rz 70 40 p := fun h => h.mono (by decide) (by decide)
  have cm1 : ∀ {p : List Rat}, Rz 25 12 p → Rz 70 40 (comb 1 1 p m) := fun h => (comb_sz h m25).mono (by decide) (by decide)
  have cmf : ∀ {p : List Rat}, Rz 25 12 p → Rz 70 40 (comb 1 f p m) := fun h => (comb_sz h m25).mono (by decide) (by decide)
  have gM1 : ∀ {P : DJ.D → Cr} {n : Nat}, P (gp x u y v) n → sGapOf [rwD (comb 1 1 x m), rwD u, rwD (comb 1 1 y m), rwD v] P n := fun h => g4s_do (a := 70) (b := 40) (by decide) (by decide) ⟨by rw [comb_len (by omega)]; omega, by rw [comb_len (by omega)]; omega⟩ (by rw [comb_len (by omega)]; omega) (by rw [comb_len (by omega), comb_len (by omega)]; omega) (by rw [comb_len (by omega)]; omega) (cm1 x25) (w7 u25) (cm1 y25) (w7 sv3) (fun hh => hne ⟨comb_inj (by omega) (by omega) hh.1, hh.2⟩) (by rw [gp_move (by omega) (by omega)]; exact h)
  have gM2 : ∀ {P : DJ.D → Cr} {n : Nat}, P (gp x u y v) n → sGapOf [rwD x, rwD (comb 1 f u m), rwD y, rwD (comb 1 f v m)] P n := fun h => g4s_do (a := 70) (b := 40) (by decide) (by decide) ⟨l0, l4⟩ (by rw [comb_len (by omega)]; omega) l2 (by rw [comb_len (by omega)]; omega) (w7 x25) (cmf u25) (w7 y25) (cmf sv3) (fun hh => hne ⟨hh.1, comb_inj (by omega) (by omega) hh.2⟩) (by rw [gp_move2 (by omega) (by omega)]; exact h)
  have wS : ∀ {p : List Rat}, Rz 25 12 p → Rz 47 22 (scl f p) := fun h => sc_sz h
  have gS : ∀ {P : DJ.D → Cr} {n : Nat}, P (gp (scl f x) (scl f u) (scl f y) (scl f v)) n → sGapOf [rwD (scl f x), rwD (scl f u), rwD (scl f y), rwD (scl f v)] P n := fun h => g4s_do (a := 47) (b := 22) (by decide) (by decide) ⟨by rw [sc_len]; omega, by rw [sc_len]; omega⟩ (by rw [sc_len, sc_len]; omega) (by rw [sc_len, sc_len]; omega) (by rw [sc_len, sc_len]; omega) (wS x25) (wS u25) (wS y25) (wS sv3) (fun hh => hne ⟨sc_inj fz hh.1, sc_inj fz hh.2⟩) h
  have jB : ∀ {q : Rat} {p : List Rat} {P : DJ.D → Cr} {n : Nat}, Sz 900 q → p.length = m.length → Rz 25 12 p → P (rwD (comb 1 q p m)) n → sJoined [rwD p, fr q, rwD m] P n := fun {q p P n} hq hl hz hP => g3_mk ⟨p, q, m, ⟨rfl, .inl rfl, rfl⟩, ⟨by omega, hl⟩, fun r hr => (hz r hr).sz (by decide), fun r hr => (m25 r hr).sz (by decide), hq, hP⟩
  have sB : ∀ {p : List Rat} {P : DJ.D → Cr} {n : Nat}, p.length ≤ 20 → Rz 25 12 p → P (rwD (scl f p)) n → sScaled [fr f, rwD p] P n := fun {p P n} hl hz hP => g2_mk ⟨f, p, ⟨rfl, rfl⟩, ⟨hl, szc (by decide), fun r hr => (hz r hr).sz (by decide)⟩, hP⟩
  obtain ⟨⟨a0', c0'⟩, ac, bb⟩ := gp_ok l1 l2 l3 hne
  obtain ⟨sa, sb, sc'⟩ := gp_sz (n := 300) x25 u25 y25 sv3 l0 l1 l2 l3 l4 (by decide) (by decide)
  have eG : gp x u y v = tr (dotr (comb 1 (-1) x y) (comb 1 (-1) x y)) (dotr (comb 1 (-1) x y) (comb 1 (-1) u v)) (dotr (comb 1 (-1) u v) (comb 1 (-1) u v)) := rfl
  have eS := gp_sc (f := f) (x := x) (u := u) (y := y) (v := v)
  rw [eG] at gB gO gE gM1 gM2
  rw [eS] at gS
  generalize dotr (comb 1 (-1) x y) (comb 1 (-1) x y) = dx at *
  generalize dotr (comb 1 (-1) x y) (comb 1 (-1) u v) = dm at *
  generalize dotr (comb 1 (-1) u v) (comb 1 (-1) u v) = du at *
  clear eG eS
  apply mCut_at
  · simp only [mRet, mRetN, mRetL, mIfS, mSeq, mNx, mPass, mExpr, mAsg, gSet, mVar, mC, mOp, mUn, mTB, mNotT, mAndT, mOrT, mAnd, mOr, mNot, mIf, mCons, mNil, mTup, mLst, mCall, mCallK, mSl, mOSome, mONone, mPar, mPar3, eTupD, eConsD, eNilD, eAdd1, eAdd2, eAdd3, eSub, eMul1, eMul2, eFdiv, eMod, ePow, eNeg, eLt, eLe, eGt, eGe, eEq1, eEq2, eNe1, eNe2, eIx1, eIx2, eIx3, eIx4, eSl1, eSl2, eSl3, eLen1, eLen2, eLen3, eAbs, eIntC, eMax2, eMin2, eList1, eList2, eList3, eTuple1, eTuple2, eAll, eAny, eIsi, eGcd2, eGcd3, eLcm, eIsqrt, eDivmod, eOne, eTwo, eThree, eB, eInt, eSeq1, eSeq2, eSeq3, eRng1, eRng2, eIsN, eNotN, gWset, mSeqI, mRng1, mRng2, startS, wipeS, List.map_cons, List.map_nil, List.length_cons, List.length_nil, List.replicate, List.cons_append, List.nil_append, List.append_nil, List.set, List.getElem?_cons_zero, List.getElem?_cons_succ, Option.some.injEq, SV.val.injEq, SV.own.injEq, exists_eq_left', exists_eq_left, true_and, and_true, Nat.reduceAdd, Nat.reduceSub, Nat.zero_add, ite_cr, D.tup.injEq, D.int.injEq, D.bl.injEq, D.lst.injEq, D.str.injEq, List.cons.injEq, reduceCtorEq, if_true, if_false, ite_true, ite_false, Bool.not_true, Bool.not_false, Bool.false_eq_true, not_true, not_false, Bool.true_and, Bool.and_true, Bool.false_and, Bool.and_false, decide_eq_true_eq, ask_int, ask_bool, ask_tuple, ask_list, ask_str, isSub_tuple, isTup_tup, int2, int3, at0, at1, at2, at3, pow2, eFour, ePr, e3I, ePrF, e3K, eFr, eFrF, eTupF, eTupK, eIxF0, eIxF1, fr_inj, nd, nd0, nd1, nd2, nd3, oo, zo, lit0, lit1, div1, ip2, Bool.not_eq_true', decide_eq_false_iff_not, sRat, sPlus, sMinus, sTimes, and_assoc, exists_and_left, Nat.reduceLeDiff, Nat.reduceLT, Int.reduceLT, Int.reduceLE, Int.reduceMul, Int.reduceAdd, Int.reduceSub, Int.reduceNeg, Int.reduceToNat, ne_eq, decide_true, decide_false, eq_self, eIxD0, eIxD1, eTupD2, dsc_inj, eRAb, eRAt, eRAl, le_q0, fr_abs, sSize, sCommon, sBeyond, mZip, or_false, false_or, eRAd, eInT, eTupLd, eTupTr, tr_inj, ld_inj, rw_inj, eIxT0, eIxT1, eIxT2, eNeF, eEqF, eEqR, eRAtr, mEnum, eIxK0, eIxK1, eIxK2]
    refine gB ?_
    exact ⟨rfl, rfl⟩
  apply mCut_at
  · unfold mLc
    simp only [mRet, mRetN, mRetL, mIfS, mSeq, mNx, mPass, mExpr, mAsg, gSet, mVar, mC, mOp, mUn, mTB, mNotT, mAndT, mOrT, mAnd, mOr, mNot, mIf, mCons, mNil, mTup, mLst, mCall, mCallK, mSl, mOSome, mONone, mPar, mPar3, eTupD, eConsD, eNilD, eAdd1, eAdd2, eAdd3, eSub, eMul1, eMul2, eFdiv, eMod, ePow, eNeg, eLt, eLe, eGt, eGe, eEq1, eEq2, eNe1, eNe2, eIx1, eIx2, eIx3, eIx4, eSl1, eSl2, eSl3, eLen1, eLen2, eLen3, eAbs, eIntC, eMax2, eMin2, eList1, eList2, eList3, eTuple1, eTuple2, eAll, eAny, eIsi, eGcd2, eGcd3, eLcm, eIsqrt, eDivmod, eOne, eTwo, eThree, eB, eInt, eSeq1, eSeq2, eSeq3, eRng1, eRng2, eIsN, eNotN, gWset, mSeqI, mRng1, mRng2, startS, wipeS, List.map_cons, List.map_nil, List.length_cons, List.length_nil, List.replicate, List.cons_append, List.nil_append, List.append_nil, List.set, List.getElem?_cons_zero, List.getElem?_cons_succ, Option.some.injEq, SV.val.injEq, SV.own.injEq, exists_eq_left', exists_eq_left, true_and, and_true, Nat.reduceAdd, Nat.reduceSub, Nat.zero_add, ite_cr, D.tup.injEq, D.int.injEq, D.bl.injEq, D.lst.injEq, D.str.injEq, List.cons.injEq, reduceCtorEq, if_true, if_false, ite_true, ite_false, Bool.not_true, Bool.not_false, Bool.false_eq_true, not_true, not_false, Bool.true_and, Bool.and_true, Bool.false_and, Bool.and_false, decide_eq_true_eq, ask_int, ask_bool, ask_tuple, ask_list, ask_str, isSub_tuple, isTup_tup, int2, int3, at0, at1, at2, at3, pow2, eFour, ePr, e3I, ePrF, e3K, eFr, eFrF, eTupF, eTupK, eIxF0, eIxF1, fr_inj, nd, nd0, nd1, nd2, nd3, oo, zo, lit0, lit1, div1, ip2, Bool.not_eq_true', decide_eq_false_iff_not, sRat, sPlus, sMinus, sTimes, and_assoc, exists_and_left, Nat.reduceLeDiff, Nat.reduceLT, Int.reduceLT, Int.reduceLE, Int.reduceMul, Int.reduceAdd, Int.reduceSub, Int.reduceNeg, Int.reduceToNat, ne_eq, decide_true, decide_false, eq_self, eIxD0, eIxD1, eTupD2, dsc_inj, eRAb, eRAt, eRAl, le_q0, fr_abs, sSize, sCommon, sBeyond, mZip, or_false, false_or, eRAd, eInT, eTupLd, eTupTr, tr_inj, ld_inj, rw_inj, eIxT0, eIxT1, eIxT2, eNeF, eEqF, eEqR, eRAtr, mEnum, eIxK0, eIxK1, eIxK2]
    refine mColl_map (ps := [x, u, y, v]) (g := fun p => rwD p) (f := fun p => rwD (scl f p)) (fun p hp yes no c hy => ?_) ?_
    · unfold turnD
      simp only [mRet, mRetN, mRetL, mIfS, mSeq, mNx, mPass, mExpr, mAsg, gSet, mVar, mC, mOp, mUn, mTB, mNotT, mAndT, mOrT, mAnd, mOr, mNot, mIf, mCons, mNil, mTup, mLst, mCall, mCallK, mSl, mOSome, mONone, mPar, mPar3, eTupD, eConsD, eNilD, eAdd1, eAdd2, eAdd3, eSub, eMul1, eMul2, eFdiv, eMod, ePow, eNeg, eLt, eLe, eGt, eGe, eEq1, eEq2, eNe1, eNe2, eIx1, eIx2, eIx3, eIx4, eSl1, eSl2, eSl3, eLen1, eLen2, eLen3, eAbs, eIntC, eMax2, eMin2, eList1, eList2, eList3, eTuple1, eTuple2, eAll, eAny, eIsi, eGcd2, eGcd3, eLcm, eIsqrt, eDivmod, eOne, eTwo, eThree, eB, eInt, eSeq1, eSeq2, eSeq3, eRng1, eRng2, eIsN, eNotN, gWset, mSeqI, mRng1, mRng2, startS, wipeS, List.map_cons, List.map_nil, List.length_cons, List.length_nil, List.replicate, List.cons_append, List.nil_append, List.append_nil, List.set, List.getElem?_cons_zero, List.getElem?_cons_succ, Option.some.injEq, SV.val.injEq, SV.own.injEq, exists_eq_left', exists_eq_left, true_and, and_true, Nat.reduceAdd, Nat.reduceSub, Nat.zero_add, ite_cr, D.tup.injEq, D.int.injEq, D.bl.injEq, D.lst.injEq, D.str.injEq, List.cons.injEq, reduceCtorEq, if_true, if_false, ite_true, ite_false, Bool.not_true, Bool.not_false, Bool.false_eq_true, not_true, not_false, Bool.true_and, Bool.and_true, Bool.false_and, Bool.and_false, decide_eq_true_eq, ask_int, ask_bool, ask_tuple, ask_list, ask_str, isSub_tuple, isTup_tup, int2, int3, at0, at1, at2, at3, pow2, eFour, ePr, e3I, ePrF, e3K, eFr, eFrF, eTupF, eTupK, eIxF0, eIxF1, fr_inj, nd, nd0, nd1, nd2, nd3, oo, zo, lit0, lit1, div1, ip2, Bool.not_eq_true', decide_eq_false_iff_not, sRat, sPlus, sMinus, sTimes, and_assoc, exists_and_left, Nat.reduceLeDiff, Nat.reduceLT, Int.reduceLT, Int.reduceLE, Int.reduceMul, Int.reduceAdd, Int.reduceSub, Int.reduceNeg, Int.reduceToNat, ne_eq, decide_true, decide_false, eq_self, eIxD0, eIxD1, eTupD2, dsc_inj, eRAb, eRAt, eRAl, le_q0, fr_abs, sSize, sCommon, sBeyond, mZip, or_false, false_or, eRAd, eInT, eTupLd, eTupTr, tr_inj, ld_inj, rw_inj, eIxT0, eIxT1, eIxT2, eNeF, eEqF, eEqR, eRAtr, mEnum, eIxK0, eIxK1, eIxK2, mYes]
      have : p.length ≤ 20 ∧ Rz 25 12 p := by
        simp only [List.mem_cons, List.not_mem_nil, or_false] at hp
        rcases hp with rfl | rfl | rfl | rfl
        · exact ⟨by omega, x25⟩
        · exact ⟨by omega, u25⟩
        · exact ⟨by omega, y25⟩
        · exact ⟨by omega, sv3⟩
      exact sB this.1 this.2 hy
    · exact ⟨rfl, rfl⟩
  apply mCut_at
  · simp only [mRet, mRetN, mRetL, mIfS, mSeq, mNx, mPass, mExpr, mAsg, gSet, mVar, mC, mOp, mUn, mTB, mNotT, mAndT, mOrT, mAnd, mOr, mNot, mIf, mCons, mNil, mTup, mLst, mCall, mCallK, mSl, mOSome, mONone, mPar, mPar3, eTupD, eConsD, eNilD, eAdd1, eAdd2, eAdd3, eSub, eMul1, eMul2, eFdiv, eMod, ePow, eNeg, eLt, eLe, eGt, eGe, eEq1, eEq2, eNe1, eNe2, eIx1, eIx2, eIx3, eIx4, eSl1, eSl2, eSl3, eLen1, eLen2, eLen3, eAbs, eIntC, eMax2, eMin2, eList1, eList2, eList3, eTuple1, eTuple2, eAll, eAny, eIsi, eGcd2, eGcd3, eLcm, eIsqrt, eDivmod, eOne, eTwo, eThree, eB, eInt, eSeq1, eSeq2, eSeq3, eRng1, eRng2, eIsN, eNotN, gWset, mSeqI, mRng1, mRng2, startS, wipeS, List.map_cons, List.map_nil, List.length_cons, List.length_nil, List.replicate, List.cons_append, List.nil_append, List.append_nil, List.set, List.getElem?_cons_zero, List.getElem?_cons_succ, Option.some.injEq, SV.val.injEq, SV.own.injEq, exists_eq_left', exists_eq_left, true_and, and_true, Nat.reduceAdd, Nat.reduceSub, Nat.zero_add, ite_cr, D.tup.injEq, D.int.injEq, D.bl.injEq, D.lst.injEq, D.str.injEq, List.cons.injEq, reduceCtorEq, if_true, if_false, ite_true, ite_false, Bool.not_true, Bool.not_false, Bool.false_eq_true, not_true, not_false, Bool.true_and, Bool.and_true, Bool.false_and, Bool.and_false, decide_eq_true_eq, ask_int, ask_bool, ask_tuple, ask_list, ask_str, isSub_tuple, isTup_tup, int2, int3, at0, at1, at2, at3, pow2, eFour, ePr, e3I, ePrF, e3K, eFr, eFrF, eTupF, eTupK, eIxF0, eIxF1, fr_inj, nd, nd0, nd1, nd2, nd3, oo, zo, lit0, lit1, div1, ip2, Bool.not_eq_true', decide_eq_false_iff_not, sRat, sPlus, sMinus, sTimes, and_assoc, exists_and_left, Nat.reduceLeDiff, Nat.reduceLT, Int.reduceLT, Int.reduceLE, Int.reduceMul, Int.reduceAdd, Int.reduceSub, Int.reduceNeg, Int.reduceToNat, ne_eq, decide_true, decide_false, eq_self, eIxD0, eIxD1, eTupD2, dsc_inj, eRAb, eRAt, eRAl, le_q0, fr_abs, sSize, sCommon, sBeyond, mZip, or_false, false_or, eRAd, eInT, eTupLd, eTupTr, tr_inj, ld_inj, rw_inj, eIxT0, eIxT1, eIxT2, eNeF, eEqF, eEqR, eRAtr, mEnum, eIxK0, eIxK1, eIxK2, fr_o]
    refine gO ?_
    have e4 : ∀ (a b c d : DJ.D), pick [3, 2, 1, 0] [a, b, c, d] = [d, c, b, a] := fun _ _ _ _ => rfl
    try simp only [mRet, mRetN, mRetL, mIfS, mSeq, mNx, mPass, mExpr, mAsg, gSet, mVar, mC, mOp, mUn, mTB, mNotT, mAndT, mOrT, mAnd, mOr, mNot, mIf, mCons, mNil, mTup, mLst, mCall, mCallK, mSl, mOSome, mONone, mPar, mPar3, eTupD, eConsD, eNilD, eAdd1, eAdd2, eAdd3, eSub, eMul1, eMul2, eFdiv, eMod, ePow, eNeg, eLt, eLe, eGt, eGe, eEq1, eEq2, eNe1, eNe2, eIx1, eIx2, eIx3, eIx4, eSl1, eSl2, eSl3, eLen1, eLen2, eLen3, eAbs, eIntC, eMax2, eMin2, eList1, eList2, eList3, eTuple1, eTuple2, eAll, eAny, eIsi, eGcd2, eGcd3, eLcm, eIsqrt, eDivmod, eOne, eTwo, eThree, eB, eInt, eSeq1, eSeq2, eSeq3, eRng1, eRng2, eIsN, eNotN, gWset, mSeqI, mRng1, mRng2, startS, wipeS, List.map_cons, List.map_nil, List.length_cons, List.length_nil, List.replicate, List.cons_append, List.nil_append, List.append_nil, List.set, List.getElem?_cons_zero, List.getElem?_cons_succ, Option.some.injEq, SV.val.injEq, SV.own.injEq, exists_eq_left', exists_eq_left, true_and, and_true, Nat.reduceAdd, Nat.reduceSub, Nat.zero_add, ite_cr, D.tup.injEq, D.int.injEq, D.bl.injEq, D.lst.injEq, D.str.injEq, List.cons.injEq, reduceCtorEq, if_true, if_false, ite_true, ite_false, Bool.not_true, Bool.not_false, Bool.false_eq_true, not_true, not_false, Bool.true_and, Bool.and_true, Bool.false_and, Bool.and_false, decide_eq_true_eq, ask_int, ask_bool, ask_tuple, ask_list, ask_str, isSub_tuple, isTup_tup, int2, int3, at0, at1, at2, at3, pow2, eFour, ePr, e3I, ePrF, e3K, eFr, eFrF, eTupF, eTupK, eIxF0, eIxF1, fr_inj, nd, nd0, nd1, nd2, nd3, oo, zo, lit0, lit1, div1, ip2, Bool.not_eq_true', decide_eq_false_iff_not, sRat, sPlus, sMinus, sTimes, and_assoc, exists_and_left, Nat.reduceLeDiff, Nat.reduceLT, Int.reduceLT, Int.reduceLE, Int.reduceMul, Int.reduceAdd, Int.reduceSub, Int.reduceNeg, Int.reduceToNat, ne_eq, decide_true, decide_false, eq_self, eIxD0, eIxD1, eTupD2, dsc_inj, eRAb, eRAt, eRAl, le_q0, fr_abs, sSize, sCommon, sBeyond, mZip, or_false, false_or, eRAd, eInT, eTupLd, eTupTr, tr_inj, ld_inj, rw_inj, eIxT0, eIxT1, eIxT2, eNeF, eEqF, eEqR, eRAtr, mEnum, eIxK0, eIxK1, eIxK2, e4]
    refine gE ?_
    try simp only [mRet, mRetN, mRetL, mIfS, mSeq, mNx, mPass, mExpr, mAsg, gSet, mVar, mC, mOp, mUn, mTB, mNotT, mAndT, mOrT, mAnd, mOr, mNot, mIf, mCons, mNil, mTup, mLst, mCall, mCallK, mSl, mOSome, mONone, mPar, mPar3, eTupD, eConsD, eNilD, eAdd1, eAdd2, eAdd3, eSub, eMul1, eMul2, eFdiv, eMod, ePow, eNeg, eLt, eLe, eGt, eGe, eEq1, eEq2, eNe1, eNe2, eIx1, eIx2, eIx3, eIx4, eSl1, eSl2, eSl3, eLen1, eLen2, eLen3, eAbs, eIntC, eMax2, eMin2, eList1, eList2, eList3, eTuple1, eTuple2, eAll, eAny, eIsi, eGcd2, eGcd3, eLcm, eIsqrt, eDivmod, eOne, eTwo, eThree, eB, eInt, eSeq1, eSeq2, eSeq3, eRng1, eRng2, eIsN, eNotN, gWset, mSeqI, mRng1, mRng2, startS, wipeS, List.map_cons, List.map_nil, List.length_cons, List.length_nil, List.replicate, List.cons_append, List.nil_append, List.append_nil, List.set, List.getElem?_cons_zero, List.getElem?_cons_succ, Option.some.injEq, SV.val.injEq, SV.own.injEq, exists_eq_left', exists_eq_left, true_and, and_true, Nat.reduceAdd, Nat.reduceSub, Nat.zero_add, ite_cr, D.tup.injEq, D.int.injEq, D.bl.injEq, D.lst.injEq, D.str.injEq, List.cons.injEq, reduceCtorEq, if_true, if_false, ite_true, ite_false, Bool.not_true, Bool.not_false, Bool.false_eq_true, not_true, not_false, Bool.true_and, Bool.and_true, Bool.false_and, Bool.and_false, decide_eq_true_eq, ask_int, ask_bool, ask_tuple, ask_list, ask_str, isSub_tuple, isTup_tup, int2, int3, at0, at1, at2, at3, pow2, eFour, ePr, e3I, ePrF, e3K, eFr, eFrF, eTupF, eTupK, eIxF0, eIxF1, fr_inj, nd, nd0, nd1, nd2, nd3, oo, zo, lit0, lit1, div1, ip2, Bool.not_eq_true', decide_eq_false_iff_not, sRat, sPlus, sMinus, sTimes, and_assoc, exists_and_left, Nat.reduceLeDiff, Nat.reduceLT, Int.reduceLT, Int.reduceLE, Int.reduceMul, Int.reduceAdd, Int.reduceSub, Int.reduceNeg, Int.reduceToNat, ne_eq, decide_true, decide_false, eq_self, eIxD0, eIxD1, eTupD2, dsc_inj, eRAb, eRAt, eRAl, le_q0, fr_abs, sSize, sCommon, sBeyond, mZip, or_false, false_or, eRAd, eInT, eTupLd, eTupTr, tr_inj, ld_inj, rw_inj, eIxT0, eIxT1, eIxT2, eNeF, eEqF, eEqR, eRAtr, mEnum, eIxK0, eIxK1, eIxK2]
    refine jB (szc (by decide)) (by omega) x25 ?_
    try simp only [mRet, mRetN, mRetL, mIfS, mSeq, mNx, mPass, mExpr, mAsg, gSet, mVar, mC, mOp, mUn, mTB, mNotT, mAndT, mOrT, mAnd, mOr, mNot, mIf, mCons, mNil, mTup, mLst, mCall, mCallK, mSl, mOSome, mONone, mPar, mPar3, eTupD, eConsD, eNilD, eAdd1, eAdd2, eAdd3, eSub, eMul1, eMul2, eFdiv, eMod, ePow, eNeg, eLt, eLe, eGt, eGe, eEq1, eEq2, eNe1, eNe2, eIx1, eIx2, eIx3, eIx4, eSl1, eSl2, eSl3, eLen1, eLen2, eLen3, eAbs, eIntC, eMax2, eMin2, eList1, eList2, eList3, eTuple1, eTuple2, eAll, eAny, eIsi, eGcd2, eGcd3, eLcm, eIsqrt, eDivmod, eOne, eTwo, eThree, eB, eInt, eSeq1, eSeq2, eSeq3, eRng1, eRng2, eIsN, eNotN, gWset, mSeqI, mRng1, mRng2, startS, wipeS, List.map_cons, List.map_nil, List.length_cons, List.length_nil, List.replicate, List.cons_append, List.nil_append, List.append_nil, List.set, List.getElem?_cons_zero, List.getElem?_cons_succ, Option.some.injEq, SV.val.injEq, SV.own.injEq, exists_eq_left', exists_eq_left, true_and, and_true, Nat.reduceAdd, Nat.reduceSub, Nat.zero_add, ite_cr, D.tup.injEq, D.int.injEq, D.bl.injEq, D.lst.injEq, D.str.injEq, List.cons.injEq, reduceCtorEq, if_true, if_false, ite_true, ite_false, Bool.not_true, Bool.not_false, Bool.false_eq_true, not_true, not_false, Bool.true_and, Bool.and_true, Bool.false_and, Bool.and_false, decide_eq_true_eq, ask_int, ask_bool, ask_tuple, ask_list, ask_str, isSub_tuple, isTup_tup, int2, int3, at0, at1, at2, at3, pow2, eFour, ePr, e3I, ePrF, e3K, eFr, eFrF, eTupF, eTupK, eIxF0, eIxF1, fr_inj, nd, nd0, nd1, nd2, nd3, oo, zo, lit0, lit1, div1, ip2, Bool.not_eq_true', decide_eq_false_iff_not, sRat, sPlus, sMinus, sTimes, and_assoc, exists_and_left, Nat.reduceLeDiff, Nat.reduceLT, Int.reduceLT, Int.reduceLE, Int.reduceMul, Int.reduceAdd, Int.reduceSub, Int.reduceNeg, Int.reduceToNat, ne_eq, decide_true, decide_false, eq_self, eIxD0, eIxD1, eTupD2, dsc_inj, eRAb, eRAt, eRAl, le_q0, fr_abs, sSize, sCommon, sBeyond, mZip, or_false, false_or, eRAd, eInT, eTupLd, eTupTr, tr_inj, ld_inj, rw_inj, eIxT0, eIxT1, eIxT2, eNeF, eEqF, eEqR, eRAtr, mEnum, eIxK0, eIxK1, eIxK2]
    refine jB (szc (by decide)) (by omega) y25 ?_
    try simp only [mRet, mRetN, mRetL, mIfS, mSeq, mNx, mPass, mExpr, mAsg, gSet, mVar, mC, mOp, mUn, mTB, mNotT, mAndT, mOrT, mAnd, mOr, mNot, mIf, mCons, mNil, mTup, mLst, mCall, mCallK, mSl, mOSome, mONone, mPar, mPar3, eTupD, eConsD, eNilD, eAdd1, eAdd2, eAdd3, eSub, eMul1, eMul2, eFdiv, eMod, ePow, eNeg, eLt, eLe, eGt, eGe, eEq1, eEq2, eNe1, eNe2, eIx1, eIx2, eIx3, eIx4, eSl1, eSl2, eSl3, eLen1, eLen2, eLen3, eAbs, eIntC, eMax2, eMin2, eList1, eList2, eList3, eTuple1, eTuple2, eAll, eAny, eIsi, eGcd2, eGcd3, eLcm, eIsqrt, eDivmod, eOne, eTwo, eThree, eB, eInt, eSeq1, eSeq2, eSeq3, eRng1, eRng2, eIsN, eNotN, gWset, mSeqI, mRng1, mRng2, startS, wipeS, List.map_cons, List.map_nil, List.length_cons, List.length_nil, List.replicate, List.cons_append, List.nil_append, List.append_nil, List.set, List.getElem?_cons_zero, List.getElem?_cons_succ, Option.some.injEq, SV.val.injEq, SV.own.injEq, exists_eq_left', exists_eq_left, true_and, and_true, Nat.reduceAdd, Nat.reduceSub, Nat.zero_add, ite_cr, D.tup.injEq, D.int.injEq, D.bl.injEq, D.lst.injEq, D.str.injEq, List.cons.injEq, reduceCtorEq, if_true, if_false, ite_true, ite_false, Bool.not_true, Bool.not_false, Bool.false_eq_true, not_true, not_false, Bool.true_and, Bool.and_true, Bool.false_and, Bool.and_false, decide_eq_true_eq, ask_int, ask_bool, ask_tuple, ask_list, ask_str, isSub_tuple, isTup_tup, int2, int3, at0, at1, at2, at3, pow2, eFour, ePr, e3I, ePrF, e3K, eFr, eFrF, eTupF, eTupK, eIxF0, eIxF1, fr_inj, nd, nd0, nd1, nd2, nd3, oo, zo, lit0, lit1, div1, ip2, Bool.not_eq_true', decide_eq_false_iff_not, sRat, sPlus, sMinus, sTimes, and_assoc, exists_and_left, Nat.reduceLeDiff, Nat.reduceLT, Int.reduceLT, Int.reduceLE, Int.reduceMul, Int.reduceAdd, Int.reduceSub, Int.reduceNeg, Int.reduceToNat, ne_eq, decide_true, decide_false, eq_self, eIxD0, eIxD1, eTupD2, dsc_inj, eRAb, eRAt, eRAl, le_q0, fr_abs, sSize, sCommon, sBeyond, mZip, or_false, false_or, eRAd, eInT, eTupLd, eTupTr, tr_inj, ld_inj, rw_inj, eIxT0, eIxT1, eIxT2, eNeF, eEqF, eEqR, eRAtr, mEnum, eIxK0, eIxK1, eIxK2]
    refine gM1 ?_
    try simp only [mRet, mRetN, mRetL, mIfS, mSeq, mNx, mPass, mExpr, mAsg, gSet, mVar, mC, mOp, mUn, mTB, mNotT, mAndT, mOrT, mAnd, mOr, mNot, mIf, mCons, mNil, mTup, mLst, mCall, mCallK, mSl, mOSome, mONone, mPar, mPar3, eTupD, eConsD, eNilD, eAdd1, eAdd2, eAdd3, eSub, eMul1, eMul2, eFdiv, eMod, ePow, eNeg, eLt, eLe, eGt, eGe, eEq1, eEq2, eNe1, eNe2, eIx1, eIx2, eIx3, eIx4, eSl1, eSl2, eSl3, eLen1, eLen2, eLen3, eAbs, eIntC, eMax2, eMin2, eList1, eList2, eList3, eTuple1, eTuple2, eAll, eAny, eIsi, eGcd2, eGcd3, eLcm, eIsqrt, eDivmod, eOne, eTwo, eThree, eB, eInt, eSeq1, eSeq2, eSeq3, eRng1, eRng2, eIsN, eNotN, gWset, mSeqI, mRng1, mRng2, startS, wipeS, List.map_cons, List.map_nil, List.length_cons, List.length_nil, List.replicate, List.cons_append, List.nil_append, List.append_nil, List.set, List.getElem?_cons_zero, List.getElem?_cons_succ, Option.some.injEq, SV.val.injEq, SV.own.injEq, exists_eq_left', exists_eq_left, true_and, and_true, Nat.reduceAdd, Nat.reduceSub, Nat.zero_add, ite_cr, D.tup.injEq, D.int.injEq, D.bl.injEq, D.lst.injEq, D.str.injEq, List.cons.injEq, reduceCtorEq, if_true, if_false, ite_true, ite_false, Bool.not_true, Bool.not_false, Bool.false_eq_true, not_true, not_false, Bool.true_and, Bool.and_true, Bool.false_and, Bool.and_false, decide_eq_true_eq, ask_int, ask_bool, ask_tuple, ask_list, ask_str, isSub_tuple, isTup_tup, int2, int3, at0, at1, at2, at3, pow2, eFour, ePr, e3I, ePrF, e3K, eFr, eFrF, eTupF, eTupK, eIxF0, eIxF1, fr_inj, nd, nd0, nd1, nd2, nd3, oo, zo, lit0, lit1, div1, ip2, Bool.not_eq_true', decide_eq_false_iff_not, sRat, sPlus, sMinus, sTimes, and_assoc, exists_and_left, Nat.reduceLeDiff, Nat.reduceLT, Int.reduceLT, Int.reduceLE, Int.reduceMul, Int.reduceAdd, Int.reduceSub, Int.reduceNeg, Int.reduceToNat, ne_eq, decide_true, decide_false, eq_self, eIxD0, eIxD1, eTupD2, dsc_inj, eRAb, eRAt, eRAl, le_q0, fr_abs, sSize, sCommon, sBeyond, mZip, or_false, false_or, eRAd, eInT, eTupLd, eTupTr, tr_inj, ld_inj, rw_inj, eIxT0, eIxT1, eIxT2, eNeF, eEqF, eEqR, eRAtr, mEnum, eIxK0, eIxK1, eIxK2]
    refine jB (szc (by decide)) (by omega) u25 ?_
    try simp only [mRet, mRetN, mRetL, mIfS, mSeq, mNx, mPass, mExpr, mAsg, gSet, mVar, mC, mOp, mUn, mTB, mNotT, mAndT, mOrT, mAnd, mOr, mNot, mIf, mCons, mNil, mTup, mLst, mCall, mCallK, mSl, mOSome, mONone, mPar, mPar3, eTupD, eConsD, eNilD, eAdd1, eAdd2, eAdd3, eSub, eMul1, eMul2, eFdiv, eMod, ePow, eNeg, eLt, eLe, eGt, eGe, eEq1, eEq2, eNe1, eNe2, eIx1, eIx2, eIx3, eIx4, eSl1, eSl2, eSl3, eLen1, eLen2, eLen3, eAbs, eIntC, eMax2, eMin2, eList1, eList2, eList3, eTuple1, eTuple2, eAll, eAny, eIsi, eGcd2, eGcd3, eLcm, eIsqrt, eDivmod, eOne, eTwo, eThree, eB, eInt, eSeq1, eSeq2, eSeq3, eRng1, eRng2, eIsN, eNotN, gWset, mSeqI, mRng1, mRng2, startS, wipeS, List.map_cons, List.map_nil, List.length_cons, List.length_nil, List.replicate, List.cons_append, List.nil_append, List.append_nil, List.set, List.getElem?_cons_zero, List.getElem?_cons_succ, Option.some.injEq, SV.val.injEq, SV.own.injEq, exists_eq_left', exists_eq_left, true_and, and_true, Nat.reduceAdd, Nat.reduceSub, Nat.zero_add, ite_cr, D.tup.injEq, D.int.injEq, D.bl.injEq, D.lst.injEq, D.str.injEq, List.cons.injEq, reduceCtorEq, if_true, if_false, ite_true, ite_false, Bool.not_true, Bool.not_false, Bool.false_eq_true, not_true, not_false, Bool.true_and, Bool.and_true, Bool.false_and, Bool.and_false, decide_eq_true_eq, ask_int, ask_bool, ask_tuple, ask_list, ask_str, isSub_tuple, isTup_tup, int2, int3, at0, at1, at2, at3, pow2, eFour, ePr, e3I, ePrF, e3K, eFr, eFrF, eTupF, eTupK, eIxF0, eIxF1, fr_inj, nd, nd0, nd1, nd2, nd3, oo, zo, lit0, lit1, div1, ip2, Bool.not_eq_true', decide_eq_false_iff_not, sRat, sPlus, sMinus, sTimes, and_assoc, exists_and_left, Nat.reduceLeDiff, Nat.reduceLT, Int.reduceLT, Int.reduceLE, Int.reduceMul, Int.reduceAdd, Int.reduceSub, Int.reduceNeg, Int.reduceToNat, ne_eq, decide_true, decide_false, eq_self, eIxD0, eIxD1, eTupD2, dsc_inj, eRAb, eRAt, eRAl, le_q0, fr_abs, sSize, sCommon, sBeyond, mZip, or_false, false_or, eRAd, eInT, eTupLd, eTupTr, tr_inj, ld_inj, rw_inj, eIxT0, eIxT1, eIxT2, eNeF, eEqF, eEqR, eRAtr, mEnum, eIxK0, eIxK1, eIxK2]
    refine jB (szc (by decide)) (by omega) sv3 ?_
    try simp only [mRet, mRetN, mRetL, mIfS, mSeq, mNx, mPass, mExpr, mAsg, gSet, mVar, mC, mOp, mUn, mTB, mNotT, mAndT, mOrT, mAnd, mOr, mNot, mIf, mCons, mNil, mTup, mLst, mCall, mCallK, mSl, mOSome, mONone, mPar, mPar3, eTupD, eConsD, eNilD, eAdd1, eAdd2, eAdd3, eSub, eMul1, eMul2, eFdiv, eMod, ePow, eNeg, eLt, eLe, eGt, eGe, eEq1, eEq2, eNe1, eNe2, eIx1, eIx2, eIx3, eIx4, eSl1, eSl2, eSl3, eLen1, eLen2, eLen3, eAbs, eIntC, eMax2, eMin2, eList1, eList2, eList3, eTuple1, eTuple2, eAll, eAny, eIsi, eGcd2, eGcd3, eLcm, eIsqrt, eDivmod, eOne, eTwo, eThree, eB, eInt, eSeq1, eSeq2, eSeq3, eRng1, eRng2, eIsN, eNotN, gWset, mSeqI, mRng1, mRng2, startS, wipeS, List.map_cons, List.map_nil, List.length_cons, List.length_nil, List.replicate, List.cons_append, List.nil_append, List.append_nil, List.set, List.getElem?_cons_zero, List.getElem?_cons_succ, Option.some.injEq, SV.val.injEq, SV.own.injEq, exists_eq_left', exists_eq_left, true_and, and_true, Nat.reduceAdd, Nat.reduceSub, Nat.zero_add, ite_cr, D.tup.injEq, D.int.injEq, D.bl.injEq, D.lst.injEq, D.str.injEq, List.cons.injEq, reduceCtorEq, if_true, if_false, ite_true, ite_false, Bool.not_true, Bool.not_false, Bool.false_eq_true, not_true, not_false, Bool.true_and, Bool.and_true, Bool.false_and, Bool.and_false, decide_eq_true_eq, ask_int, ask_bool, ask_tuple, ask_list, ask_str, isSub_tuple, isTup_tup, int2, int3, at0, at1, at2, at3, pow2, eFour, ePr, e3I, ePrF, e3K, eFr, eFrF, eTupF, eTupK, eIxF0, eIxF1, fr_inj, nd, nd0, nd1, nd2, nd3, oo, zo, lit0, lit1, div1, ip2, Bool.not_eq_true', decide_eq_false_iff_not, sRat, sPlus, sMinus, sTimes, and_assoc, exists_and_left, Nat.reduceLeDiff, Nat.reduceLT, Int.reduceLT, Int.reduceLE, Int.reduceMul, Int.reduceAdd, Int.reduceSub, Int.reduceNeg, Int.reduceToNat, ne_eq, decide_true, decide_false, eq_self, eIxD0, eIxD1, eTupD2, dsc_inj, eRAb, eRAt, eRAl, le_q0, fr_abs, sSize, sCommon, sBeyond, mZip, or_false, false_or, eRAd, eInT, eTupLd, eTupTr, tr_inj, ld_inj, rw_inj, eIxT0, eIxT1, eIxT2, eNeF, eEqF, eEqR, eRAtr, mEnum, eIxK0, eIxK1, eIxK2]
    refine gM2 ?_
    try simp only [mRet, mRetN, mRetL, mIfS, mSeq, mNx, mPass, mExpr, mAsg, gSet, mVar, mC, mOp, mUn, mTB, mNotT, mAndT, mOrT, mAnd, mOr, mNot, mIf, mCons, mNil, mTup, mLst, mCall, mCallK, mSl, mOSome, mONone, mPar, mPar3, eTupD, eConsD, eNilD, eAdd1, eAdd2, eAdd3, eSub, eMul1, eMul2, eFdiv, eMod, ePow, eNeg, eLt, eLe, eGt, eGe, eEq1, eEq2, eNe1, eNe2, eIx1, eIx2, eIx3, eIx4, eSl1, eSl2, eSl3, eLen1, eLen2, eLen3, eAbs, eIntC, eMax2, eMin2, eList1, eList2, eList3, eTuple1, eTuple2, eAll, eAny, eIsi, eGcd2, eGcd3, eLcm, eIsqrt, eDivmod, eOne, eTwo, eThree, eB, eInt, eSeq1, eSeq2, eSeq3, eRng1, eRng2, eIsN, eNotN, gWset, mSeqI, mRng1, mRng2, startS, wipeS, List.map_cons, List.map_nil, List.length_cons, List.length_nil, List.replicate, List.cons_append, List.nil_append, List.append_nil, List.set, List.getElem?_cons_zero, List.getElem?_cons_succ, Option.some.injEq, SV.val.injEq, SV.own.injEq, exists_eq_left', exists_eq_left, true_and, and_true, Nat.reduceAdd, Nat.reduceSub, Nat.zero_add, ite_cr, D.tup.injEq, D.int.injEq, D.bl.injEq, D.lst.injEq, D.str.injEq, List.cons.injEq, reduceCtorEq, if_true, if_false, ite_true, ite_false, Bool.not_true, Bool.not_false, Bool.false_eq_true, not_true, not_false, Bool.true_and, Bool.and_true, Bool.false_and, Bool.and_false, decide_eq_true_eq, ask_int, ask_bool, ask_tuple, ask_list, ask_str, isSub_tuple, isTup_tup, int2, int3, at0, at1, at2, at3, pow2, eFour, ePr, e3I, ePrF, e3K, eFr, eFrF, eTupF, eTupK, eIxF0, eIxF1, fr_inj, nd, nd0, nd1, nd2, nd3, oo, zo, lit0, lit1, div1, ip2, Bool.not_eq_true', decide_eq_false_iff_not, sRat, sPlus, sMinus, sTimes, and_assoc, exists_and_left, Nat.reduceLeDiff, Nat.reduceLT, Int.reduceLT, Int.reduceLE, Int.reduceMul, Int.reduceAdd, Int.reduceSub, Int.reduceNeg, Int.reduceToNat, ne_eq, decide_true, decide_false, eq_self, eIxD0, eIxD1, eTupD2, dsc_inj, eRAb, eRAt, eRAl, le_q0, fr_abs, sSize, sCommon, sBeyond, mZip, or_false, false_or, eRAd, eInT, eTupLd, eTupTr, tr_inj, ld_inj, rw_inj, eIxT0, eIxT1, eIxT2, eNeF, eEqF, eEqR, eRAtr, mEnum, eIxK0, eIxK1, eIxK2]
    exact ⟨rfl, rfl⟩
  have w10 : ∀ {q : Rat}, Sz 300 q → Sz 1000 q := fun h => h.mono (by decide)
  have tsh : (tr dx dm du).shy = true := tr_shy (w10 sa) (w10 sb) (w10 sc')
  have r4 : ∀ (P : DJ.D → Cr) (n : Nat), gRepr (.lst [tr dx dm du, tr dx dm du, tr dx dm du, tr dx dm du]) P n = P (.str (DJ.D.lst [tr dx dm du, tr dx dm du, tr dx dm du, tr dx dm du]).py.shown) n := repr_eq (by simp only [shy_lst, shyL_cons, shyL_nil, tsh, Bool.and_true]) ⟨_, .inr rfl⟩ (Nat.le_of_ble_eq_true rfl) (Nat.le_of_ble_eq_true rfl)
  have isg : ∀ {P : DJ.D → Cr} {n : Nat}, P (.bl true) n → sIsGap [tr dx dm du] P n := fun hP => g1_mk ⟨gap_fine (w10 sa) (w10 sb) (w10 sc'), by rw [show gapB (tr dx dm du) = true from gapB_fr a0' c0' ac bb]; exact hP⟩
  apply mCut_at
  · simp only [mRet, mRetN, mRetL, mIfS, mSeq, mNx, mPass, mExpr, mAsg, gSet, mVar, mC, mOp, mUn, mTB, mNotT, mAndT, mOrT, mAnd, mOr, mNot, mIf, mCons, mNil, mTup, mLst, mCall, mCallK, mSl, mOSome, mONone, mPar, mPar3, eTupD, eConsD, eNilD, eAdd1, eAdd2, eAdd3, eSub, eMul1, eMul2, eFdiv, eMod, ePow, eNeg, eLt, eLe, eGt, eGe, eEq1, eEq2, eNe1, eNe2, eIx1, eIx2, eIx3, eIx4, eSl1, eSl2, eSl3, eLen1, eLen2, eLen3, eAbs, eIntC, eMax2, eMin2, eList1, eList2, eList3, eTuple1, eTuple2, eAll, eAny, eIsi, eGcd2, eGcd3, eLcm, eIsqrt, eDivmod, eOne, eTwo, eThree, eB, eInt, eSeq1, eSeq2, eSeq3, eRng1, eRng2, eIsN, eNotN, gWset, mSeqI, mRng1, mRng2, startS, wipeS, List.map_cons, List.map_nil, List.length_cons, List.length_nil, List.replicate, List.cons_append, List.nil_append, List.append_nil, List.set, List.getElem?_cons_zero, List.getElem?_cons_succ, Option.some.injEq, SV.val.injEq, SV.own.injEq, exists_eq_left', exists_eq_left, true_and, and_true, Nat.reduceAdd, Nat.reduceSub, Nat.zero_add, ite_cr, D.tup.injEq, D.int.injEq, D.bl.injEq, D.lst.injEq, D.str.injEq, List.cons.injEq, reduceCtorEq, if_true, if_false, ite_true, ite_false, Bool.not_true, Bool.not_false, Bool.false_eq_true, not_true, not_false, Bool.true_and, Bool.and_true, Bool.false_and, Bool.and_false, decide_eq_true_eq, ask_int, ask_bool, ask_tuple, ask_list, ask_str, isSub_tuple, isTup_tup, int2, int3, at0, at1, at2, at3, pow2, eFour, ePr, e3I, ePrF, e3K, eFr, eFrF, eTupF, eTupK, eIxF0, eIxF1, fr_inj, nd, nd0, nd1, nd2, nd3, oo, zo, lit0, lit1, div1, ip2, Bool.not_eq_true', decide_eq_false_iff_not, sRat, sPlus, sMinus, sTimes, and_assoc, exists_and_left, Nat.reduceLeDiff, Nat.reduceLT, Int.reduceLT, Int.reduceLE, Int.reduceMul, Int.reduceAdd, Int.reduceSub, Int.reduceNeg, Int.reduceToNat, ne_eq, decide_true, decide_false, eq_self, eIxD0, eIxD1, eTupD2, dsc_inj, eRAb, eRAt, eRAl, le_q0, fr_abs, sSize, sCommon, sBeyond, mZip, or_false, false_or, eRAd, eInT, eTupLd, eTupTr, tr_inj, ld_inj, rw_inj, eIxT0, eIxT1, eIxT2, eNeF, eEqF, eEqR, eRAtr, mEnum, eIxK0, eIxK1, eIxK2, r4, List.flatten_cons, List.flatten_nil]
    refine isg ?_
    try simp only [mRet, mRetN, mRetL, mIfS, mSeq, mNx, mPass, mExpr, mAsg, gSet, mVar, mC, mOp, mUn, mTB, mNotT, mAndT, mOrT, mAnd, mOr, mNot, mIf, mCons, mNil, mTup, mLst, mCall, mCallK, mSl, mOSome, mONone, mPar, mPar3, eTupD, eConsD, eNilD, eAdd1, eAdd2, eAdd3, eSub, eMul1, eMul2, eFdiv, eMod, ePow, eNeg, eLt, eLe, eGt, eGe, eEq1, eEq2, eNe1, eNe2, eIx1, eIx2, eIx3, eIx4, eSl1, eSl2, eSl3, eLen1, eLen2, eLen3, eAbs, eIntC, eMax2, eMin2, eList1, eList2, eList3, eTuple1, eTuple2, eAll, eAny, eIsi, eGcd2, eGcd3, eLcm, eIsqrt, eDivmod, eOne, eTwo, eThree, eB, eInt, eSeq1, eSeq2, eSeq3, eRng1, eRng2, eIsN, eNotN, gWset, mSeqI, mRng1, mRng2, startS, wipeS, List.map_cons, List.map_nil, List.length_cons, List.length_nil, List.replicate, List.cons_append, List.nil_append, List.append_nil, List.set, List.getElem?_cons_zero, List.getElem?_cons_succ, Option.some.injEq, SV.val.injEq, SV.own.injEq, exists_eq_left', exists_eq_left, true_and, and_true, Nat.reduceAdd, Nat.reduceSub, Nat.zero_add, ite_cr, D.tup.injEq, D.int.injEq, D.bl.injEq, D.lst.injEq, D.str.injEq, List.cons.injEq, reduceCtorEq, if_true, if_false, ite_true, ite_false, Bool.not_true, Bool.not_false, Bool.false_eq_true, not_true, not_false, Bool.true_and, Bool.and_true, Bool.false_and, Bool.and_false, decide_eq_true_eq, ask_int, ask_bool, ask_tuple, ask_list, ask_str, isSub_tuple, isTup_tup, int2, int3, at0, at1, at2, at3, pow2, eFour, ePr, e3I, ePrF, e3K, eFr, eFrF, eTupF, eTupK, eIxF0, eIxF1, fr_inj, nd, nd0, nd1, nd2, nd3, oo, zo, lit0, lit1, div1, ip2, Bool.not_eq_true', decide_eq_false_iff_not, sRat, sPlus, sMinus, sTimes, and_assoc, exists_and_left, Nat.reduceLeDiff, Nat.reduceLT, Int.reduceLT, Int.reduceLE, Int.reduceMul, Int.reduceAdd, Int.reduceSub, Int.reduceNeg, Int.reduceToNat, ne_eq, decide_true, decide_false, eq_self, eIxD0, eIxD1, eTupD2, dsc_inj, eRAb, eRAt, eRAl, le_q0, fr_abs, sSize, sCommon, sBeyond, mZip, or_false, false_or, eRAd, eInT, eTupLd, eTupTr, tr_inj, ld_inj, rw_inj, eIxT0, eIxT1, eIxT2, eNeF, eEqF, eEqR, eRAtr, mEnum, eIxK0, eIxK1, eIxK2]
    refine isg ?_
    try simp only [mRet, mRetN, mRetL, mIfS, mSeq, mNx, mPass, mExpr, mAsg, gSet, mVar, mC, mOp, mUn, mTB, mNotT, mAndT, mOrT, mAnd, mOr, mNot, mIf, mCons, mNil, mTup, mLst, mCall, mCallK, mSl, mOSome, mONone, mPar, mPar3, eTupD, eConsD, eNilD, eAdd1, eAdd2, eAdd3, eSub, eMul1, eMul2, eFdiv, eMod, ePow, eNeg, eLt, eLe, eGt, eGe, eEq1, eEq2, eNe1, eNe2, eIx1, eIx2, eIx3, eIx4, eSl1, eSl2, eSl3, eLen1, eLen2, eLen3, eAbs, eIntC, eMax2, eMin2, eList1, eList2, eList3, eTuple1, eTuple2, eAll, eAny, eIsi, eGcd2, eGcd3, eLcm, eIsqrt, eDivmod, eOne, eTwo, eThree, eB, eInt, eSeq1, eSeq2, eSeq3, eRng1, eRng2, eIsN, eNotN, gWset, mSeqI, mRng1, mRng2, startS, wipeS, List.map_cons, List.map_nil, List.length_cons, List.length_nil, List.replicate, List.cons_append, List.nil_append, List.append_nil, List.set, List.getElem?_cons_zero, List.getElem?_cons_succ, Option.some.injEq, SV.val.injEq, SV.own.injEq, exists_eq_left', exists_eq_left, true_and, and_true, Nat.reduceAdd, Nat.reduceSub, Nat.zero_add, ite_cr, D.tup.injEq, D.int.injEq, D.bl.injEq, D.lst.injEq, D.str.injEq, List.cons.injEq, reduceCtorEq, if_true, if_false, ite_true, ite_false, Bool.not_true, Bool.not_false, Bool.false_eq_true, not_true, not_false, Bool.true_and, Bool.and_true, Bool.false_and, Bool.and_false, decide_eq_true_eq, ask_int, ask_bool, ask_tuple, ask_list, ask_str, isSub_tuple, isTup_tup, int2, int3, at0, at1, at2, at3, pow2, eFour, ePr, e3I, ePrF, e3K, eFr, eFrF, eTupF, eTupK, eIxF0, eIxF1, fr_inj, nd, nd0, nd1, nd2, nd3, oo, zo, lit0, lit1, div1, ip2, Bool.not_eq_true', decide_eq_false_iff_not, sRat, sPlus, sMinus, sTimes, and_assoc, exists_and_left, Nat.reduceLeDiff, Nat.reduceLT, Int.reduceLT, Int.reduceLE, Int.reduceMul, Int.reduceAdd, Int.reduceSub, Int.reduceNeg, Int.reduceToNat, ne_eq, decide_true, decide_false, eq_self, eIxD0, eIxD1, eTupD2, dsc_inj, eRAb, eRAt, eRAl, le_q0, fr_abs, sSize, sCommon, sBeyond, mZip, or_false, false_or, eRAd, eInT, eTupLd, eTupTr, tr_inj, ld_inj, rw_inj, eIxT0, eIxT1, eIxT2, eNeF, eEqF, eEqR, eRAtr, mEnum, eIxK0, eIxK1, eIxK2, rb2, tt_shown]
    exact ⟨rfl, rfl⟩
  haveI : SzC dx 300 := ⟨sa⟩
  haveI : SzC dm 300 := ⟨sb⟩
  haveI : SzC du 300 := ⟨sc'⟩
  have tsh2 : (tr (f * f * dx) (f * f * dm) (f * f * du)).shy = true := tr_shy (szc (by decide)) (szc (by decide)) (szc (by decide))
  have r1 : ∀ (P : DJ.D → Cr) (n : Nat), gReprA (tr (f * f * dx) (f * f * dm) (f * f * du)) P n = P (.str (tr (f * f * dx) (f * f * dm) (f * f * du)).py.shown) n := repr_eq tsh2 ⟨_, .inl rfl⟩ (Nat.le_of_ble_eq_true rfl) (Nat.le_of_ble_eq_true rfl)
  simp only [mRet, mRetN, mRetL, mIfS, mSeq, mNx, mPass, mExpr, mAsg, gSet, mVar, mC, mOp, mUn, mTB, mNotT, mAndT, mOrT, mAnd, mOr, mNot, mIf, mCons, mNil, mTup, mLst, mCall, mCallK, mSl, mOSome, mONone, mPar, mPar3, eTupD, eConsD, eNilD, eAdd1, eAdd2, eAdd3, eSub, eMul1, eMul2, eFdiv, eMod, ePow, eNeg, eLt, eLe, eGt, eGe, eEq1, eEq2, eNe1, eNe2, eIx1, eIx2, eIx3, eIx4, eSl1, eSl2, eSl3, eLen1, eLen2, eLen3, eAbs, eIntC, eMax2, eMin2, eList1, eList2, eList3, eTuple1, eTuple2, eAll, eAny, eIsi, eGcd2, eGcd3, eLcm, eIsqrt, eDivmod, eOne, eTwo, eThree, eB, eInt, eSeq1, eSeq2, eSeq3, eRng1, eRng2, eIsN, eNotN, gWset, mSeqI, mRng1, mRng2, startS, wipeS, List.map_cons, List.map_nil, List.length_cons, List.length_nil, List.replicate, List.cons_append, List.nil_append, List.append_nil, List.set, List.getElem?_cons_zero, List.getElem?_cons_succ, Option.some.injEq, SV.val.injEq, SV.own.injEq, exists_eq_left', exists_eq_left, true_and, and_true, Nat.reduceAdd, Nat.reduceSub, Nat.zero_add, ite_cr, D.tup.injEq, D.int.injEq, D.bl.injEq, D.lst.injEq, D.str.injEq, List.cons.injEq, reduceCtorEq, if_true, if_false, ite_true, ite_false, Bool.not_true, Bool.not_false, Bool.false_eq_true, not_true, not_false, Bool.true_and, Bool.and_true, Bool.false_and, Bool.and_false, decide_eq_true_eq, ask_int, ask_bool, ask_tuple, ask_list, ask_str, isSub_tuple, isTup_tup, int2, int3, at0, at1, at2, at3, pow2, eFour, ePr, e3I, ePrF, e3K, eFr, eFrF, eTupF, eTupK, eIxF0, eIxF1, fr_inj, nd, nd0, nd1, nd2, nd3, oo, zo, lit0, lit1, div1, ip2, Bool.not_eq_true', decide_eq_false_iff_not, sRat, sPlus, sMinus, sTimes, and_assoc, exists_and_left, Nat.reduceLeDiff, Nat.reduceLT, Int.reduceLT, Int.reduceLE, Int.reduceMul, Int.reduceAdd, Int.reduceSub, Int.reduceNeg, Int.reduceToNat, ne_eq, decide_true, decide_false, eq_self, eIxD0, eIxD1, eTupD2, dsc_inj, eRAb, eRAt, eRAl, le_q0, fr_abs, sSize, sCommon, sBeyond, mZip, or_false, false_or, eRAd, eInT, eTupLd, eTupTr, tr_inj, ld_inj, rw_inj, eIxT0, eIxT1, eIxT2, eNeF, eEqF, eEqR, eRAtr, mEnum, eIxK0, eIxK1, eIxK2]
  refine gS ?_
  try simp only [mRet, mRetN, mRetL, mIfS, mSeq, mNx, mPass, mExpr, mAsg, gSet, mVar, mC, mOp, mUn, mTB, mNotT, mAndT, mOrT, mAnd, mOr, mNot, mIf, mCons, mNil, mTup, mLst, mCall, mCallK, mSl, mOSome, mONone, mPar, mPar3, eTupD, eConsD, eNilD, eAdd1, eAdd2, eAdd3, eSub, eMul1, eMul2, eFdiv, eMod, ePow, eNeg, eLt, eLe, eGt, eGe, eEq1, eEq2, eNe1, eNe2, eIx1, eIx2, eIx3, eIx4, eSl1, eSl2, eSl3, eLen1, eLen2, eLen3, eAbs, eIntC, eMax2, eMin2, eList1, eList2, eList3, eTuple1, eTuple2, eAll, eAny, eIsi, eGcd2, eGcd3, eLcm, eIsqrt, eDivmod, eOne, eTwo, eThree, eB, eInt, eSeq1, eSeq2, eSeq3, eRng1, eRng2, eIsN, eNotN, gWset, mSeqI, mRng1, mRng2, startS, wipeS, List.map_cons, List.map_nil, List.length_cons, List.length_nil, List.replicate, List.cons_append, List.nil_append, List.append_nil, List.set, List.getElem?_cons_zero, List.getElem?_cons_succ, Option.some.injEq, SV.val.injEq, SV.own.injEq, exists_eq_left', exists_eq_left, true_and, and_true, Nat.reduceAdd, Nat.reduceSub, Nat.zero_add, ite_cr, D.tup.injEq, D.int.injEq, D.bl.injEq, D.lst.injEq, D.str.injEq, List.cons.injEq, reduceCtorEq, if_true, if_false, ite_true, ite_false, Bool.not_true, Bool.not_false, Bool.false_eq_true, not_true, not_false, Bool.true_and, Bool.and_true, Bool.false_and, Bool.and_false, decide_eq_true_eq, ask_int, ask_bool, ask_tuple, ask_list, ask_str, isSub_tuple, isTup_tup, int2, int3, at0, at1, at2, at3, pow2, eFour, ePr, e3I, ePrF, e3K, eFr, eFrF, eTupF, eTupK, eIxF0, eIxF1, fr_inj, nd, nd0, nd1, nd2, nd3, oo, zo, lit0, lit1, div1, ip2, Bool.not_eq_true', decide_eq_false_iff_not, sRat, sPlus, sMinus, sTimes, and_assoc, exists_and_left, Nat.reduceLeDiff, Nat.reduceLT, Int.reduceLT, Int.reduceLE, Int.reduceMul, Int.reduceAdd, Int.reduceSub, Int.reduceNeg, Int.reduceToNat, ne_eq, decide_true, decide_false, eq_self, eIxD0, eIxD1, eTupD2, dsc_inj, eRAb, eRAt, eRAl, le_q0, fr_abs, sSize, sCommon, sBeyond, mZip, or_false, false_or, eRAd, eInT, eTupLd, eTupTr, tr_inj, ld_inj, rw_inj, eIxT0, eIxT1, eIxT2, eNeF, eEqF, eEqR, eRAtr, mEnum, eIxK0, eIxK1, eIxK2, r1]
  refine ⟨szc (by decide), szc (by decide), ?_⟩
  refine g2_mk ⟨f * f, [dx, dm, du], ⟨rfl, rfl⟩, ⟨Nat.le_of_ble_eq_true rfl, szc (by decide), mem3 (szc (by decide)) (szc (by decide)) (szc (by decide))⟩, ?_⟩
  have e5 : rwD (scl (f * f) [dx, dm, du]) = tr (f * f * dx) (f * f * dm) (f * f * du) := rfl
  rw [e5]
  try simp only [mRet, mRetN, mRetL, mIfS, mSeq, mNx, mPass, mExpr, mAsg, gSet, mVar, mC, mOp, mUn, mTB, mNotT, mAndT, mOrT, mAnd, mOr, mNot, mIf, mCons, mNil, mTup, mLst, mCall, mCallK, mSl, mOSome, mONone, mPar, mPar3, eTupD, eConsD, eNilD, eAdd1, eAdd2, eAdd3, eSub, eMul1, eMul2, eFdiv, eMod, ePow, eNeg, eLt, eLe, eGt, eGe, eEq1, eEq2, eNe1, eNe2, eIx1, eIx2, eIx3, eIx4, eSl1, eSl2, eSl3, eLen1, eLen2, eLen3, eAbs, eIntC, eMax2, eMin2, eList1, eList2, eList3, eTuple1, eTuple2, eAll, eAny, eIsi, eGcd2, eGcd3, eLcm, eIsqrt, eDivmod, eOne, eTwo, eThree, eB, eInt, eSeq1, eSeq2, eSeq3, eRng1, eRng2, eIsN, eNotN, gWset, mSeqI, mRng1, mRng2, startS, wipeS, List.map_cons, List.map_nil, List.length_cons, List.length_nil, List.replicate, List.cons_append, List.nil_append, List.append_nil, List.set, List.getElem?_cons_zero, List.getElem?_cons_succ, Option.some.injEq, SV.val.injEq, SV.own.injEq, exists_eq_left', exists_eq_left, true_and, and_true, Nat.reduceAdd, Nat.reduceSub, Nat.zero_add, ite_cr, D.tup.injEq, D.int.injEq, D.bl.injEq, D.lst.injEq, D.str.injEq, List.cons.injEq, reduceCtorEq, if_true, if_false, ite_true, ite_false, Bool.not_true, Bool.not_false, Bool.false_eq_true, not_true, not_false, Bool.true_and, Bool.and_true, Bool.false_and, Bool.and_false, decide_eq_true_eq, ask_int, ask_bool, ask_tuple, ask_list, ask_str, isSub_tuple, isTup_tup, int2, int3, at0, at1, at2, at3, pow2, eFour, ePr, e3I, ePrF, e3K, eFr, eFrF, eTupF, eTupK, eIxF0, eIxF1, fr_inj, nd, nd0, nd1, nd2, nd3, oo, zo, lit0, lit1, div1, ip2, Bool.not_eq_true', decide_eq_false_iff_not, sRat, sPlus, sMinus, sTimes, and_assoc, exists_and_left, Nat.reduceLeDiff, Nat.reduceLT, Int.reduceLT, Int.reduceLE, Int.reduceMul, Int.reduceAdd, Int.reduceSub, Int.reduceNeg, Int.reduceToNat, ne_eq, decide_true, decide_false, eq_self, eIxD0, eIxD1, eTupD2, dsc_inj, eRAb, eRAt, eRAl, le_q0, fr_abs, sSize, sCommon, sBeyond, mZip, or_false, false_or, eRAd, eInT, eTupLd, eTupTr, tr_inj, ld_inj, rw_inj, eIxT0, eIxT1, eIxT2, eNeF, eEqF, eEqR, eRAtr, mEnum, eIxK0, eIxK1, eIxK2, r1]
  exact hp _ (by omega)
theorem ok__law_lowest {c : Addr} (B : Bn mg) (DF : Df K mg "_law_lowest" s__law_lowest c) : Ok P w K mg base ⟨K, Tb⟩ "_law_lowest" ["_law_one", "_law_two", "_law_three"] 1 sLow3 := by
  have sc : FnScope ["_law_one", "_law_two", "_law_three", "_law_a", "_law_each", "_law_b"] ["_law_one", "_law_two", "_law_three"] (defScope s__law_lowest) := ⟨rfl, rfl, rfl, by decide +kernel, rfl, by decide +kernel, by decide +kernel⟩
  refine ok_D (N := ["_law_one", "_law_two", "_law_three", "_law_a", "_law_each", "_law_b"]) DF ⟨fun kV doc pm an cdv ct us hl => match us, hl with | [_, _, _], _ => rfl, fun kV doc pm an cdv ct p hp us hl => by simp only [kws, List.mem_cons, List.not_mem_nil, or_false] at hp; rcases hp with rfl | rfl | rfl | rfl | rfl | rfl <;> (match us, hl with | [_, _, _], _ => rfl)⟩ sc (fun ds P n h => by obtain ⟨_, _, _, rfl, _⟩ := g3_inv h; rfl) (fun A outer s H E wl f hr => (jss_cons (js_set (i := 3) sc.nd rfl (by first | exact Or.inl rfl | exact Or.inr rfl) (je_callB d_abs rfl B.abs Bt'.abs (ja_cons (je_var (pv 0)) ja_nil))) (jss_cut (js_for PassesOwn.never rfl (ji_seq rfl (je_tup (ja_cons (je_var (pv 1)) (ja_cons (je_var (pv 2)) ja_nil)))) (jg (i := 4) sc.nd) (jss_cons (js_set (i := 5) sc.nd rfl (by first | exact Or.inl rfl | exact Or.inr rfl) (je_callB d_abs rfl B.abs Bt'.abs (ja_cons (je_var (pv 4)) ja_nil))) (jss_one (js_while PassesOwn.never (jt_cmp d_gt (je_var (pv 5)) (je_int) (nomark _)) (jss_one (js_par (i := 3) (j := 5) rfl sc.nd rfl rfl (by decide) rfl rfl (je_var (pv 5)) (je_op d_mod (je_callTy d_int rfl B.int Bt'.int (ja_cons (je_var (pv 3)) ja_nil)) (je_var (pv 5))) rfl)))))) (jss_one (js_ret (je_tup (ja_cons (je_op d_fdiv (je_var (pv 0)) (je_var (pv 3))) (ja_cons (je_op d_fdiv (je_var (pv 1)) (je_var (pv 3))) (ja_cons (je_op d_fdiv (je_var (pv 2)) (je_var (pv 3))) ja_nil))))))))) ?_
  intro ds Pd n h
  replace h := low_old h
  obtain ⟨a, b, c, rfl, g0, ba, bb, bc, hp⟩ := h
  unfold mCut mFor
  simp only [mRet, mRetN, mRetL, mIfS, mSeq, mNx, mPass, mExpr, mAsg, gSet, mVar, mC, mOp, mUn, mTB, mNotT, mAndT, mOrT, mAnd, mOr, mNot, mIf, mCons, mNil, mTup, mLst, mCall, mCallK, mSl, mOSome, mONone, mPar, mPar3, eTupD, eConsD, eNilD, eAdd1, eAdd2, eAdd3, eSub, eMul1, eMul2, eFdiv, eMod, ePow, eNeg, eLt, eLe, eGt, eGe, eEq1, eEq2, eNe1, eNe2, eIx1, eIx2, eIx3, eIx4, eSl1, eSl2, eSl3, eLen1, eLen2, eLen3, eAbs, eIntC, eMax2, eMin2, eList1, eList2, eList3, eTuple1, eTuple2, eAll, eAny, eIsi, eGcd2, eGcd3, eLcm, eIsqrt, eDivmod, eOne, eTwo, eThree, eB, eInt, eSeq1, eSeq2, eSeq3, eRng1, eRng2, eIsN, eNotN, gWset, mSeqI, mRng1, mRng2, startS, wipeS, List.map_cons, List.map_nil, List.length_cons, List.length_nil, List.replicate, List.cons_append, List.nil_append, List.append_nil, List.set, List.getElem?_cons_zero, List.getElem?_cons_succ, Option.some.injEq, SV.val.injEq, SV.own.injEq, exists_eq_left', exists_eq_left, true_and, and_true, Nat.reduceAdd, Nat.reduceSub, Nat.zero_add, ite_cr, D.tup.injEq, D.int.injEq, D.bl.injEq, D.lst.injEq, D.str.injEq, List.cons.injEq, reduceCtorEq, if_true, if_false, ite_true, ite_false, Bool.not_true, Bool.not_false, Bool.false_eq_true, not_true, not_false, Bool.true_and, Bool.and_true, Bool.false_and, Bool.and_false, decide_eq_true_eq, ask_int, ask_bool, ask_tuple, ask_list, ask_str, isSub_tuple, isTup_tup, int2, int3, at0, at1, at2, at3, pow2]
  refine ⟨fun l u => ∃ (x : Int) (e f : Option SV), l = [some (SV.val (.int a)), some (SV.val (.int b)), some (SV.val (.int c)), some (SV.val (.int x)), e, f] ∧ 0 ≤ x ∧ x.natAbs = g3at a b c 2 ∧ u = n,
    ⟨by decide, fun i l u => ∃ (x : Int) (e f : Option SV), l = [some (SV.val (.int a)), some (SV.val (.int b)), some (SV.val (.int c)), some (SV.val (.int x)), e, f] ∧ 0 ≤ x ∧ x.natAbs = g3at a b c i ∧ u = n,
    ⟨_, _, _, rfl, abs_of.1, abs_of.2, rfl⟩, ?_, fun _ _ h => h⟩, ?_⟩
  · rintro i d l' c' hd ⟨x, e, f, rfl, x0, hx, rfl⟩
    obtain ⟨z, rfl, hz⟩ : ∃ z : Int, d = .int z ∧ Nat.gcd x.natAbs z.natAbs = g3at a b c (i + 1) := by
      match i, hd, hx with
      | 0, hd, hx => exact ⟨b, by simpa using hd.symm, by rw [hx]; rfl⟩
      | 1, hd, hx => exact ⟨c, by simpa using hd.symm, by rw [hx]; rfl⟩
    unfold mWhile
    simp only [mRet, mRetN, mRetL, mIfS, mSeq, mNx, mPass, mExpr, mAsg, gSet, mVar, mC, mOp, mUn, mTB, mNotT, mAndT, mOrT, mAnd, mOr, mNot, mIf, mCons, mNil, mTup, mLst, mCall, mCallK, mSl, mOSome, mONone, mPar, mPar3, eTupD, eConsD, eNilD, eAdd1, eAdd2, eAdd3, eSub, eMul1, eMul2, eFdiv, eMod, ePow, eNeg, eLt, eLe, eGt, eGe, eEq1, eEq2, eNe1, eNe2, eIx1, eIx2, eIx3, eIx4, eSl1, eSl2, eSl3, eLen1, eLen2, eLen3, eAbs, eIntC, eMax2, eMin2, eList1, eList2, eList3, eTuple1, eTuple2, eAll, eAny, eIsi, eGcd2, eGcd3, eLcm, eIsqrt, eDivmod, eOne, eTwo, eThree, eB, eInt, eSeq1, eSeq2, eSeq3, eRng1, eRng2, eIsN, eNotN, gWset, mSeqI, mRng1, mRng2, startS, wipeS, List.map_cons, List.map_nil, List.length_cons, List.length_nil, List.replicate, List.cons_append, List.nil_append, List.append_nil, List.set, List.getElem?_cons_zero, List.getElem?_cons_succ, Option.some.injEq, SV.val.injEq, SV.own.injEq, exists_eq_left', exists_eq_left, true_and, and_true, Nat.reduceAdd, Nat.reduceSub, Nat.zero_add, ite_cr, D.tup.injEq, D.int.injEq, D.bl.injEq, D.lst.injEq, D.str.injEq, List.cons.injEq, reduceCtorEq, if_true, if_false, ite_true, ite_false, Bool.not_true, Bool.not_false, Bool.false_eq_true, not_true, not_false, Bool.true_and, Bool.and_true, Bool.false_and, Bool.and_false, decide_eq_true_eq, ask_int, ask_bool, ask_tuple, ask_list, ask_str, isSub_tuple, isTup_tup, int2, int3, at0, at1, at2, at3, pow2]
    refine ⟨fun m l u => ∃ x y : Int, l = [some (SV.val (.int a)), some (SV.val (.int b)), some (SV.val (.int c)), some (SV.val (.int x)), some (SV.val (.int z)), some (SV.val (.int y))] ∧ 0 ≤ x ∧ 0 ≤ y ∧ Nat.gcd x.natAbs y.natAbs = g3at a b c (i + 1) ∧ m = y.natAbs ∧ u = c',
      ⟨_, _, _, rfl, x0, abs_of.1, by rw [abs_of.2]; exact hz, rfl, rfl⟩, ?_⟩
    rintro m l' u' ⟨x, y, rfl, x0, y0, hg, rfl, rfl⟩
    simp only [mRet, mRetN, mRetL, mIfS, mSeq, mNx, mPass, mExpr, mAsg, gSet, mVar, mC, mOp, mUn, mTB, mNotT, mAndT, mOrT, mAnd, mOr, mNot, mIf, mCons, mNil, mTup, mLst, mCall, mCallK, mSl, mOSome, mONone, mPar, mPar3, eTupD, eConsD, eNilD, eAdd1, eAdd2, eAdd3, eSub, eMul1, eMul2, eFdiv, eMod, ePow, eNeg, eLt, eLe, eGt, eGe, eEq1, eEq2, eNe1, eNe2, eIx1, eIx2, eIx3, eIx4, eSl1, eSl2, eSl3, eLen1, eLen2, eLen3, eAbs, eIntC, eMax2, eMin2, eList1, eList2, eList3, eTuple1, eTuple2, eAll, eAny, eIsi, eGcd2, eGcd3, eLcm, eIsqrt, eDivmod, eOne, eTwo, eThree, eB, eInt, eSeq1, eSeq2, eSeq3, eRng1, eRng2, eIsN, eNotN, gWset, mSeqI, mRng1, mRng2, startS, wipeS, List.map_cons, List.map_nil, List.length_cons, List.length_nil, List.replicate, List.cons_append, List.nil_append, List.append_nil, List.set, List.getElem?_cons_zero, List.getElem?_cons_succ, Option.some.injEq, SV.val.injEq, SV.own.injEq, exists_eq_left', exists_eq_left, true_and, and_true, Nat.reduceAdd, Nat.reduceSub, Nat.zero_add, ite_cr, D.tup.injEq, D.int.injEq, D.bl.injEq, D.lst.injEq, D.str.injEq, List.cons.injEq, reduceCtorEq, if_true, if_false, ite_true, ite_false, Bool.not_true, Bool.not_false, Bool.false_eq_true, not_true, not_false, Bool.true_and, Bool.and_true, Bool.false_and, Bool.and_false, decide_eq_true_eq, ask_int, ask_bool, ask_tuple, ask_list, ask_str, isSub_tuple, isTup_tup, int2, int3, at0, at1, at2, at3, pow2]
    by_cases hy : 0 < y
    · rw [if_pos hy]
      obtain ⟨e1, e2, e3⟩ := eucl x0 hy
      refine ⟨by omega, ?_⟩
      exact ⟨(x.fmod y).natAbs, by omega, _, _, ⟨rfl, rfl⟩, y0, e1, by rw [e3]; exact hg, rfl⟩
    · rw [if_neg hy]
      have : y = 0 := by omega
      subst this
      rw [Int.natAbs_zero, Nat.gcd_zero_right] at hg
      exact ⟨_, _, _, ⟨rfl, rfl, rfl⟩, x0, hg⟩
  · rintro l' c' ⟨x, e, f, rfl, x0, hg, rfl⟩
    simp only [mRet, mRetN, mRetL, mIfS, mSeq, mNx, mPass, mExpr, mAsg, gSet, mVar, mC, mOp, mUn, mTB, mNotT, mAndT, mOrT, mAnd, mOr, mNot, mIf, mCons, mNil, mTup, mLst, mCall, mCallK, mSl, mOSome, mONone, mPar, mPar3, eTupD, eConsD, eNilD, eAdd1, eAdd2, eAdd3, eSub, eMul1, eMul2, eFdiv, eMod, ePow, eNeg, eLt, eLe, eGt, eGe, eEq1, eEq2, eNe1, eNe2, eIx1, eIx2, eIx3, eIx4, eSl1, eSl2, eSl3, eLen1, eLen2, eLen3, eAbs, eIntC, eMax2, eMin2, eList1, eList2, eList3, eTuple1, eTuple2, eAll, eAny, eIsi, eGcd2, eGcd3, eLcm, eIsqrt, eDivmod, eOne, eTwo, eThree, eB, eInt, eSeq1, eSeq2, eSeq3, eRng1, eRng2, eIsN, eNotN, gWset, mSeqI, mRng1, mRng2, startS, wipeS, List.map_cons, List.map_nil, List.length_cons, List.length_nil, List.replicate, List.cons_append, List.nil_append, List.append_nil, List.set, List.getElem?_cons_zero, List.getElem?_cons_succ, Option.some.injEq, SV.val.injEq, SV.own.injEq, exists_eq_left', exists_eq_left, true_and, and_true, Nat.reduceAdd, Nat.reduceSub, Nat.zero_add, ite_cr, D.tup.injEq, D.int.injEq, D.bl.injEq, D.lst.injEq, D.str.injEq, List.cons.injEq, reduceCtorEq, if_true, if_false, ite_true, ite_false, Bool.not_true, Bool.not_false, Bool.false_eq_true, not_true, not_false, Bool.true_and, Bool.and_true, Bool.false_and, Bool.and_false, decide_eq_true_eq, ask_int, ask_bool, ask_tuple, ask_list, ask_str, isSub_tuple, isTup_tup, int2, int3, at0, at1, at2, at3, pow2]
    have hg : x.natAbs = Nat.gcd (Nat.gcd a.natAbs b.natAbs) c.natAbs := hg
    have xp : 0 < x := by omega
    have xl : x.natAbs ≤ a.natAbs ∨ x.natAbs ≤ b.natAbs ∨ x.natAbs ≤ c.natAbs := g3_le hg
    have xb : Bt 8000 x := by
      rcases xl with h | h | h
      · exact ba.le h
      · exact bb.le h
      · exact bc.le h
    have l1 := xb.log (k := 9000) (by decide) (by decide)
    have x0 : x ≠ 0 := by omega
    exact ⟨⟨x0, l1⟩, ⟨x0, l1⟩, ⟨x0, l1⟩, by decide, hp x xp hg⟩
theorem ok__law_kind {c : Addr} (B : Bn mg) (DF : Df K mg "_law_kind" s__law_kind c) (O__law_draw : Ok P w K mg base ⟨K, Tb⟩ "_law_draw" ["_law_well_here", "_law_many"] 1 sDraw) (O__law_lowest : Ok P w K mg base ⟨K, Tb⟩ "_law_lowest" ["_law_one", "_law_two", "_law_three"] 1 sLow3) : Ok P w K mg base ⟨K, Tb⟩ "_law_kind" ["_law_well_here"] 2 sDrawK := by
  have sc : FnScope ["_law_well_here", "_law_way", "_law_top", "_law_first", "_law_second", "_law_third"] ["_law_well_here"] (defScope s__law_kind) := ⟨rfl, rfl, rfl, by decide +kernel, rfl, by decide +kernel, by decide +kernel⟩
  refine ok_D (N := ["_law_well_here", "_law_way", "_law_top", "_law_first", "_law_second", "_law_third"]) DF ⟨fun kV doc pm an cdv ct us hl => match us, hl with | [_], _ => rfl, fun kV doc pm an cdv ct p hp us hl => by simp only [kws, List.mem_cons, List.not_mem_nil, or_false] at hp; rcases hp with rfl <;> (match us, hl with | [_], _ => rfl)⟩ sc (fun ds P n h => by obtain ⟨rfl, _⟩ := h; rfl) (fun A outer s H E wl f hr => (jss_cons (js_set (i := 1) sc.nd rfl (by first | exact Or.inl rfl | exact Or.inr rfl) (jc O__law_draw hr (ja_cons (je_var (pv 0)) (ja_cons (je_int) ja_nil)))) (jss_cut (js_set (i := 2) sc.nd rfl (by first | exact Or.inl rfl | exact Or.inr rfl) (je_if (jt_cmp d_lt (je_var (pv 1)) (je_int) (nomark _)) (je_int) (je_if (jt_cmp d_lt (je_var (pv 1)) (je_int) (nomark _)) (je_int) (je_int)))) (jss_cons (js_set (i := 3) sc.nd rfl (by first | exact Or.inl rfl | exact Or.inr rfl) (je_op d_sub (jc O__law_draw hr (ja_cons (je_var (pv 0)) (ja_cons (je_op (d_add rfl) (je_op d_mul (je_int) (je_var (pv 2))) (je_int)) ja_nil))) (je_var (pv 2)))) (jss_cons (js_set (i := 4) sc.nd rfl (by first | exact Or.inl rfl | exact Or.inr rfl) (je_op d_sub (jc O__law_draw hr (ja_cons (je_var (pv 0)) (ja_cons (je_op (d_add rfl) (je_op d_mul (je_int) (je_var (pv 2))) (je_int)) ja_nil))) (je_var (pv 2)))) (jss_cons (js_set (i := 5) sc.nd rfl (by first | exact Or.inl rfl | exact Or.inr rfl) (je_op d_sub (jc O__law_draw hr (ja_cons (je_var (pv 0)) (ja_cons (je_op (d_add rfl) (je_op d_mul (je_int) (je_var (pv 2))) (je_int)) ja_nil))) (je_var (pv 2)))) (jss_cons (js_if (jt_cmp d_le (je_op d_mul (je_var (pv 4)) (je_var (pv 4))) (je_op d_mul (je_var (pv 3)) (je_var (pv 5))) (nomark _)) (jss_one (js_set (i := 5) sc.nd rfl (by first | exact Or.inl rfl | exact Or.inr rfl) (je_op d_sub (je_int) (je_var (pv 5))))) jss_nil) (jss_cons (js_if (jt_cmp d_le (je_op d_mul (je_var (pv 4)) (je_var (pv 4))) (je_op d_mul (je_var (pv 3)) (je_var (pv 5))) (nomark _)) (jss_one (js_set (i := 4) sc.nd rfl (by first | exact Or.inl rfl | exact Or.inr rfl) (je_int))) jss_nil) (jss_one (js_ret (jc O__law_lowest hr (ja_cons (je_var (pv 3)) (ja_cons (je_var (pv 4)) (ja_cons (je_var (pv 5)) ja_nil)))))))))))))) ?_
  intro ds Pd n h
  obtain ⟨rfl, hn, hp⟩ := h
  unfold mCut
  simp only [mRet, mRetN, mRetL, mIfS, mSeq, mNx, mPass, mExpr, mAsg, gSet, mVar, mC, mOp, mUn, mTB, mNotT, mAndT, mOrT, mAnd, mOr, mNot, mIf, mCons, mNil, mTup, mLst, mCall, mCallK, mSl, mOSome, mONone, mPar, mPar3, eTupD, eConsD, eNilD, eAdd1, eAdd2, eAdd3, eSub, eMul1, eMul2, eFdiv, eMod, ePow, eNeg, eLt, eLe, eGt, eGe, eEq1, eEq2, eNe1, eNe2, eIx1, eIx2, eIx3, eIx4, eSl1, eSl2, eSl3, eLen1, eLen2, eLen3, eAbs, eIntC, eMax2, eMin2, eList1, eList2, eList3, eTuple1, eTuple2, eAll, eAny, eIsi, eGcd2, eGcd3, eLcm, eIsqrt, eDivmod, eOne, eTwo, eThree, eB, eInt, eSeq1, eSeq2, eSeq3, eRng1, eRng2, eIsN, eNotN, gWset, mSeqI, mRng1, mRng2, startS, wipeS, List.map_cons, List.map_nil, List.length_cons, List.length_nil, List.replicate, List.cons_append, List.nil_append, List.append_nil, List.set, List.getElem?_cons_zero, List.getElem?_cons_succ, Option.some.injEq, SV.val.injEq, SV.own.injEq, exists_eq_left', exists_eq_left, true_and, and_true, Nat.reduceAdd, Nat.reduceSub, Nat.zero_add, ite_cr, D.tup.injEq, D.int.injEq, D.bl.injEq, D.lst.injEq, D.str.injEq, List.cons.injEq, reduceCtorEq, if_true, if_false, ite_true, ite_false, Bool.not_true, Bool.not_false, Bool.false_eq_true, not_true, not_false, Bool.true_and, Bool.and_true, Bool.false_and, Bool.and_false, decide_eq_true_eq, ask_int, ask_bool, ask_tuple, ask_list, ask_str, isSub_tuple, isTup_tup, int2, int3, at0, at1, at2, at3, pow2, eFour, ePr, e3I, ePrF, e3K, eFr, eFrF, eTupF, eTupK, eIxF0, eIxF1, fr_inj, nd, nd0, nd1, nd2, nd3, oo, zo, lit0, lit1, div1, ip2, Bool.not_eq_true', decide_eq_false_iff_not, sRat, sPlus, sMinus, sTimes, and_assoc, exists_and_left, Nat.reduceLeDiff, Nat.reduceLT, Int.reduceLT, Int.reduceLE, Int.reduceMul, Int.reduceAdd, Int.reduceSub, Int.reduceNeg, Int.reduceToNat, ne_eq, decide_true, decide_false, eq_self, sDraw]
  refine ⟨by omega, fun w c1 w0 w1 h1 => ⟨fun l c => ∃ t : Int, l = [some (SV.val .well), some (SV.val (.int w)), some (SV.val (.int t)), none, none, none] ∧ 4 ≤ t ∧ t ≤ 1000000 ∧ c = c1, ?_, ?_⟩⟩
  · split
    · exact ⟨_, rfl, by decide, by decide, rfl⟩
    · split
      · exact ⟨_, rfl, by decide, by decide, rfl⟩
      · exact ⟨_, rfl, by decide, by decide, rfl⟩
  · rintro l' c' ⟨t, rfl, t0, t1, rfl⟩
    simp only [mRet, mRetN, mRetL, mIfS, mSeq, mNx, mPass, mExpr, mAsg, gSet, mVar, mC, mOp, mUn, mTB, mNotT, mAndT, mOrT, mAnd, mOr, mNot, mIf, mCons, mNil, mTup, mLst, mCall, mCallK, mSl, mOSome, mONone, mPar, mPar3, eTupD, eConsD, eNilD, eAdd1, eAdd2, eAdd3, eSub, eMul1, eMul2, eFdiv, eMod, ePow, eNeg, eLt, eLe, eGt, eGe, eEq1, eEq2, eNe1, eNe2, eIx1, eIx2, eIx3, eIx4, eSl1, eSl2, eSl3, eLen1, eLen2, eLen3, eAbs, eIntC, eMax2, eMin2, eList1, eList2, eList3, eTuple1, eTuple2, eAll, eAny, eIsi, eGcd2, eGcd3, eLcm, eIsqrt, eDivmod, eOne, eTwo, eThree, eB, eInt, eSeq1, eSeq2, eSeq3, eRng1, eRng2, eIsN, eNotN, gWset, mSeqI, mRng1, mRng2, startS, wipeS, List.map_cons, List.map_nil, List.length_cons, List.length_nil, List.replicate, List.cons_append, List.nil_append, List.append_nil, List.set, List.getElem?_cons_zero, List.getElem?_cons_succ, Option.some.injEq, SV.val.injEq, SV.own.injEq, exists_eq_left', exists_eq_left, true_and, and_true, Nat.reduceAdd, Nat.reduceSub, Nat.zero_add, ite_cr, D.tup.injEq, D.int.injEq, D.bl.injEq, D.lst.injEq, D.str.injEq, List.cons.injEq, reduceCtorEq, if_true, if_false, ite_true, ite_false, Bool.not_true, Bool.not_false, Bool.false_eq_true, not_true, not_false, Bool.true_and, Bool.and_true, Bool.false_and, Bool.and_false, decide_eq_true_eq, ask_int, ask_bool, ask_tuple, ask_list, ask_str, isSub_tuple, isTup_tup, int2, int3, at0, at1, at2, at3, pow2, eFour, ePr, e3I, ePrF, e3K, eFr, eFrF, eTupF, eTupK, eIxF0, eIxF1, fr_inj, nd, nd0, nd1, nd2, nd3, oo, zo, lit0, lit1, div1, ip2, Bool.not_eq_true', decide_eq_false_iff_not, sRat, sPlus, sMinus, sTimes, and_assoc, exists_and_left, Nat.reduceLeDiff, Nat.reduceLT, Int.reduceLT, Int.reduceLE, Int.reduceMul, Int.reduceAdd, Int.reduceSub, Int.reduceNeg, Int.reduceToNat, ne_eq, decide_true, decide_false, eq_self, sDraw, sLow3]
    refine ⟨cms (by decide) (by omega), by omega, by omega, by omega, fun x c2 x0 x1 h2 => ⟨cms (by decide) (by omega), by omega, by omega, by omega, fun y c3 y0 y1 h3 => ⟨cms (by decide) (by omega), by omega, by omega, by omega, fun z c4 z0 z1 h4 => ?_⟩⟩⟩
    have bx : (x - t).natAbs ≤ 1000000 := by omega
    have b_y : (y - t).natAbs ≤ 1000000 := by omega
    have bz : (z - t).natAbs ≤ 1000000 := by omega
    have bz2 : (0 - (z - t)).natAbs ≤ 1000000 := by omega
    have hq : ∀ a b c : Int, Bt 30 a → Bt 30 b → Bt 30 c → gcd3 a b c = 1 → 0 < b * b - a * c → Pd (.tup [.int a, .int b, .int c]) c4 := fun a b c h1 h2 h3 h4 h5 => hp a b c c4 h1 h2 h3 h4 h5 (by omega)
    refine ⟨cms (by omega) (by omega), cms (by omega) (by omega), ?_⟩
    split
    · rename_i k1
      refine ⟨cms (by omega) (by omega), cms (by omega) (by omega), ?_⟩
      split
      · rename_i k2
        exact drawn_kind bx (by decide) bz2 (one_ok k1 k2) hq
      · rename_i k2
        exact drawn_kind bx b_y bz2 k2 hq
    · rename_i k1
      refine ⟨cms (by omega) (by omega), cms (by omega) (by omega), ?_⟩
      exact drawn_kind bx b_y bz k1 hq
theorem ok__law_turned {c : Addr} (B : Bn mg) (DF : Df K mg "_law_turned" s__law_turned c) (O__law_plus : Ok P w K mg base ⟨K, Tb⟩ "_law_plus" ["_law_x", "_law_y"] 2 sPlus) (O__law_times : Ok P w K mg base ⟨K, Tb⟩ "_law_times" ["_law_x", "_law_y"] 2 sTimes) : Ok P w K mg base ⟨K, Tb⟩ "_law_turned" ["_law_p", "_law_t", "_law_row_here"] 3 sTurned := by
  have sc : FnScope ["_law_p", "_law_t", "_law_row_here", "_law_q", "_law_r", "_law_first"] ["_law_p", "_law_t", "_law_row_here"] (defScope s__law_turned) := ⟨rfl, rfl, rfl, by decide +kernel, rfl, by decide +kernel, by decide +kernel⟩
  refine ok_D (N := ["_law_p", "_law_t", "_law_row_here", "_law_q", "_law_r", "_law_first"]) DF ⟨fun kV doc pm an cdv ct us hl => match us, hl with | [_, _, _], _ => rfl, fun kV doc pm an cdv ct p hp us hl => by simp only [kws, List.mem_cons, List.not_mem_nil, or_false] at hp; rcases hp with rfl | rfl | rfl | rfl | rfl | rfl <;> (match us, hl with | [_, _, _], _ => rfl)⟩ sc (fun ds P n h => by obtain ⟨_, _, _, rfl, _⟩ := g3_inv h; rfl) (fun A outer s H E wl f hr => (jss_cons (js_asg (je_var (pv 2)) (jg_tup (n := 2) rfl rfl (jgs_cons (jg (i := 3) sc.nd) (jgs_cons (jg (i := 4) sc.nd) jgs_nil)))) (jss_cons (js_set (i := 5) sc.nd rfl (by first | exact Or.inl rfl | exact Or.inr rfl) (jc O__law_plus hr (ja_cons (jc O__law_times hr (ja_cons (je_var (pv 0)) (ja_cons (je_var (pv 3)) ja_nil))) (ja_cons (jc O__law_times hr (ja_cons (je_tup (ja_cons (je_op d_sub (je_int) (je_ix (d_ix rfl) (je_var (pv 1)) (je_int) (fun _ _ => rfl))) (ja_cons (je_ix (d_ix rfl) (je_var (pv 1)) (je_int) (fun _ _ => rfl)) ja_nil))) (ja_cons (je_var (pv 4)) ja_nil))) ja_nil)))) (jss_one (js_ret (je_tup (ja_cons (je_var (pv 5)) (ja_cons (jc O__law_plus hr (ja_cons (jc O__law_times hr (ja_cons (je_var (pv 1)) (ja_cons (je_var (pv 3)) ja_nil))) (ja_cons (jc O__law_times hr (ja_cons (je_var (pv 0)) (ja_cons (je_var (pv 4)) ja_nil))) ja_nil))) ja_nil)))))))) ?_
  intro ds Pd n h
  obtain ⟨d, e, f, rfl, p, t, q, r, ⟨rfl, rfl, rfl⟩, ⟨sp, st, sq, sr⟩, hp⟩ := g3_inv h
  haveI : SzP p 22 10 := ⟨sp⟩
  haveI : SzP t 22 10 := ⟨st⟩
  haveI : SzP q 24 11 := ⟨sq⟩
  haveI : SzP r 24 11 := ⟨sr⟩
  unfold rwD
  simp only [mRet, mRetN, mRetL, mIfS, mSeq, mNx, mPass, mExpr, mAsg, gSet, mVar, mC, mOp, mUn, mTB, mNotT, mAndT, mOrT, mAnd, mOr, mNot, mIf, mCons, mNil, mTup, mLst, mCall, mCallK, mSl, mOSome, mONone, mPar, mPar3, eTupD, eConsD, eNilD, eAdd1, eAdd2, eAdd3, eSub, eMul1, eMul2, eFdiv, eMod, ePow, eNeg, eLt, eLe, eGt, eGe, eEq1, eEq2, eNe1, eNe2, eIx1, eIx2, eIx3, eIx4, eSl1, eSl2, eSl3, eLen1, eLen2, eLen3, eAbs, eIntC, eMax2, eMin2, eList1, eList2, eList3, eTuple1, eTuple2, eAll, eAny, eIsi, eGcd2, eGcd3, eLcm, eIsqrt, eDivmod, eOne, eTwo, eThree, eB, eInt, eSeq1, eSeq2, eSeq3, eRng1, eRng2, eIsN, eNotN, gWset, mSeqI, mRng1, mRng2, startS, wipeS, List.map_cons, List.map_nil, List.length_cons, List.length_nil, List.replicate, List.cons_append, List.nil_append, List.append_nil, List.set, List.getElem?_cons_zero, List.getElem?_cons_succ, Option.some.injEq, SV.val.injEq, SV.own.injEq, exists_eq_left', exists_eq_left, true_and, and_true, Nat.reduceAdd, Nat.reduceSub, Nat.zero_add, ite_cr, D.tup.injEq, D.int.injEq, D.bl.injEq, D.lst.injEq, D.str.injEq, List.cons.injEq, reduceCtorEq, if_true, if_false, ite_true, ite_false, Bool.not_true, Bool.not_false, Bool.false_eq_true, not_true, not_false, Bool.true_and, Bool.and_true, Bool.false_and, Bool.and_false, decide_eq_true_eq, ask_int, ask_bool, ask_tuple, ask_list, ask_str, isSub_tuple, isTup_tup, int2, int3, at0, at1, at2, at3, pow2, eFour, ePr, e3I, ePrF, e3K, eFr, eFrF, eTupF, eTupK, eIxF0, eIxF1, fr_inj, nd, nd0, nd1, nd2, nd3, oo, zo, lit0, lit1, div1, ip2, Bool.not_eq_true', decide_eq_false_iff_not, sRat, sPlus, sMinus, sTimes, and_assoc, exists_and_left, Nat.reduceLeDiff, Nat.reduceLT, Int.reduceLT, Int.reduceLE, Int.reduceMul, Int.reduceAdd, Int.reduceSub, Int.reduceNeg, Int.reduceToNat, ne_eq, decide_true, decide_false, eq_self, eIxD0, eIxD1, eTupD2, dsc_inj, eRAb, eRAt, eRAl, le_q0, fr_abs, sSize, sCommon, sBeyond, mZip, or_false, false_or, eRAd, eInT, eTupLd, eTupTr, tr_inj, ld_inj, rw_inj, eIxT0, eIxT1, eIxT2, eNeF, eEqF, eEqR, eRAtr, mEnum, eIxK0, eIxK1, eIxK2, List.map_cons, List.map_nil]
  (repeat' (with_reducible apply And.intro)) <;> try (first | exact den_gt0 _ | exact szc (by decide) | exact s2c (by decide) | exact btd (by decide) | exact btn (by decide) | exact b0n (by decide) | exact b2n (by decide) | exact b02n (by decide) | exact cm2n (by decide) | exact cmq (by decide) | exact cmd (by decide) | exact cmdd (by decide) | exact cmdn (by decide) | exact b_lit (by decide) (by decide) | exact fun h => absurd h.1 (by decide) | exact fun h => absurd h.2.1 (by decide) | exact fun h => absurd h.2.2 (by decide) | exact fun h => absurd h.2 (by decide) | exact fun h => absurd h (by decide) | exact hp | assumption | omega)
theorem ok_excess {c : Addr} (B : Bn mg) (DF : Df K mg "excess" s_excess c) : Ok P w K mg base ⟨K, Tb⟩ "excess" ["cut"] 1 sExcess := by
  have sc : FnScope ["cut"] ["cut"] (defScope s_excess) := ⟨rfl, rfl, rfl, by decide +kernel, rfl, by decide +kernel, by decide +kernel⟩
  refine ok_D (N := ["cut"]) DF ⟨fun kV doc pm an cdv ct us hl => match us, hl with | [_], _ => rfl, fun kV doc pm an cdv ct p hp us hl => by simp only [kws, List.mem_cons, List.not_mem_nil, or_false] at hp; rcases hp with rfl <;> (match us, hl with | [_], _ => rfl)⟩ sc (fun ds P n h => by obtain ⟨_, _, _, rfl, _⟩ := h; rfl) (fun A outer s H E wl f hr => (jss_one (js_ret (je_op d_sub (je_op d_pow (je_ix (d_ix rfl) (je_var (pv 0)) (je_int) (fun _ _ => rfl)) (je_int)) (je_op d_mul (je_ix (d_ix rfl) (je_var (pv 0)) (je_int) (fun _ _ => rfl)) (je_ix (d_ix rfl) (je_var (pv 0)) (je_int) (fun _ _ => rfl))))))) ?_
  intro ds Pd n h
  obtain ⟨a, b, c, rfl, ⟨ba, bb, bc⟩, hp⟩ := h
  simp only [mRet, mRetN, mRetL, mIfS, mSeq, mNx, mPass, mExpr, mAsg, gSet, mVar, mC, mOp, mUn, mTB, mNotT, mAndT, mOrT, mAnd, mOr, mNot, mIf, mCons, mNil, mTup, mLst, mCall, mCallK, mSl, mOSome, mONone, mPar, mPar3, eTupD, eConsD, eNilD, eAdd1, eAdd2, eAdd3, eSub, eMul1, eMul2, eFdiv, eMod, ePow, eNeg, eLt, eLe, eGt, eGe, eEq1, eEq2, eNe1, eNe2, eIx1, eIx2, eIx3, eIx4, eSl1, eSl2, eSl3, eLen1, eLen2, eLen3, eAbs, eIntC, eMax2, eMin2, eList1, eList2, eList3, eTuple1, eTuple2, eAll, eAny, eIsi, eGcd2, eGcd3, eLcm, eIsqrt, eDivmod, eOne, eTwo, eThree, eB, eInt, eSeq1, eSeq2, eSeq3, eRng1, eRng2, eIsN, eNotN, gWset, mSeqI, mRng1, mRng2, startS, wipeS, List.map_cons, List.map_nil, List.length_cons, List.length_nil, List.replicate, List.cons_append, List.nil_append, List.append_nil, List.set, List.getElem?_cons_zero, List.getElem?_cons_succ, Option.some.injEq, SV.val.injEq, SV.own.injEq, exists_eq_left', exists_eq_left, true_and, and_true, Nat.reduceAdd, Nat.reduceSub, Nat.zero_add, ite_cr, D.tup.injEq, D.int.injEq, D.bl.injEq, D.lst.injEq, D.str.injEq, List.cons.injEq, reduceCtorEq, if_true, if_false, ite_true, ite_false, Bool.not_true, Bool.not_false, Bool.false_eq_true, not_true, not_false, Bool.true_and, Bool.and_true, Bool.false_and, Bool.and_false, decide_eq_true_eq, ask_int, ask_bool, ask_tuple, ask_list, ask_str, isSub_tuple, isTup_tup, int2, int3, at0, at1, at2, at3, pow2, pow2_ok bb, cm ba bc]
  exact hp
theorem ok_is_kind {c : Addr} (B : Bn mg) (DF : Df K mg "is_kind" s_is_kind c) (m_gcd : mg "gcd" = some (.builtin "math.gcd")) {Pt : Addr} (hP : Pt ∈ Tb) (TB : GxR.TabB base mg c Pt) (O_excess : Ok P w K mg base ⟨K, Tb⟩ "excess" ["cut"] 1 sExcess) (O_is_whole : Ok P w K mg base ⟨K, Tb⟩ "is_whole" ["value"] 1 sIsWhole) : Ok P w K mg base ⟨K, Tb⟩ "is_kind" ["value"] 3 sIsKind := by
  have sc : FnScope ["value", "first", "second", "third", "number"] ["value"] (defScope s_is_kind) := ⟨rfl, rfl, rfl, by decide +kernel, rfl, by decide +kernel, by decide +kernel⟩
  refine ok_D (N := ["value", "first", "second", "third", "number"]) DF ⟨fun kV doc pm an cdv ct us hl => match us, hl with | [_], _ => rfl, fun kV doc pm an cdv ct p hp us hl => by simp only [kws, List.mem_cons, List.not_mem_nil, or_false] at hp; rcases hp with rfl <;> (match us, hl with | [_], _ => rfl)⟩ sc (fun ds P n h => by obtain ⟨_, rfl, _⟩ := g1_inv h; rfl) (fun A outer s H E wl f hr => (jss_cons (js_if (PW.pt (jw_or (jt_not (jt_val (je_callB (d_isi rfl) rfl B.isinstance Bt'.isinstance (ja_cons (je_var (pv 0)) (ja_cons (je_ty rfl B.tuple Bt'.tuple) ja_nil))))) (jw_or1 (jt_cmp (d_ne rfl hr.cl) (je_callB (d_len rfl) rfl B.len Bt'.len (ja_cons (je_var (pv 0)) ja_nil)) (je_int) (nomark _))))) (jss_one (js_ret (je_bl))) jss_nil) (jss_cons (js_if (jt_not (jt_val (je_allG (own := [("number", 4)]) (k := 1) (hr.le (by decide)) rfl B.all rfl sc.nd hP TB rfl (ji_seq rfl (je_var (pv 0))) (gblk_by (by kernel_rfl)) (by decide) ⟨fun A s H C code fp pn hr => (jg (i := 4) sc.nd), fun A s H C code fp pn hr => jts_nil, fun A s H C code fp pn hr => (jc O_is_whole hr (ja_cons (je_var (pv 4)) ja_nil))⟩))) (jss_one (js_ret (je_bl))) jss_nil) (jss_cons (js_asg (je_var (pv 0)) (jg_tup (n := 3) rfl rfl (jgs_cons (jg (i := 1) sc.nd) (jgs_cons (jg (i := 2) sc.nd) (jgs_cons (jg (i := 3) sc.nd) jgs_nil))))) (jss_one (js_ret ((je_and (je_cmp (d_eq rfl hr.cl) (je_callF d_gcd3 rfl m_gcd (ja_cons (je_var (pv 1)) (ja_cons (je_var (pv 2)) (ja_cons (je_var (pv 3)) ja_nil)))) (je_int) (nomark _)) (je_one (je_cmp d_gt (jc O_excess hr (ja_cons (je_var (pv 0)) ja_nil)) (je_int) (nomark _))))))))))) ?_
  intro ds Pd n h
  obtain ⟨d, rfl, hf, hp⟩ := g1_inv h
  have ht := fine_ty hf
  by_cases hd : isTup d = true
  · obtain ⟨xs, rfl⟩ := isTup_iff.mp hd
    have hx := fine_tup.mp hf
    by_cases hl : xs.length = 3
    · match xs, hl, hx, hp, ht with
      | [a, b, c], _, hx, hp, ht =>
        simp only [mRet, mRetN, mRetL, mIfS, mSeq, mNx, mPass, mExpr, mAsg, gSet, mVar, mC, mOp, mUn, mTB, mNotT, mAndT, mOrT, mAnd, mOr, mNot, mIf, mCons, mNil, mTup, mLst, mCall, mCallK, mSl, mOSome, mONone, mPar, mPar3, eTupD, eConsD, eNilD, eAdd1, eAdd2, eAdd3, eSub, eMul1, eMul2, eFdiv, eMod, ePow, eNeg, eLt, eLe, eGt, eGe, eEq1, eEq2, eNe1, eNe2, eIx1, eIx2, eIx3, eIx4, eSl1, eSl2, eSl3, eLen1, eLen2, eLen3, eAbs, eIntC, eMax2, eMin2, eList1, eList2, eList3, eTuple1, eTuple2, eAll, eAny, eIsi, eGcd2, eGcd3, eLcm, eIsqrt, eDivmod, eOne, eTwo, eThree, eB, eInt, eSeq1, eSeq2, eSeq3, eRng1, eRng2, eIsN, eNotN, gWset, mSeqI, mRng1, mRng2, startS, wipeS, List.map_cons, List.map_nil, List.length_cons, List.length_nil, List.replicate, List.cons_append, List.nil_append, List.append_nil, List.set, List.getElem?_cons_zero, List.getElem?_cons_succ, Option.some.injEq, SV.val.injEq, SV.own.injEq, exists_eq_left', exists_eq_left, true_and, and_true, Nat.reduceAdd, Nat.reduceSub, Nat.zero_add, ite_cr, D.tup.injEq, D.int.injEq, D.bl.injEq, D.lst.injEq, D.str.injEq, List.cons.injEq, reduceCtorEq, if_true, if_false, ite_true, ite_false, Bool.not_true, Bool.not_false, Bool.false_eq_true, not_true, not_false, Bool.true_and, Bool.and_true, Bool.false_and, Bool.and_false, decide_eq_true_eq, ask_int, ask_bool, ask_tuple, ask_list, ask_str, isSub_tuple, isTup_tup, int2, int3, at0, at1, at2, at3, pow2, ht]
        unfold mAllG
        simp only [mRet, mRetN, mRetL, mIfS, mSeq, mNx, mPass, mExpr, mAsg, gSet, mVar, mC, mOp, mUn, mTB, mNotT, mAndT, mOrT, mAnd, mOr, mNot, mIf, mCons, mNil, mTup, mLst, mCall, mCallK, mSl, mOSome, mONone, mPar, mPar3, eTupD, eConsD, eNilD, eAdd1, eAdd2, eAdd3, eSub, eMul1, eMul2, eFdiv, eMod, ePow, eNeg, eLt, eLe, eGt, eGe, eEq1, eEq2, eNe1, eNe2, eIx1, eIx2, eIx3, eIx4, eSl1, eSl2, eSl3, eLen1, eLen2, eLen3, eAbs, eIntC, eMax2, eMin2, eList1, eList2, eList3, eTuple1, eTuple2, eAll, eAny, eIsi, eGcd2, eGcd3, eLcm, eIsqrt, eDivmod, eOne, eTwo, eThree, eB, eInt, eSeq1, eSeq2, eSeq3, eRng1, eRng2, eIsN, eNotN, gWset, mSeqI, mRng1, mRng2, startS, wipeS, List.map_cons, List.map_nil, List.length_cons, List.length_nil, List.replicate, List.cons_append, List.nil_append, List.append_nil, List.set, List.getElem?_cons_zero, List.getElem?_cons_succ, Option.some.injEq, SV.val.injEq, SV.own.injEq, exists_eq_left', exists_eq_left, true_and, and_true, Nat.reduceAdd, Nat.reduceSub, Nat.zero_add, ite_cr, D.tup.injEq, D.int.injEq, D.bl.injEq, D.lst.injEq, D.str.injEq, List.cons.injEq, reduceCtorEq, if_true, if_false, ite_true, ite_false, Bool.not_true, Bool.not_false, Bool.false_eq_true, not_true, not_false, Bool.true_and, Bool.and_true, Bool.false_and, Bool.and_false, decide_eq_true_eq, ask_int, ask_bool, ask_tuple, ask_list, ask_str, isSub_tuple, isTup_tup, int2, int3, at0, at1, at2, at3, pow2]
        refine mAllL_of (f := isWhole) (fun d hd yes no c h => ?_) ?_
        · unfold turnD
          simp only [mRet, mRetN, mRetL, mIfS, mSeq, mNx, mPass, mExpr, mAsg, gSet, mVar, mC, mOp, mUn, mTB, mNotT, mAndT, mOrT, mAnd, mOr, mNot, mIf, mCons, mNil, mTup, mLst, mCall, mCallK, mSl, mOSome, mONone, mPar, mPar3, eTupD, eConsD, eNilD, eAdd1, eAdd2, eAdd3, eSub, eMul1, eMul2, eFdiv, eMod, ePow, eNeg, eLt, eLe, eGt, eGe, eEq1, eEq2, eNe1, eNe2, eIx1, eIx2, eIx3, eIx4, eSl1, eSl2, eSl3, eLen1, eLen2, eLen3, eAbs, eIntC, eMax2, eMin2, eList1, eList2, eList3, eTuple1, eTuple2, eAll, eAny, eIsi, eGcd2, eGcd3, eLcm, eIsqrt, eDivmod, eOne, eTwo, eThree, eB, eInt, eSeq1, eSeq2, eSeq3, eRng1, eRng2, eIsN, eNotN, gWset, mSeqI, mRng1, mRng2, startS, wipeS, List.map_cons, List.map_nil, List.length_cons, List.length_nil, List.replicate, List.cons_append, List.nil_append, List.append_nil, List.set, List.getElem?_cons_zero, List.getElem?_cons_succ, Option.some.injEq, SV.val.injEq, SV.own.injEq, exists_eq_left', exists_eq_left, true_and, and_true, Nat.reduceAdd, Nat.reduceSub, Nat.zero_add, ite_cr, D.tup.injEq, D.int.injEq, D.bl.injEq, D.lst.injEq, D.str.injEq, List.cons.injEq, reduceCtorEq, if_true, if_false, ite_true, ite_false, Bool.not_true, Bool.not_false, Bool.false_eq_true, not_true, not_false, Bool.true_and, Bool.and_true, Bool.false_and, Bool.and_false, decide_eq_true_eq, ask_int, ask_bool, ask_tuple, ask_list, ask_str, isSub_tuple, isTup_tup, int2, int3, at0, at1, at2, at3, pow2, mYes, sIsWhole, hx d hd]
          exact h
        · by_cases wa : isWhole a = true
          · by_cases wb : isWhole b = true
            · by_cases wc : isWhole c = true
              · obtain ⟨i, rfl⟩ := isWhole_iff.mp wa
                obtain ⟨j, rfl⟩ := isWhole_iff.mp wb
                obtain ⟨k, rfl⟩ := isWhole_iff.mp wc
                have b1 := (fine_int.mp (hx (.int i) (by simp))).mono (show 1000 ≤ 9000 by decide)
                have b2 := (fine_int.mp (hx (.int j) (by simp))).mono (show 1000 ≤ 9000 by decide)
                have b3 := (fine_int.mp (hx (.int k) (by simp))).mono (show 1000 ≤ 9000 by decide)
                rw [kindB_int] at hp
                simp only [mRet, mRetN, mRetL, mIfS, mSeq, mNx, mPass, mExpr, mAsg, gSet, mVar, mC, mOp, mUn, mTB, mNotT, mAndT, mOrT, mAnd, mOr, mNot, mIf, mCons, mNil, mTup, mLst, mCall, mCallK, mSl, mOSome, mONone, mPar, mPar3, eTupD, eConsD, eNilD, eAdd1, eAdd2, eAdd3, eSub, eMul1, eMul2, eFdiv, eMod, ePow, eNeg, eLt, eLe, eGt, eGe, eEq1, eEq2, eNe1, eNe2, eIx1, eIx2, eIx3, eIx4, eSl1, eSl2, eSl3, eLen1, eLen2, eLen3, eAbs, eIntC, eMax2, eMin2, eList1, eList2, eList3, eTuple1, eTuple2, eAll, eAny, eIsi, eGcd2, eGcd3, eLcm, eIsqrt, eDivmod, eOne, eTwo, eThree, eB, eInt, eSeq1, eSeq2, eSeq3, eRng1, eRng2, eIsN, eNotN, gWset, mSeqI, mRng1, mRng2, startS, wipeS, List.map_cons, List.map_nil, List.length_cons, List.length_nil, List.replicate, List.cons_append, List.nil_append, List.append_nil, List.set, List.getElem?_cons_zero, List.getElem?_cons_succ, Option.some.injEq, SV.val.injEq, SV.own.injEq, exists_eq_left', exists_eq_left, true_and, and_true, Nat.reduceAdd, Nat.reduceSub, Nat.zero_add, ite_cr, D.tup.injEq, D.int.injEq, D.bl.injEq, D.lst.injEq, D.str.injEq, List.cons.injEq, reduceCtorEq, if_true, if_false, ite_true, ite_false, Bool.not_true, Bool.not_false, Bool.false_eq_true, not_true, not_false, Bool.true_and, Bool.and_true, Bool.false_and, Bool.and_false, decide_eq_true_eq, ask_int, ask_bool, ask_tuple, ask_list, ask_str, isSub_tuple, isTup_tup, int2, int3, at0, at1, at2, at3, pow2, List.all_cons, List.all_nil, isWhole_int, nat1]
                by_cases h1 : Nat.gcd (Nat.gcd i.natAbs j.natAbs) k.natAbs = 1
                · simp only [h1, decide_true, Bool.true_and, if_true] at hp ⊢
                  exact ⟨i, j, k, rfl, ⟨b1, b2, b3⟩, hp⟩
                · simp only [h1, decide_false, Bool.false_and, if_false] at hp ⊢
                  exact hp
              · rw [kindB_no (by rintro a b c h; cases h; exact wc rfl)] at hp
                simp only [mRet, mRetN, mRetL, mIfS, mSeq, mNx, mPass, mExpr, mAsg, gSet, mVar, mC, mOp, mUn, mTB, mNotT, mAndT, mOrT, mAnd, mOr, mNot, mIf, mCons, mNil, mTup, mLst, mCall, mCallK, mSl, mOSome, mONone, mPar, mPar3, eTupD, eConsD, eNilD, eAdd1, eAdd2, eAdd3, eSub, eMul1, eMul2, eFdiv, eMod, ePow, eNeg, eLt, eLe, eGt, eGe, eEq1, eEq2, eNe1, eNe2, eIx1, eIx2, eIx3, eIx4, eSl1, eSl2, eSl3, eLen1, eLen2, eLen3, eAbs, eIntC, eMax2, eMin2, eList1, eList2, eList3, eTuple1, eTuple2, eAll, eAny, eIsi, eGcd2, eGcd3, eLcm, eIsqrt, eDivmod, eOne, eTwo, eThree, eB, eInt, eSeq1, eSeq2, eSeq3, eRng1, eRng2, eIsN, eNotN, gWset, mSeqI, mRng1, mRng2, startS, wipeS, List.map_cons, List.map_nil, List.length_cons, List.length_nil, List.replicate, List.cons_append, List.nil_append, List.append_nil, List.set, List.getElem?_cons_zero, List.getElem?_cons_succ, Option.some.injEq, SV.val.injEq, SV.own.injEq, exists_eq_left', exists_eq_left, true_and, and_true, Nat.reduceAdd, Nat.reduceSub, Nat.zero_add, ite_cr, D.tup.injEq, D.int.injEq, D.bl.injEq, D.lst.injEq, D.str.injEq, List.cons.injEq, reduceCtorEq, if_true, if_false, ite_true, ite_false, Bool.not_true, Bool.not_false, Bool.false_eq_true, not_true, not_false, Bool.true_and, Bool.and_true, Bool.false_and, Bool.and_false, decide_eq_true_eq, ask_int, ask_bool, ask_tuple, ask_list, ask_str, isSub_tuple, isTup_tup, int2, int3, at0, at1, at2, at3, pow2, List.all_cons, List.all_nil, wa, wb, wc]
                exact hp
            · rw [kindB_no (by rintro a b c h; cases h; exact wb rfl)] at hp
              simp only [mRet, mRetN, mRetL, mIfS, mSeq, mNx, mPass, mExpr, mAsg, gSet, mVar, mC, mOp, mUn, mTB, mNotT, mAndT, mOrT, mAnd, mOr, mNot, mIf, mCons, mNil, mTup, mLst, mCall, mCallK, mSl, mOSome, mONone, mPar, mPar3, eTupD, eConsD, eNilD, eAdd1, eAdd2, eAdd3, eSub, eMul1, eMul2, eFdiv, eMod, ePow, eNeg, eLt, eLe, eGt, eGe, eEq1, eEq2, eNe1, eNe2, eIx1, eIx2, eIx3, eIx4, eSl1, eSl2, eSl3, eLen1, eLen2, eLen3, eAbs, eIntC, eMax2, eMin2, eList1, eList2, eList3, eTuple1, eTuple2, eAll, eAny, eIsi, eGcd2, eGcd3, eLcm, eIsqrt, eDivmod, eOne, eTwo, eThree, eB, eInt, eSeq1, eSeq2, eSeq3, eRng1, eRng2, eIsN, eNotN, gWset, mSeqI, mRng1, mRng2, startS, wipeS, List.map_cons, List.map_nil, List.length_cons, List.length_nil, List.replicate, List.cons_append, List.nil_append, List.append_nil, List.set, List.getElem?_cons_zero, List.getElem?_cons_succ, Option.some.injEq, SV.val.injEq, SV.own.injEq, exists_eq_left', exists_eq_left, true_and, and_true, Nat.reduceAdd, Nat.reduceSub, Nat.zero_add, ite_cr, D.tup.injEq, D.int.injEq, D.bl.injEq, D.lst.injEq, D.str.injEq, List.cons.injEq, reduceCtorEq, if_true, if_false, ite_true, ite_false, Bool.not_true, Bool.not_false, Bool.false_eq_true, not_true, not_false, Bool.true_and, Bool.and_true, Bool.false_and, Bool.and_false, decide_eq_true_eq, ask_int, ask_bool, ask_tuple, ask_list, ask_str, isSub_tuple, isTup_tup, int2, int3, at0, at1, at2, at3, pow2, List.all_cons, List.all_nil, wa, wb]
              exact hp
          · rw [kindB_no (by rintro a b c h; cases h; exact wa rfl)] at hp
            simp only [mRet, mRetN, mRetL, mIfS, mSeq, mNx, mPass, mExpr, mAsg, gSet, mVar, mC, mOp, mUn, mTB, mNotT, mAndT, mOrT, mAnd, mOr, mNot, mIf, mCons, mNil, mTup, mLst, mCall, mCallK, mSl, mOSome, mONone, mPar, mPar3, eTupD, eConsD, eNilD, eAdd1, eAdd2, eAdd3, eSub, eMul1, eMul2, eFdiv, eMod, ePow, eNeg, eLt, eLe, eGt, eGe, eEq1, eEq2, eNe1, eNe2, eIx1, eIx2, eIx3, eIx4, eSl1, eSl2, eSl3, eLen1, eLen2, eLen3, eAbs, eIntC, eMax2, eMin2, eList1, eList2, eList3, eTuple1, eTuple2, eAll, eAny, eIsi, eGcd2, eGcd3, eLcm, eIsqrt, eDivmod, eOne, eTwo, eThree, eB, eInt, eSeq1, eSeq2, eSeq3, eRng1, eRng2, eIsN, eNotN, gWset, mSeqI, mRng1, mRng2, startS, wipeS, List.map_cons, List.map_nil, List.length_cons, List.length_nil, List.replicate, List.cons_append, List.nil_append, List.append_nil, List.set, List.getElem?_cons_zero, List.getElem?_cons_succ, Option.some.injEq, SV.val.injEq, SV.own.injEq, exists_eq_left', exists_eq_left, true_and, and_true, Nat.reduceAdd, Nat.reduceSub, Nat.zero_add, ite_cr, D.tup.injEq, D.int.injEq, D.bl.injEq, D.lst.injEq, D.str.injEq, List.cons.injEq, reduceCtorEq, if_true, if_false, ite_true, ite_false, Bool.not_true, Bool.not_false, Bool.false_eq_true, not_true, not_false, Bool.true_and, Bool.and_true, Bool.false_and, Bool.and_false, decide_eq_true_eq, ask_int, ask_bool, ask_tuple, ask_list, ask_str, isSub_tuple, isTup_tup, int2, int3, at0, at1, at2, at3, pow2, List.all_cons, List.all_nil, wa]
            exact hp
    · rw [kindB_no (by rintro a b c h; cases h; exact hl rfl)] at hp
      have : ¬ ((xs.length : Nat) : Int) = 3 := by omega
      simp only [mRet, mRetN, mRetL, mIfS, mSeq, mNx, mPass, mExpr, mAsg, gSet, mVar, mC, mOp, mUn, mTB, mNotT, mAndT, mOrT, mAnd, mOr, mNot, mIf, mCons, mNil, mTup, mLst, mCall, mCallK, mSl, mOSome, mONone, mPar, mPar3, eTupD, eConsD, eNilD, eAdd1, eAdd2, eAdd3, eSub, eMul1, eMul2, eFdiv, eMod, ePow, eNeg, eLt, eLe, eGt, eGe, eEq1, eEq2, eNe1, eNe2, eIx1, eIx2, eIx3, eIx4, eSl1, eSl2, eSl3, eLen1, eLen2, eLen3, eAbs, eIntC, eMax2, eMin2, eList1, eList2, eList3, eTuple1, eTuple2, eAll, eAny, eIsi, eGcd2, eGcd3, eLcm, eIsqrt, eDivmod, eOne, eTwo, eThree, eB, eInt, eSeq1, eSeq2, eSeq3, eRng1, eRng2, eIsN, eNotN, gWset, mSeqI, mRng1, mRng2, startS, wipeS, List.map_cons, List.map_nil, List.length_cons, List.length_nil, List.replicate, List.cons_append, List.nil_append, List.append_nil, List.set, List.getElem?_cons_zero, List.getElem?_cons_succ, Option.some.injEq, SV.val.injEq, SV.own.injEq, exists_eq_left', exists_eq_left, true_and, and_true, Nat.reduceAdd, Nat.reduceSub, Nat.zero_add, ite_cr, D.tup.injEq, D.int.injEq, D.bl.injEq, D.lst.injEq, D.str.injEq, List.cons.injEq, reduceCtorEq, if_true, if_false, ite_true, ite_false, Bool.not_true, Bool.not_false, Bool.false_eq_true, not_true, not_false, Bool.true_and, Bool.and_true, Bool.false_and, Bool.and_false, decide_eq_true_eq, ask_int, ask_bool, ask_tuple, ask_list, ask_str, isSub_tuple, isTup_tup, int2, int3, at0, at1, at2, at3, pow2, ht, this, decide_false]
      exact hp
  · rw [kindB_no (by rintro a b c h; cases h; exact hd rfl)] at hp
    simp only [mRet, mRetN, mRetL, mIfS, mSeq, mNx, mPass, mExpr, mAsg, gSet, mVar, mC, mOp, mUn, mTB, mNotT, mAndT, mOrT, mAnd, mOr, mNot, mIf, mCons, mNil, mTup, mLst, mCall, mCallK, mSl, mOSome, mONone, mPar, mPar3, eTupD, eConsD, eNilD, eAdd1, eAdd2, eAdd3, eSub, eMul1, eMul2, eFdiv, eMod, ePow, eNeg, eLt, eLe, eGt, eGe, eEq1, eEq2, eNe1, eNe2, eIx1, eIx2, eIx3, eIx4, eSl1, eSl2, eSl3, eLen1, eLen2, eLen3, eAbs, eIntC, eMax2, eMin2, eList1, eList2, eList3, eTuple1, eTuple2, eAll, eAny, eIsi, eGcd2, eGcd3, eLcm, eIsqrt, eDivmod, eOne, eTwo, eThree, eB, eInt, eSeq1, eSeq2, eSeq3, eRng1, eRng2, eIsN, eNotN, gWset, mSeqI, mRng1, mRng2, startS, wipeS, List.map_cons, List.map_nil, List.length_cons, List.length_nil, List.replicate, List.cons_append, List.nil_append, List.append_nil, List.set, List.getElem?_cons_zero, List.getElem?_cons_succ, Option.some.injEq, SV.val.injEq, SV.own.injEq, exists_eq_left', exists_eq_left, true_and, and_true, Nat.reduceAdd, Nat.reduceSub, Nat.zero_add, ite_cr, D.tup.injEq, D.int.injEq, D.bl.injEq, D.lst.injEq, D.str.injEq, List.cons.injEq, reduceCtorEq, if_true, if_false, ite_true, ite_false, Bool.not_true, Bool.not_false, Bool.false_eq_true, not_true, not_false, Bool.true_and, Bool.and_true, Bool.false_and, Bool.and_false, decide_eq_true_eq, ask_int, ask_bool, ask_tuple, ask_list, ask_str, isSub_tuple, isTup_tup, int2, int3, at0, at1, at2, at3, pow2, ht, hd]
    exact hp
theorem ok_check_kind {c : Addr} (B : Bn mg) (DF : Df K mg "check_kind" s_check_kind c) (O_is_kind : Ok P w K mg base ⟨K, Tb⟩ "is_kind" ["value"] 3 sIsKind) : Ok P w K mg base ⟨K, Tb⟩ "check_kind" ["value"] 4 (sChk kindB) := by
  have sc : FnScope ["value"] ["value"] (defScope s_check_kind) := ⟨rfl, rfl, rfl, by decide +kernel, rfl, by decide +kernel, by decide +kernel⟩
  refine ok_D (N := ["value"]) DF ⟨fun kV doc pm an cdv ct us hl => match us, hl with | [_], _ => rfl, fun kV doc pm an cdv ct p hp us hl => by simp only [kws, List.mem_cons, List.not_mem_nil, or_false] at hp; rcases hp with rfl <;> (match us, hl with | [_], _ => rfl)⟩ sc (fun ds P n h => by obtain ⟨_, rfl, _⟩ := g1_inv h; rfl) (fun A outer s H E wl f hr => (jss_one (js_if (jt_not (jt_val (jc O_is_kind hr (ja_cons (je_var (pv 0)) ja_nil)))) (jss_one (js_never)) jss_nil))) ?_
  intro ds Pd n h
  obtain ⟨d, rfl, ⟨hf, hk⟩, hp⟩ := g1_inv h
  simp only [mRet, mRetN, mRetL, mIfS, mSeq, mNx, mPass, mExpr, mAsg, gSet, mVar, mC, mOp, mUn, mTB, mNotT, mAndT, mOrT, mAnd, mOr, mNot, mIf, mCons, mNil, mTup, mLst, mCall, mCallK, mSl, mOSome, mONone, mPar, mPar3, eTupD, eConsD, eNilD, eAdd1, eAdd2, eAdd3, eSub, eMul1, eMul2, eFdiv, eMod, ePow, eNeg, eLt, eLe, eGt, eGe, eEq1, eEq2, eNe1, eNe2, eIx1, eIx2, eIx3, eIx4, eSl1, eSl2, eSl3, eLen1, eLen2, eLen3, eAbs, eIntC, eMax2, eMin2, eList1, eList2, eList3, eTuple1, eTuple2, eAll, eAny, eIsi, eGcd2, eGcd3, eLcm, eIsqrt, eDivmod, eOne, eTwo, eThree, eB, eInt, eSeq1, eSeq2, eSeq3, eRng1, eRng2, eIsN, eNotN, gWset, mSeqI, mRng1, mRng2, startS, wipeS, List.map_cons, List.map_nil, List.length_cons, List.length_nil, List.replicate, List.cons_append, List.nil_append, List.append_nil, List.set, List.getElem?_cons_zero, List.getElem?_cons_succ, Option.some.injEq, SV.val.injEq, SV.own.injEq, exists_eq_left', exists_eq_left, true_and, and_true, Nat.reduceAdd, Nat.reduceSub, Nat.zero_add, ite_cr, D.tup.injEq, D.int.injEq, D.bl.injEq, D.lst.injEq, D.str.injEq, List.cons.injEq, reduceCtorEq, if_true, if_false, ite_true, ite_false, Bool.not_true, Bool.not_false, Bool.false_eq_true, not_true, not_false, Bool.true_and, Bool.and_true, Bool.false_and, Bool.and_false, decide_eq_true_eq, ask_int, ask_bool, ask_tuple, ask_list, ask_str, isSub_tuple, isTup_tup, int2, int3, at0, at1, at2, at3, pow2, eFour, ePr, e3I, ePrF, e3K, eFr, eFrF, eTupF, eTupK, eIxF0, eIxF1, fr_inj, nd, nd0, nd1, nd2, nd3, oo, zo, lit0, lit1, div1, ip2, Bool.not_eq_true', decide_eq_false_iff_not, sRat, sPlus, sMinus, sTimes, and_assoc, exists_and_left, Nat.reduceLeDiff, Nat.reduceLT, Int.reduceLT, Int.reduceLE, Int.reduceMul, Int.reduceAdd, Int.reduceSub, Int.reduceNeg, Int.reduceToNat, ne_eq, decide_true, decide_false, eq_self, sIsKind, hf, hk]
  exact hp
theorem ok_check_gap {c : Addr} (B : Bn mg) (DF : Df K mg "check_gap" s_check_gap c) (O_is_gap : Ok P w K mg base ⟨K, Tb⟩ "is_gap" ["value"] 5 sIsGap) : Ok P w K mg base ⟨K, Tb⟩ "check_gap" ["value"] 6 (sChk gapB) := by
  have sc : FnScope ["value"] ["value"] (defScope s_check_gap) := ⟨rfl, rfl, rfl, by decide +kernel, rfl, by decide +kernel, by decide +kernel⟩
  refine ok_D (N := ["value"]) DF ⟨fun kV doc pm an cdv ct us hl => match us, hl with | [_], _ => rfl, fun kV doc pm an cdv ct p hp us hl => by simp only [kws, List.mem_cons, List.not_mem_nil, or_false] at hp; rcases hp with rfl <;> (match us, hl with | [_], _ => rfl)⟩ sc (fun ds P n h => by obtain ⟨_, rfl, _⟩ := g1_inv h; rfl) (fun A outer s H E wl f hr => (jss_one (js_if (jt_not (jt_val (jc O_is_gap hr (ja_cons (je_var (pv 0)) ja_nil)))) (jss_one (js_never)) jss_nil))) ?_
  intro ds Pd n h
  obtain ⟨d, rfl, ⟨hf, hk⟩, hp⟩ := g1_inv h
  simp only [mRet, mRetN, mRetL, mIfS, mSeq, mNx, mPass, mExpr, mAsg, gSet, mVar, mC, mOp, mUn, mTB, mNotT, mAndT, mOrT, mAnd, mOr, mNot, mIf, mCons, mNil, mTup, mLst, mCall, mCallK, mSl, mOSome, mONone, mPar, mPar3, eTupD, eConsD, eNilD, eAdd1, eAdd2, eAdd3, eSub, eMul1, eMul2, eFdiv, eMod, ePow, eNeg, eLt, eLe, eGt, eGe, eEq1, eEq2, eNe1, eNe2, eIx1, eIx2, eIx3, eIx4, eSl1, eSl2, eSl3, eLen1, eLen2, eLen3, eAbs, eIntC, eMax2, eMin2, eList1, eList2, eList3, eTuple1, eTuple2, eAll, eAny, eIsi, eGcd2, eGcd3, eLcm, eIsqrt, eDivmod, eOne, eTwo, eThree, eB, eInt, eSeq1, eSeq2, eSeq3, eRng1, eRng2, eIsN, eNotN, gWset, mSeqI, mRng1, mRng2, startS, wipeS, List.map_cons, List.map_nil, List.length_cons, List.length_nil, List.replicate, List.cons_append, List.nil_append, List.append_nil, List.set, List.getElem?_cons_zero, List.getElem?_cons_succ, Option.some.injEq, SV.val.injEq, SV.own.injEq, exists_eq_left', exists_eq_left, true_and, and_true, Nat.reduceAdd, Nat.reduceSub, Nat.zero_add, ite_cr, D.tup.injEq, D.int.injEq, D.bl.injEq, D.lst.injEq, D.str.injEq, List.cons.injEq, reduceCtorEq, if_true, if_false, ite_true, ite_false, Bool.not_true, Bool.not_false, Bool.false_eq_true, not_true, not_false, Bool.true_and, Bool.and_true, Bool.false_and, Bool.and_false, decide_eq_true_eq, ask_int, ask_bool, ask_tuple, ask_list, ask_str, isSub_tuple, isTup_tup, int2, int3, at0, at1, at2, at3, pow2, eFour, ePr, e3I, ePrF, e3K, eFr, eFrF, eTupF, eTupK, eIxF0, eIxF1, fr_inj, nd, nd0, nd1, nd2, nd3, oo, zo, lit0, lit1, div1, ip2, Bool.not_eq_true', decide_eq_false_iff_not, sRat, sPlus, sMinus, sTimes, and_assoc, exists_and_left, Nat.reduceLeDiff, Nat.reduceLT, Int.reduceLT, Int.reduceLE, Int.reduceMul, Int.reduceAdd, Int.reduceSub, Int.reduceNeg, Int.reduceToNat, ne_eq, decide_true, decide_false, eq_self, sIsGap, hf, hk]
  exact hp
theorem ok_form {c : Addr} (B : Bn mg) (DF : Df K mg "form" s_form c) : Ok P w K mg base ⟨K, Tb⟩ "form" ["cut", "gap"] 1 sForm2 := by
  have sc : FnScope ["cut", "gap"] ["cut", "gap"] (defScope s_form) := ⟨rfl, rfl, rfl, by decide +kernel, rfl, by decide +kernel, by decide +kernel⟩
  refine ok_D (N := ["cut", "gap"]) DF ⟨fun kV doc pm an cdv ct us hl => match us, hl with | [_, _], _ => rfl, fun kV doc pm an cdv ct p hp us hl => by simp only [kws, List.mem_cons, List.not_mem_nil, or_false] at hp; rcases hp with rfl | rfl <;> (match us, hl with | [_, _], _ => rfl)⟩ sc (fun ds P n h => by obtain ⟨_, _, rfl, _⟩ := g2_inv h; rfl) (fun A outer s H E wl f hr => (jss_one (js_ret (je_op (d_add rfl) (je_op d_sub (je_op d_mul (je_ix (d_ix rfl) (je_var (pv 0)) (je_int) (fun _ _ => rfl)) (je_ix (d_ix rfl) (je_var (pv 1)) (je_int) (fun _ _ => rfl))) (je_op d_mul (je_op d_mul (je_int) (je_ix (d_ix rfl) (je_var (pv 0)) (je_int) (fun _ _ => rfl))) (je_ix (d_ix rfl) (je_var (pv 1)) (je_int) (fun _ _ => rfl)))) (je_op d_mul (je_ix (d_ix rfl) (je_var (pv 0)) (je_int) (fun _ _ => rfl)) (je_ix (d_ix rfl) (je_var (pv 1)) (je_int) (fun _ _ => rfl))))))) ?_
  intro ds Pd n h
  obtain ⟨d, e, rfl, h1⟩ := g2_inv h
  obtain ⟨A, B', C, rfl, h2⟩ := g3I_inv h1
  obtain ⟨a, b, c, rfl, ⟨⟨bA, bB, bC⟩, ba, bb, bc⟩, hp⟩ := g3I_inv h2
  have t2 : Bt 2 (2 : Int) := by unfold Bt; decide
  simp only [mRet, mRetN, mRetL, mIfS, mSeq, mNx, mPass, mExpr, mAsg, gSet, mVar, mC, mOp, mUn, mTB, mNotT, mAndT, mOrT, mAnd, mOr, mNot, mIf, mCons, mNil, mTup, mLst, mCall, mCallK, mSl, mOSome, mONone, mPar, mPar3, eTupD, eConsD, eNilD, eAdd1, eAdd2, eAdd3, eSub, eMul1, eMul2, eFdiv, eMod, ePow, eNeg, eLt, eLe, eGt, eGe, eEq1, eEq2, eNe1, eNe2, eIx1, eIx2, eIx3, eIx4, eSl1, eSl2, eSl3, eLen1, eLen2, eLen3, eAbs, eIntC, eMax2, eMin2, eList1, eList2, eList3, eTuple1, eTuple2, eAll, eAny, eIsi, eGcd2, eGcd3, eLcm, eIsqrt, eDivmod, eOne, eTwo, eThree, eB, eInt, eSeq1, eSeq2, eSeq3, eRng1, eRng2, eIsN, eNotN, gWset, mSeqI, mRng1, mRng2, startS, wipeS, List.map_cons, List.map_nil, List.length_cons, List.length_nil, List.replicate, List.cons_append, List.nil_append, List.append_nil, List.set, List.getElem?_cons_zero, List.getElem?_cons_succ, Option.some.injEq, SV.val.injEq, SV.own.injEq, exists_eq_left', exists_eq_left, true_and, and_true, Nat.reduceAdd, Nat.reduceSub, Nat.zero_add, ite_cr, D.tup.injEq, D.int.injEq, D.bl.injEq, D.lst.injEq, D.str.injEq, List.cons.injEq, reduceCtorEq, if_true, if_false, ite_true, ite_false, Bool.not_true, Bool.not_false, Bool.false_eq_true, not_true, not_false, Bool.true_and, Bool.and_true, Bool.false_and, Bool.and_false, decide_eq_true_eq, ask_int, ask_bool, ask_tuple, ask_list, ask_str, isSub_tuple, isTup_tup, int2, int3, at0, at1, at2, at3, pow2, eFour, ePr, e3I, ePrF, e3K, eFr, eFrF, eTupF, eTupK, eIxF0, eIxF1, fr_inj, nd, nd0, nd1, nd2, nd3, oo, zo, lit0, lit1, div1, ip2, Bool.not_eq_true', decide_eq_false_iff_not, sRat, sPlus, sMinus, sTimes, and_assoc, exists_and_left, Nat.reduceLeDiff, Nat.reduceLT, Int.reduceLT, Int.reduceLE, Int.reduceMul, Int.reduceAdd, Int.reduceSub, Int.reduceNeg, Int.reduceToNat, ne_eq, decide_true, decide_false, eq_self]
  exact ⟨cm bA bc, cm t2 bB, cm (t2.mul bB) bb, cm bC ba, hp⟩
theorem ok_holds {c : Addr} (B : Bn mg) (DF : Df K mg "holds" s_holds c) (O_check_kind : Ok P w K mg base ⟨K, Tb⟩ "check_kind" ["value"] 4 (sChk kindB)) (O_check_gap : Ok P w K mg base ⟨K, Tb⟩ "check_gap" ["value"] 6 (sChk gapB)) (O_form : Ok P w K mg base ⟨K, Tb⟩ "form" ["cut", "gap"] 1 sForm2) (O_whole_parts : Ok P w K mg base ⟨K, Tb⟩ "whole_parts" ["fractions"] 3 sWholeQ) : Ok P w K mg base ⟨K, Tb⟩ "holds" ["kind", "gap"] 7 sHolds7 := by
  have sc : FnScope ["kind", "gap"] ["kind", "gap"] (defScope s_holds) := ⟨rfl, rfl, rfl, by decide +kernel, rfl, by decide +kernel, by decide +kernel⟩
  refine ok_D (N := ["kind", "gap"]) DF ⟨fun kV doc pm an cdv ct us hl => match us, hl with | [_, _], _ => rfl, fun kV doc pm an cdv ct p hp us hl => by simp only [kws, List.mem_cons, List.not_mem_nil, or_false] at hp; rcases hp with rfl | rfl <;> (match us, hl with | [_, _], _ => rfl)⟩ sc (fun ds P n h => by obtain ⟨_, _, rfl, _⟩ := g2_inv h; rfl) (fun A outer s H E wl f hr => (jss_cons (js_expr (jc O_check_kind hr (ja_cons (je_var (pv 0)) ja_nil))) (jss_cons (js_expr (jc O_check_gap hr (ja_cons (je_var (pv 1)) ja_nil))) (jss_one (js_ret (je_cmp d_le (jc O_form hr (ja_cons (je_var (pv 0)) (ja_cons (jc O_whole_parts hr (ja_cons (je_var (pv 1)) ja_nil)) ja_nil))) (je_int) (nomark _))))))) ?_
  intro ds Pd n h
  obtain ⟨d, e, rfl, A, B', C, a, b, c, ⟨rfl, rfl⟩, hk, ⟨sa, sb, sc⟩, ⟨a0, c0, ac, bb⟩, hp⟩ := g2_inv h
  have hs : ∀ q ∈ [a, b, c], Sz 1000 q := mem3 sa sb sc
  have hB : ∀ q ∈ [a, b, c], Bt 6000 (wq [a, b, c] q) := fun q hq => (wq_bt hs hq).mono (by simp)
  have gf : (tr a b c).fine = true := gap_fine sa sb sc
  have gg : gapB (tr a b c) = true := gapB_fr a0 c0 ac bb
  simp only [mRet, mRetN, mRetL, mIfS, mSeq, mNx, mPass, mExpr, mAsg, gSet, mVar, mC, mOp, mUn, mTB, mNotT, mAndT, mOrT, mAnd, mOr, mNot, mIf, mCons, mNil, mTup, mLst, mCall, mCallK, mSl, mOSome, mONone, mPar, mPar3, eTupD, eConsD, eNilD, eAdd1, eAdd2, eAdd3, eSub, eMul1, eMul2, eFdiv, eMod, ePow, eNeg, eLt, eLe, eGt, eGe, eEq1, eEq2, eNe1, eNe2, eIx1, eIx2, eIx3, eIx4, eSl1, eSl2, eSl3, eLen1, eLen2, eLen3, eAbs, eIntC, eMax2, eMin2, eList1, eList2, eList3, eTuple1, eTuple2, eAll, eAny, eIsi, eGcd2, eGcd3, eLcm, eIsqrt, eDivmod, eOne, eTwo, eThree, eB, eInt, eSeq1, eSeq2, eSeq3, eRng1, eRng2, eIsN, eNotN, gWset, mSeqI, mRng1, mRng2, startS, wipeS, List.map_cons, List.map_nil, List.length_cons, List.length_nil, List.replicate, List.cons_append, List.nil_append, List.append_nil, List.set, List.getElem?_cons_zero, List.getElem?_cons_succ, Option.some.injEq, SV.val.injEq, SV.own.injEq, exists_eq_left', exists_eq_left, true_and, and_true, Nat.reduceAdd, Nat.reduceSub, Nat.zero_add, ite_cr, D.tup.injEq, D.int.injEq, D.bl.injEq, D.lst.injEq, D.str.injEq, List.cons.injEq, reduceCtorEq, if_true, if_false, ite_true, ite_false, Bool.not_true, Bool.not_false, Bool.false_eq_true, not_true, not_false, Bool.true_and, Bool.and_true, Bool.false_and, Bool.and_false, decide_eq_true_eq, ask_int, ask_bool, ask_tuple, ask_list, ask_str, isSub_tuple, isTup_tup, int2, int3, at0, at1, at2, at3, pow2, eFour, ePr, e3I, ePrF, e3K, eFr, eFrF, eTupF, eTupK, eIxF0, eIxF1, fr_inj, nd, nd0, nd1, nd2, nd3, oo, zo, lit0, lit1, div1, ip2, Bool.not_eq_true', decide_eq_false_iff_not, sRat, sPlus, sMinus, sTimes, and_assoc, exists_and_left, Nat.reduceLeDiff, Nat.reduceLT, Int.reduceLT, Int.reduceLE, Int.reduceMul, Int.reduceAdd, Int.reduceSub, Int.reduceNeg, Int.reduceToNat, ne_eq, decide_true, decide_false, eq_self, eIxD0, eIxD1, eTupD2, dsc_inj, eRAb, eRAt, eRAl, le_q0, fr_abs, sSize, sCommon, sBeyond, mZip, or_false, false_or, eRAd, eInT, eTupLd, eTupTr, tr_inj, ld_inj, rw_inj, eIxT0, eIxT1, eIxT2, eNeF, eEqF, eEqR, eRAtr, mEnum, eIxK0, eIxK1, eIxK2, sChk, hk.fine (by decide), hk.kindB, gf, gg]
  refine whole3 (k := 1000) (by decide) (by decide) hs ?_
  simp only [mRet, mRetN, mRetL, mIfS, mSeq, mNx, mPass, mExpr, mAsg, gSet, mVar, mC, mOp, mUn, mTB, mNotT, mAndT, mOrT, mAnd, mOr, mNot, mIf, mCons, mNil, mTup, mLst, mCall, mCallK, mSl, mOSome, mONone, mPar, mPar3, eTupD, eConsD, eNilD, eAdd1, eAdd2, eAdd3, eSub, eMul1, eMul2, eFdiv, eMod, ePow, eNeg, eLt, eLe, eGt, eGe, eEq1, eEq2, eNe1, eNe2, eIx1, eIx2, eIx3, eIx4, eSl1, eSl2, eSl3, eLen1, eLen2, eLen3, eAbs, eIntC, eMax2, eMin2, eList1, eList2, eList3, eTuple1, eTuple2, eAll, eAny, eIsi, eGcd2, eGcd3, eLcm, eIsqrt, eDivmod, eOne, eTwo, eThree, eB, eInt, eSeq1, eSeq2, eSeq3, eRng1, eRng2, eIsN, eNotN, gWset, mSeqI, mRng1, mRng2, startS, wipeS, List.map_cons, List.map_nil, List.length_cons, List.length_nil, List.replicate, List.cons_append, List.nil_append, List.append_nil, List.set, List.getElem?_cons_zero, List.getElem?_cons_succ, Option.some.injEq, SV.val.injEq, SV.own.injEq, exists_eq_left', exists_eq_left, true_and, and_true, Nat.reduceAdd, Nat.reduceSub, Nat.zero_add, ite_cr, D.tup.injEq, D.int.injEq, D.bl.injEq, D.lst.injEq, D.str.injEq, List.cons.injEq, reduceCtorEq, if_true, if_false, ite_true, ite_false, Bool.not_true, Bool.not_false, Bool.false_eq_true, not_true, not_false, Bool.true_and, Bool.and_true, Bool.false_and, Bool.and_false, decide_eq_true_eq, ask_int, ask_bool, ask_tuple, ask_list, ask_str, isSub_tuple, isTup_tup, int2, int3, at0, at1, at2, at3, pow2, eFour, ePr, e3I, ePrF, e3K, eFr, eFrF, eTupF, eTupK, eIxF0, eIxF1, fr_inj, nd, nd0, nd1, nd2, nd3, oo, zo, lit0, lit1, div1, ip2, Bool.not_eq_true', decide_eq_false_iff_not, sRat, sPlus, sMinus, sTimes, and_assoc, exists_and_left, Nat.reduceLeDiff, Nat.reduceLT, Int.reduceLT, Int.reduceLE, Int.reduceMul, Int.reduceAdd, Int.reduceSub, Int.reduceNeg, Int.reduceToNat, ne_eq, decide_true, decide_false, eq_self, eIxD0, eIxD1, eTupD2, dsc_inj, eRAb, eRAt, eRAl, le_q0, fr_abs, sSize, sCommon, sBeyond, mZip, or_false, false_or, eRAd, eInT, eTupLd, eTupTr, tr_inj, ld_inj, rw_inj, eIxT0, eIxT1, eIxT2, eNeF, eEqF, eEqR, eRAtr, mEnum, eIxK0, eIxK1, eIxK2, sForm2, eKI]
  refine ⟨hk.1.mono (by decide), hk.2.1.mono (by decide), hk.2.2.1.mono (by decide), hB _ (by simp), hB _ (by simp), hB _ (by simp), ?_⟩
  have e3 := form_iff hk.dR hs (show a ∈ [a, b, c] by simp) (show b ∈ [a, b, c] by simp) (show c ∈ [a, b, c] by simp)
  rw [k3_int hk.2.2.2.1] at e3
  simp only [e3]
  exact hp
theorem ok_opposite {c : Addr} (B : Bn mg) (DF : Df K mg "opposite" s_opposite c) : Ok P w K mg base ⟨K, Tb⟩ "opposite" ["fraction"] 1 sOpp := by
  have sc : FnScope ["fraction"] ["fraction"] (defScope s_opposite) := ⟨rfl, rfl, rfl, by decide +kernel, rfl, by decide +kernel, by decide +kernel⟩
  refine ok_D (N := ["fraction"]) DF ⟨fun kV doc pm an cdv ct us hl => match us, hl with | [_], _ => rfl, fun kV doc pm an cdv ct p hp us hl => by simp only [kws, List.mem_cons, List.not_mem_nil, or_false] at hp; rcases hp with rfl <;> (match us, hl with | [_], _ => rfl)⟩ sc (fun ds P n h => by obtain ⟨_, rfl, _⟩ := g1_inv h; rfl) (fun A outer s H E wl f hr => (jss_one (js_ret (je_tup (ja_cons (je_un d_neg (je_ix (d_ix rfl) (je_var (pv 0)) (je_int) (fun _ _ => rfl))) (ja_cons (je_ix (d_ix rfl) (je_var (pv 0)) (je_int) (fun _ _ => rfl)) ja_nil)))))) ?_
  intro ds Pd n h
  obtain ⟨d, rfl, q, rfl, hp⟩ := g1_inv h
  simp only [mRet, mRetN, mRetL, mIfS, mSeq, mNx, mPass, mExpr, mAsg, gSet, mVar, mC, mOp, mUn, mTB, mNotT, mAndT, mOrT, mAnd, mOr, mNot, mIf, mCons, mNil, mTup, mLst, mCall, mCallK, mSl, mOSome, mONone, mPar, mPar3, eTupD, eConsD, eNilD, eAdd1, eAdd2, eAdd3, eSub, eMul1, eMul2, eFdiv, eMod, ePow, eNeg, eLt, eLe, eGt, eGe, eEq1, eEq2, eNe1, eNe2, eIx1, eIx2, eIx3, eIx4, eSl1, eSl2, eSl3, eLen1, eLen2, eLen3, eAbs, eIntC, eMax2, eMin2, eList1, eList2, eList3, eTuple1, eTuple2, eAll, eAny, eIsi, eGcd2, eGcd3, eLcm, eIsqrt, eDivmod, eOne, eTwo, eThree, eB, eInt, eSeq1, eSeq2, eSeq3, eRng1, eRng2, eIsN, eNotN, gWset, mSeqI, mRng1, mRng2, startS, wipeS, List.map_cons, List.map_nil, List.length_cons, List.length_nil, List.replicate, List.cons_append, List.nil_append, List.append_nil, List.set, List.getElem?_cons_zero, List.getElem?_cons_succ, Option.some.injEq, SV.val.injEq, SV.own.injEq, exists_eq_left', exists_eq_left, true_and, and_true, Nat.reduceAdd, Nat.reduceSub, Nat.zero_add, ite_cr, D.tup.injEq, D.int.injEq, D.bl.injEq, D.lst.injEq, D.str.injEq, List.cons.injEq, reduceCtorEq, if_true, if_false, ite_true, ite_false, Bool.not_true, Bool.not_false, Bool.false_eq_true, not_true, not_false, Bool.true_and, Bool.and_true, Bool.false_and, Bool.and_false, decide_eq_true_eq, ask_int, ask_bool, ask_tuple, ask_list, ask_str, isSub_tuple, isTup_tup, int2, int3, at0, at1, at2, at3, pow2, eFour, ePr, e3I, ePrF, e3K, eFr, eFrF, eTupF, eTupK, eIxF0, eIxF1, fr_inj, nd, nd0, nd1, nd2, nd3, oo, zo, lit0, lit1, div1, ip2, Bool.not_eq_true', decide_eq_false_iff_not, sRat, sPlus, sMinus, sTimes, and_assoc, exists_and_left, Nat.reduceLeDiff, Nat.reduceLT, Int.reduceLT, Int.reduceLE, Int.reduceMul, Int.reduceAdd, Int.reduceSub, Int.reduceNeg, Int.reduceToNat, ne_eq, decide_true, decide_false, eq_self, eIxD0, eIxD1, eTupD2, dsc_inj, eRAb, eRAt, eRAl, le_q0, fr_abs, sSize, sCommon, sBeyond, mZip, or_false, false_or, eRAd, eInT, eTupLd, eTupTr, tr_inj, ld_inj, rw_inj, eIxT0, eIxT1, eIxT2, eNeF, eEqF, eEqR, eRAtr, mEnum, eIxK0, eIxK1, eIxK2, fr_neg]
  exact hp
theorem ok_made_turn {c : Addr} (B : Bn mg) (DF : Df K mg "made_turn" s_made_turn c) (O_opposite : Ok P w K mg base ⟨K, Tb⟩ "opposite" ["fraction"] 1 sOpp) : Ok P w K mg base ⟨K, Tb⟩ "made_turn" ["first", "second"] 2 sMadeT := by
  have sc : FnScope ["first", "second"] ["first", "second"] (defScope s_made_turn) := ⟨rfl, rfl, rfl, by decide +kernel, rfl, by decide +kernel, by decide +kernel⟩
  refine ok_D (N := ["first", "second"]) DF ⟨fun kV doc pm an cdv ct us hl => match us, hl with | [_, _], _ => rfl, fun kV doc pm an cdv ct p hp us hl => by simp only [kws, List.mem_cons, List.not_mem_nil, or_false] at hp; rcases hp with rfl | rfl <;> (match us, hl with | [_, _], _ => rfl)⟩ sc (fun ds P n h => by obtain ⟨_, _, rfl, _⟩ := g2_inv h; rfl) (fun A outer s H E wl f hr => (jss_one (js_ret (je_tup (ja_cons (je_tup (ja_cons (je_var (pv 0)) (ja_cons (jc O_opposite hr (ja_cons (je_var (pv 1)) ja_nil)) ja_nil))) (ja_cons (je_tup (ja_cons (je_var (pv 1)) (ja_cons (je_var (pv 0)) ja_nil))) ja_nil)))))) ?_
  intro ds Pd n hh
  obtain ⟨d, e', rfl, p, t, ⟨rfl, rfl⟩, hp⟩ := g2_inv hh
  simp only [mRet, mRetN, mRetL, mIfS, mSeq, mNx, mPass, mExpr, mAsg, gSet, mVar, mC, mOp, mUn, mTB, mNotT, mAndT, mOrT, mAnd, mOr, mNot, mIf, mCons, mNil, mTup, mLst, mCall, mCallK, mSl, mOSome, mONone, mPar, mPar3, eTupD, eConsD, eNilD, eAdd1, eAdd2, eAdd3, eSub, eMul1, eMul2, eFdiv, eMod, ePow, eNeg, eLt, eLe, eGt, eGe, eEq1, eEq2, eNe1, eNe2, eIx1, eIx2, eIx3, eIx4, eSl1, eSl2, eSl3, eLen1, eLen2, eLen3, eAbs, eIntC, eMax2, eMin2, eList1, eList2, eList3, eTuple1, eTuple2, eAll, eAny, eIsi, eGcd2, eGcd3, eLcm, eIsqrt, eDivmod, eOne, eTwo, eThree, eB, eInt, eSeq1, eSeq2, eSeq3, eRng1, eRng2, eIsN, eNotN, gWset, mSeqI, mRng1, mRng2, startS, wipeS, List.map_cons, List.map_nil, List.length_cons, List.length_nil, List.replicate, List.cons_append, List.nil_append, List.append_nil, List.set, List.getElem?_cons_zero, List.getElem?_cons_succ, Option.some.injEq, SV.val.injEq, SV.own.injEq, exists_eq_left', exists_eq_left, true_and, and_true, Nat.reduceAdd, Nat.reduceSub, Nat.zero_add, ite_cr, D.tup.injEq, D.int.injEq, D.bl.injEq, D.lst.injEq, D.str.injEq, List.cons.injEq, reduceCtorEq, if_true, if_false, ite_true, ite_false, Bool.not_true, Bool.not_false, Bool.false_eq_true, not_true, not_false, Bool.true_and, Bool.and_true, Bool.false_and, Bool.and_false, decide_eq_true_eq, ask_int, ask_bool, ask_tuple, ask_list, ask_str, isSub_tuple, isTup_tup, int2, int3, at0, at1, at2, at3, pow2, eFour, ePr, e3I, ePrF, e3K, eFr, eFrF, eTupF, eTupK, eIxF0, eIxF1, fr_inj, nd, nd0, nd1, nd2, nd3, oo, zo, lit0, lit1, div1, ip2, Bool.not_eq_true', decide_eq_false_iff_not, sRat, sPlus, sMinus, sTimes, and_assoc, exists_and_left, Nat.reduceLeDiff, Nat.reduceLT, Int.reduceLT, Int.reduceLE, Int.reduceMul, Int.reduceAdd, Int.reduceSub, Int.reduceNeg, Int.reduceToNat, ne_eq, decide_true, decide_false, eq_self, eIxD0, eIxD1, eTupD2, dsc_inj, eRAb, eRAt, eRAl, le_q0, fr_abs, sSize, sCommon, sBeyond, mZip, or_false, false_or, eRAd, eInT, eTupLd, eTupTr, tr_inj, ld_inj, rw_inj, eIxT0, eIxT1, eIxT2, eNeF, eEqF, eEqR, eRAtr, mEnum, eIxK0, eIxK1, eIxK2]
  refine g1_mk ⟨t, rfl, ?_⟩
  simp only [mRet, mRetN, mRetL, mIfS, mSeq, mNx, mPass, mExpr, mAsg, gSet, mVar, mC, mOp, mUn, mTB, mNotT, mAndT, mOrT, mAnd, mOr, mNot, mIf, mCons, mNil, mTup, mLst, mCall, mCallK, mSl, mOSome, mONone, mPar, mPar3, eTupD, eConsD, eNilD, eAdd1, eAdd2, eAdd3, eSub, eMul1, eMul2, eFdiv, eMod, ePow, eNeg, eLt, eLe, eGt, eGe, eEq1, eEq2, eNe1, eNe2, eIx1, eIx2, eIx3, eIx4, eSl1, eSl2, eSl3, eLen1, eLen2, eLen3, eAbs, eIntC, eMax2, eMin2, eList1, eList2, eList3, eTuple1, eTuple2, eAll, eAny, eIsi, eGcd2, eGcd3, eLcm, eIsqrt, eDivmod, eOne, eTwo, eThree, eB, eInt, eSeq1, eSeq2, eSeq3, eRng1, eRng2, eIsN, eNotN, gWset, mSeqI, mRng1, mRng2, startS, wipeS, List.map_cons, List.map_nil, List.length_cons, List.length_nil, List.replicate, List.cons_append, List.nil_append, List.append_nil, List.set, List.getElem?_cons_zero, List.getElem?_cons_succ, Option.some.injEq, SV.val.injEq, SV.own.injEq, exists_eq_left', exists_eq_left, true_and, and_true, Nat.reduceAdd, Nat.reduceSub, Nat.zero_add, ite_cr, D.tup.injEq, D.int.injEq, D.bl.injEq, D.lst.injEq, D.str.injEq, List.cons.injEq, reduceCtorEq, if_true, if_false, ite_true, ite_false, Bool.not_true, Bool.not_false, Bool.false_eq_true, not_true, not_false, Bool.true_and, Bool.and_true, Bool.false_and, Bool.and_false, decide_eq_true_eq, ask_int, ask_bool, ask_tuple, ask_list, ask_str, isSub_tuple, isTup_tup, int2, int3, at0, at1, at2, at3, pow2, eFour, ePr, e3I, ePrF, e3K, eFr, eFrF, eTupF, eTupK, eIxF0, eIxF1, fr_inj, nd, nd0, nd1, nd2, nd3, oo, zo, lit0, lit1, div1, ip2, Bool.not_eq_true', decide_eq_false_iff_not, sRat, sPlus, sMinus, sTimes, and_assoc, exists_and_left, Nat.reduceLeDiff, Nat.reduceLT, Int.reduceLT, Int.reduceLE, Int.reduceMul, Int.reduceAdd, Int.reduceSub, Int.reduceNeg, Int.reduceToNat, ne_eq, decide_true, decide_false, eq_self, eIxD0, eIxD1, eTupD2, dsc_inj, eRAb, eRAt, eRAl, le_q0, fr_abs, sSize, sCommon, sBeyond, mZip, or_false, false_or, eRAd, eInT, eTupLd, eTupTr, tr_inj, ld_inj, rw_inj, eIxT0, eIxT1, eIxT2, eNeF, eEqF, eEqR, eRAtr, mEnum, eIxK0, eIxK1, eIxK2, ld_eta]
  exact hp
theorem ok_turn_for {c : Addr} (B : Bn mg) (DF : Df K mg "turn_for" s_turn_for c) (m_isqrt : mg "isqrt" = some (.builtin "math.isqrt")) (O_check_gap : Ok P w K mg base ⟨K, Tb⟩ "check_gap" ["value"] 6 (sChk gapB)) (O_whole_parts : Ok P w K mg base ⟨K, Tb⟩ "whole_parts" ["fractions"] 3 sWholeQ) (O_made_turn : Ok P w K mg base ⟨K, Tb⟩ "made_turn" ["first", "second"] 2 sMadeT) (O_ratio : Ok P w K mg base ⟨K, Tb⟩ "ratio" ["top", "bottom"] 1 sRat) : Ok P w K mg base ⟨K, Tb⟩ "turn_for" ["gap"] 7 sTurnFor := by
  have sc : FnScope ["gap", "first", "second", "third", "square", "root"] ["gap"] (defScope s_turn_for) := ⟨rfl, rfl, rfl, by decide +kernel, rfl, by decide +kernel, by decide +kernel⟩
  refine ok_D (N := ["gap", "first", "second", "third", "square", "root"]) DF ⟨fun kV doc pm an cdv ct us hl => match us, hl with | [_], _ => rfl, fun kV doc pm an cdv ct p hp us hl => by simp only [kws, List.mem_cons, List.not_mem_nil, or_false] at hp; rcases hp with rfl <;> (match us, hl with | [_], _ => rfl)⟩ sc (fun ds P n h => by obtain ⟨_, rfl, _⟩ := g1_inv h; rfl) (fun A outer s H E wl f hr => (jss_cons (js_expr (jc O_check_gap hr (ja_cons (je_var (pv 0)) ja_nil))) (jss_cons (js_asg (jc O_whole_parts hr (ja_cons (je_var (pv 0)) ja_nil)) (jg_tup (n := 3) rfl rfl (jgs_cons (jg (i := 1) sc.nd) (jgs_cons (jg (i := 2) sc.nd) (jgs_cons (jg (i := 3) sc.nd) jgs_nil))))) (jss_cons (js_set (i := 4) sc.nd rfl (by first | exact Or.inl rfl | exact Or.inr rfl) (je_op d_sub (je_op d_mul (je_var (pv 1)) (je_var (pv 3))) (je_op d_pow (je_var (pv 2)) (je_int)))) (jss_cons (js_set (i := 5) sc.nd rfl (by first | exact Or.inl rfl | exact Or.inr rfl) (je_callF d_isqrt rfl m_isqrt (ja_cons (je_var (pv 4)) ja_nil))) (jss_cons (js_if (PW.pt (jw_or (jt_cmp (d_eq rfl hr.cl) (je_var (pv 1)) (je_int) (nomark _)) (jw_or1 (jt_cmp (d_ne rfl hr.cl) (je_op d_mul (je_var (pv 5)) (je_var (pv 5))) (je_var (pv 4)) (nomark _))))) (jss_one (js_ret (je_non))) jss_nil) (jss_one (js_ret (jc O_made_turn hr (ja_cons (jc O_ratio hr (ja_cons (je_var (pv 2)) (ja_cons (je_var (pv 1)) ja_nil))) (ja_cons (jc O_ratio hr (ja_cons (je_var (pv 5)) (ja_cons (je_var (pv 1)) ja_nil))) ja_nil))))))))))) ?_
  intro ds Pd n hh
  obtain ⟨d, rfl, w, p, t, rfl, ⟨sa, sb, sc'⟩, w0, hp⟩ := g1_inv hh
  have w2 : ∀ {q : Rat}, Sz 250 q → Sz 1000 q := fun h => h.mono (by decide)
  have hs : ∀ q ∈ [w, w * p, w * (p * p + t * t)], Sz 250 q := mem3 sa sb sc'
  have pt := sq_nnq p
  have tt := sq_nnq t
  have gf : (tr w (w * p) (w * (p * p + t * t))).fine = true := gap_fine (w2 sa) (w2 sb) (w2 sc')
  have c0 : 0 ≤ w * (p * p + t * t) := Rat.mul_nonneg (Rat.le_of_lt w0) (by grind)
  have bb : w * p * (w * p) ≤ w * (w * (p * p + t * t)) := by
    have := Rat.mul_nonneg (Rat.mul_nonneg (Rat.le_of_lt w0) (Rat.le_of_lt w0)) tt
    grind
  have gg : gapB (tr w (w * p) (w * (p * p + t * t))) = true := gapB_fr (Rat.le_of_lt w0) c0 (by grind) bb
  have L0 : (0 : Rat) < ((lq [w, w * p, w * (p * p + t * t)] : Nat) : Rat) := by rw [show (0 : Rat) = ((0 : Nat) : Rat) from rfl]; exact Rat.natCast_lt_natCast.mpr (lq_pos hs).1
  have e1 := wq_is (qs := [w, w * p, w * (p * p + t * t)]) (q := w) (by simp)
  have e2 := wq_is (qs := [w, w * p, w * (p * p + t * t)]) (q := w * p) (by simp)
  have e3 := wq_is (qs := [w, w * p, w * (p * p + t * t)]) (q := w * (p * p + t * t)) (by simp)
  have b1 : Bt 1001 (wq [w, w * p, w * (p * p + t * t)] w) := (wq_bt hs (by simp)).mono (by simp)
  have b2 : Bt 1001 (wq [w, w * p, w * (p * p + t * t)] (w * p)) := (wq_bt hs (by simp)).mono (by simp)
  have b3 : Bt 1001 (wq [w, w * p, w * (p * p + t * t)] (w * (p * p + t * t))) := (wq_bt hs (by simp)).mono (by simp)
  simp only [mRet, mRetN, mRetL, mIfS, mSeq, mNx, mPass, mExpr, mAsg, gSet, mVar, mC, mOp, mUn, mTB, mNotT, mAndT, mOrT, mAnd, mOr, mNot, mIf, mCons, mNil, mTup, mLst, mCall, mCallK, mSl, mOSome, mONone, mPar, mPar3, eTupD, eConsD, eNilD, eAdd1, eAdd2, eAdd3, eSub, eMul1, eMul2, eFdiv, eMod, ePow, eNeg, eLt, eLe, eGt, eGe, eEq1, eEq2, eNe1, eNe2, eIx1, eIx2, eIx3, eIx4, eSl1, eSl2, eSl3, eLen1, eLen2, eLen3, eAbs, eIntC, eMax2, eMin2, eList1, eList2, eList3, eTuple1, eTuple2, eAll, eAny, eIsi, eGcd2, eGcd3, eLcm, eIsqrt, eDivmod, eOne, eTwo, eThree, eB, eInt, eSeq1, eSeq2, eSeq3, eRng1, eRng2, eIsN, eNotN, gWset, mSeqI, mRng1, mRng2, startS, wipeS, List.map_cons, List.map_nil, List.length_cons, List.length_nil, List.replicate, List.cons_append, List.nil_append, List.append_nil, List.set, List.getElem?_cons_zero, List.getElem?_cons_succ, Option.some.injEq, SV.val.injEq, SV.own.injEq, exists_eq_left', exists_eq_left, true_and, and_true, Nat.reduceAdd, Nat.reduceSub, Nat.zero_add, ite_cr, D.tup.injEq, D.int.injEq, D.bl.injEq, D.lst.injEq, D.str.injEq, List.cons.injEq, reduceCtorEq, if_true, if_false, ite_true, ite_false, Bool.not_true, Bool.not_false, Bool.false_eq_true, not_true, not_false, Bool.true_and, Bool.and_true, Bool.false_and, Bool.and_false, decide_eq_true_eq, ask_int, ask_bool, ask_tuple, ask_list, ask_str, isSub_tuple, isTup_tup, int2, int3, at0, at1, at2, at3, pow2, eFour, ePr, e3I, ePrF, e3K, eFr, eFrF, eTupF, eTupK, eIxF0, eIxF1, fr_inj, nd, nd0, nd1, nd2, nd3, oo, zo, lit0, lit1, div1, ip2, Bool.not_eq_true', decide_eq_false_iff_not, sRat, sPlus, sMinus, sTimes, and_assoc, exists_and_left, Nat.reduceLeDiff, Nat.reduceLT, Int.reduceLT, Int.reduceLE, Int.reduceMul, Int.reduceAdd, Int.reduceSub, Int.reduceNeg, Int.reduceToNat, ne_eq, decide_true, decide_false, eq_self, eIxD0, eIxD1, eTupD2, dsc_inj, eRAb, eRAt, eRAl, le_q0, fr_abs, sSize, sCommon, sBeyond, mZip, or_false, false_or, eRAd, eInT, eTupLd, eTupTr, tr_inj, ld_inj, rw_inj, eIxT0, eIxT1, eIxT2, eNeF, eEqF, eEqR, eRAtr, mEnum, eIxK0, eIxK1, eIxK2, sChk, gf, gg]
  refine whole3 (k := 250) (by decide) (by decide) hs ?_
  generalize wq [w, w * p, w * (p * p + t * t)] w = i at *
  generalize wq [w, w * p, w * (p * p + t * t)] (w * p) = j at *
  generalize wq [w, w * p, w * (p * p + t * t)] (w * (p * p + t * t)) = k at *
  generalize ((lq [w, w * p, w * (p * p + t * t)] : Nat) : Rat) = L at *
  have hN : ((i * k - j * j : Int) : Rat) = L * w * t * (L * w * t) := by
    simp only [Rat.intCast_sub, Rat.intCast_mul, e1, e2, e3]; grind
  obtain ⟨m, m1, m0, m2, m3⟩ := isq_of hN
  have Lw := Rat.mul_pos L0 w0
  have i0 : 0 < i := by rw [← Rat.intCast_pos, e1]; exact Lw
  have mb : Bt 1001 m ∨ True := .inr trivial
  have N0 : 0 ≤ i * k - j * j := by rw [← m2]; exact Int.mul_nonneg m0 m0
  have bN : Bt 3000 (i * k - j * j) := ((b1.mul b3).sub (b2.mul b2)).mono (by decide)
  have bm : Bt 3000 m := by
    refine bN.le ?_
    rw [← m2, Int.natAbs_mul]
    rcases Nat.eq_zero_or_pos m.natAbs with h | h
    · rw [h]; decide
    · exact Nat.le_mul_of_pos_left _ h
  simp only [mRet, mRetN, mRetL, mIfS, mSeq, mNx, mPass, mExpr, mAsg, gSet, mVar, mC, mOp, mUn, mTB, mNotT, mAndT, mOrT, mAnd, mOr, mNot, mIf, mCons, mNil, mTup, mLst, mCall, mCallK, mSl, mOSome, mONone, mPar, mPar3, eTupD, eConsD, eNilD, eAdd1, eAdd2, eAdd3, eSub, eMul1, eMul2, eFdiv, eMod, ePow, eNeg, eLt, eLe, eGt, eGe, eEq1, eEq2, eNe1, eNe2, eIx1, eIx2, eIx3, eIx4, eSl1, eSl2, eSl3, eLen1, eLen2, eLen3, eAbs, eIntC, eMax2, eMin2, eList1, eList2, eList3, eTuple1, eTuple2, eAll, eAny, eIsi, eGcd2, eGcd3, eLcm, eIsqrt, eDivmod, eOne, eTwo, eThree, eB, eInt, eSeq1, eSeq2, eSeq3, eRng1, eRng2, eIsN, eNotN, gWset, mSeqI, mRng1, mRng2, startS, wipeS, List.map_cons, List.map_nil, List.length_cons, List.length_nil, List.replicate, List.cons_append, List.nil_append, List.append_nil, List.set, List.getElem?_cons_zero, List.getElem?_cons_succ, Option.some.injEq, SV.val.injEq, SV.own.injEq, exists_eq_left', exists_eq_left, true_and, and_true, Nat.reduceAdd, Nat.reduceSub, Nat.zero_add, ite_cr, D.tup.injEq, D.int.injEq, D.bl.injEq, D.lst.injEq, D.str.injEq, List.cons.injEq, reduceCtorEq, if_true, if_false, ite_true, ite_false, Bool.not_true, Bool.not_false, Bool.false_eq_true, not_true, not_false, Bool.true_and, Bool.and_true, Bool.false_and, Bool.and_false, decide_eq_true_eq, ask_int, ask_bool, ask_tuple, ask_list, ask_str, isSub_tuple, isTup_tup, int2, int3, at0, at1, at2, at3, pow2, eFour, ePr, e3I, ePrF, e3K, eFr, eFrF, eTupF, eTupK, eIxF0, eIxF1, fr_inj, nd, nd0, nd1, nd2, nd3, oo, zo, lit0, lit1, div1, ip2, Bool.not_eq_true', decide_eq_false_iff_not, sRat, sPlus, sMinus, sTimes, and_assoc, exists_and_left, Nat.reduceLeDiff, Nat.reduceLT, Int.reduceLT, Int.reduceLE, Int.reduceMul, Int.reduceAdd, Int.reduceSub, Int.reduceNeg, Int.reduceToNat, ne_eq, decide_true, decide_false, eq_self, eIxD0, eIxD1, eTupD2, dsc_inj, eRAb, eRAt, eRAl, le_q0, fr_abs, sSize, sCommon, sBeyond, mZip, or_false, false_or, eRAd, eInT, eTupLd, eTupTr, tr_inj, ld_inj, rw_inj, eIxT0, eIxT1, eIxT2, eNeF, eEqF, eEqR, eRAtr, mEnum, eIxK0, eIxK1, eIxK2, eTupKI, pow_ok b2, m3, m2]
  refine ⟨cm b1 b3, N0, bN.mono (by decide), ?_⟩
  have ine : ¬ i = 0 := by omega
  rw [if_neg ine]
  have q1 : (j : Rat) / (i : Rat) = p := by
    rw [e1, e2]
    have : L * w ≠ 0 := by grind
    rw [show L * (w * p) = L * w * p by grind, Rat.div_def]
    have := Rat.mul_inv_cancel _ this
    grind
  have q2 : (m : Rat) / (i : Rat) = qabs t := by
    rw [e1, m1]
    have h1 : L * w ≠ 0 := by grind
    have h2 : qabs (L * w * t) = L * w * qabs t := by
      unfold qabs
      by_cases ht : t < 0
      · rw [if_pos ht]
        have := Rat.mul_pos Lw (show 0 < -t by grind)
        rw [if_pos (by grind)]; grind
      · rw [if_neg ht]
        have := Rat.mul_nonneg (Rat.le_of_lt Lw) (Rat.not_lt.mp ht)
        rw [if_neg (by grind)]
    rw [h2, Rat.div_def]
    have := Rat.mul_inv_cancel _ h1
    grind
  rw [q1, q2]
  refine ⟨cm bm bm, ine, b2.mono (by decide), b1.mono (by decide), ine, bm.mono (by decide), b1.mono (by decide), ?_⟩
  exact g2_mk ⟨p, qabs t, ⟨rfl, rfl⟩, hp⟩
theorem ok_check_fraction {c : Addr} (B : Bn mg) (DF : Df K mg "check_fraction" s_check_fraction c) (O_is_fraction : Ok P w K mg base ⟨K, Tb⟩ "is_fraction" ["value"] 2 sIsFraction) : Ok P w K mg base ⟨K, Tb⟩ "check_fraction" ["value"] 3 sChkFr := by
  have sc : FnScope ["value"] ["value"] (defScope s_check_fraction) := ⟨rfl, rfl, rfl, by decide +kernel, rfl, by decide +kernel, by decide +kernel⟩
  refine ok_D (N := ["value"]) DF ⟨fun kV doc pm an cdv ct us hl => match us, hl with | [_], _ => rfl, fun kV doc pm an cdv ct p hp us hl => by simp only [kws, List.mem_cons, List.not_mem_nil, or_false] at hp; rcases hp with rfl <;> (match us, hl with | [_], _ => rfl)⟩ sc (fun ds P n h => by obtain ⟨_, rfl, _⟩ := g1_inv h; rfl) (fun A outer s H E wl f hr => (jss_one (js_if (jt_not (jt_val (jc O_is_fraction hr (ja_cons (je_var (pv 0)) ja_nil)))) (jss_one (js_never)) jss_nil))) ?_
  intro ds Pd n h
  obtain ⟨d, rfl, ⟨q, rfl, hs⟩, hp⟩ := g1_inv h
  simp only [mRet, mRetN, mRetL, mIfS, mSeq, mNx, mPass, mExpr, mAsg, gSet, mVar, mC, mOp, mUn, mTB, mNotT, mAndT, mOrT, mAnd, mOr, mNot, mIf, mCons, mNil, mTup, mLst, mCall, mCallK, mSl, mOSome, mONone, mPar, mPar3, eTupD, eConsD, eNilD, eAdd1, eAdd2, eAdd3, eSub, eMul1, eMul2, eFdiv, eMod, ePow, eNeg, eLt, eLe, eGt, eGe, eEq1, eEq2, eNe1, eNe2, eIx1, eIx2, eIx3, eIx4, eSl1, eSl2, eSl3, eLen1, eLen2, eLen3, eAbs, eIntC, eMax2, eMin2, eList1, eList2, eList3, eTuple1, eTuple2, eAll, eAny, eIsi, eGcd2, eGcd3, eLcm, eIsqrt, eDivmod, eOne, eTwo, eThree, eB, eInt, eSeq1, eSeq2, eSeq3, eRng1, eRng2, eIsN, eNotN, gWset, mSeqI, mRng1, mRng2, startS, wipeS, List.map_cons, List.map_nil, List.length_cons, List.length_nil, List.replicate, List.cons_append, List.nil_append, List.append_nil, List.set, List.getElem?_cons_zero, List.getElem?_cons_succ, Option.some.injEq, SV.val.injEq, SV.own.injEq, exists_eq_left', exists_eq_left, true_and, and_true, Nat.reduceAdd, Nat.reduceSub, Nat.zero_add, ite_cr, D.tup.injEq, D.int.injEq, D.bl.injEq, D.lst.injEq, D.str.injEq, List.cons.injEq, reduceCtorEq, if_true, if_false, ite_true, ite_false, Bool.not_true, Bool.not_false, Bool.false_eq_true, not_true, not_false, Bool.true_and, Bool.and_true, Bool.false_and, Bool.and_false, decide_eq_true_eq, ask_int, ask_bool, ask_tuple, ask_list, ask_str, isSub_tuple, isTup_tup, int2, int3, at0, at1, at2, at3, pow2, eFour, ePr, e3I, ePrF, e3K, eFr, eFrF, eTupF, eTupK, eIxF0, eIxF1, fr_inj, nd, nd0, nd1, nd2, nd3, oo, zo, lit0, lit1, div1, ip2, Bool.not_eq_true', decide_eq_false_iff_not, sRat, sPlus, sMinus, sTimes, and_assoc, exists_and_left, Nat.reduceLeDiff, Nat.reduceLT, Int.reduceLT, Int.reduceLE, Int.reduceMul, Int.reduceAdd, Int.reduceSub, Int.reduceNeg, Int.reduceToNat, ne_eq, decide_true, decide_false, eq_self, sIsFraction, fr_fine hs, fracB_fr q]
  exact hp
theorem ok_turn_table {c : Addr} (B : Bn mg) (DF : Df K mg "turn_table" s_turn_table c) (O_check_fraction : Ok P w K mg base ⟨K, Tb⟩ "check_fraction" ["value"] 3 sChkFr) (O_made_turn : Ok P w K mg base ⟨K, Tb⟩ "made_turn" ["first", "second"] 2 sMadeT) : Ok P w K mg base ⟨K, Tb⟩ "turn_table" ["first", "second"] 4 sTurnT := by
  have sc : FnScope ["first", "second"] ["first", "second"] (defScope s_turn_table) := ⟨rfl, rfl, rfl, by decide +kernel, rfl, by decide +kernel, by decide +kernel⟩
  refine ok_D (N := ["first", "second"]) DF ⟨fun kV doc pm an cdv ct us hl => match us, hl with | [_, _], _ => rfl, fun kV doc pm an cdv ct p hp us hl => by simp only [kws, List.mem_cons, List.not_mem_nil, or_false] at hp; rcases hp with rfl | rfl <;> (match us, hl with | [_, _], _ => rfl)⟩ sc (fun ds P n h => by obtain ⟨_, _, rfl, _⟩ := g2_inv h; rfl) (fun A outer s H E wl f hr => (jss_cons (js_expr (jc O_check_fraction hr (ja_cons (je_var (pv 0)) ja_nil))) (jss_cons (js_expr (jc O_check_fraction hr (ja_cons (je_var (pv 1)) ja_nil))) (jss_one (js_ret (jc O_made_turn hr (ja_cons (je_var (pv 0)) (ja_cons (je_var (pv 1)) ja_nil)))))))) ?_
  intro ds Pd n hh
  obtain ⟨d, e', rfl, p, t, ⟨rfl, rfl⟩, ⟨sp, st⟩, hp⟩ := g2_inv hh
  simp only [mRet, mRetN, mRetL, mIfS, mSeq, mNx, mPass, mExpr, mAsg, gSet, mVar, mC, mOp, mUn, mTB, mNotT, mAndT, mOrT, mAnd, mOr, mNot, mIf, mCons, mNil, mTup, mLst, mCall, mCallK, mSl, mOSome, mONone, mPar, mPar3, eTupD, eConsD, eNilD, eAdd1, eAdd2, eAdd3, eSub, eMul1, eMul2, eFdiv, eMod, ePow, eNeg, eLt, eLe, eGt, eGe, eEq1, eEq2, eNe1, eNe2, eIx1, eIx2, eIx3, eIx4, eSl1, eSl2, eSl3, eLen1, eLen2, eLen3, eAbs, eIntC, eMax2, eMin2, eList1, eList2, eList3, eTuple1, eTuple2, eAll, eAny, eIsi, eGcd2, eGcd3, eLcm, eIsqrt, eDivmod, eOne, eTwo, eThree, eB, eInt, eSeq1, eSeq2, eSeq3, eRng1, eRng2, eIsN, eNotN, gWset, mSeqI, mRng1, mRng2, startS, wipeS, List.map_cons, List.map_nil, List.length_cons, List.length_nil, List.replicate, List.cons_append, List.nil_append, List.append_nil, List.set, List.getElem?_cons_zero, List.getElem?_cons_succ, Option.some.injEq, SV.val.injEq, SV.own.injEq, exists_eq_left', exists_eq_left, true_and, and_true, Nat.reduceAdd, Nat.reduceSub, Nat.zero_add, ite_cr, D.tup.injEq, D.int.injEq, D.bl.injEq, D.lst.injEq, D.str.injEq, List.cons.injEq, reduceCtorEq, if_true, if_false, ite_true, ite_false, Bool.not_true, Bool.not_false, Bool.false_eq_true, not_true, not_false, Bool.true_and, Bool.and_true, Bool.false_and, Bool.and_false, decide_eq_true_eq, ask_int, ask_bool, ask_tuple, ask_list, ask_str, isSub_tuple, isTup_tup, int2, int3, at0, at1, at2, at3, pow2, eFour, ePr, e3I, ePrF, e3K, eFr, eFrF, eTupF, eTupK, eIxF0, eIxF1, fr_inj, nd, nd0, nd1, nd2, nd3, oo, zo, lit0, lit1, div1, ip2, Bool.not_eq_true', decide_eq_false_iff_not, sRat, sPlus, sMinus, sTimes, and_assoc, exists_and_left, Nat.reduceLeDiff, Nat.reduceLT, Int.reduceLT, Int.reduceLE, Int.reduceMul, Int.reduceAdd, Int.reduceSub, Int.reduceNeg, Int.reduceToNat, ne_eq, decide_true, decide_false, eq_self, eIxD0, eIxD1, eTupD2, dsc_inj, eRAb, eRAt, eRAl, le_q0, fr_abs, sSize, sCommon, sBeyond, mZip, or_false, false_or, eRAd, eInT, eTupLd, eTupTr, tr_inj, ld_inj, rw_inj, eIxT0, eIxT1, eIxT2, eNeF, eEqF, eEqR, eRAtr, mEnum, eIxK0, eIxK1, eIxK2]
  refine g1_mk ⟨⟨p, rfl, sp⟩, ?_⟩
  simp only [mRet, mRetN, mRetL, mIfS, mSeq, mNx, mPass, mExpr, mAsg, gSet, mVar, mC, mOp, mUn, mTB, mNotT, mAndT, mOrT, mAnd, mOr, mNot, mIf, mCons, mNil, mTup, mLst, mCall, mCallK, mSl, mOSome, mONone, mPar, mPar3, eTupD, eConsD, eNilD, eAdd1, eAdd2, eAdd3, eSub, eMul1, eMul2, eFdiv, eMod, ePow, eNeg, eLt, eLe, eGt, eGe, eEq1, eEq2, eNe1, eNe2, eIx1, eIx2, eIx3, eIx4, eSl1, eSl2, eSl3, eLen1, eLen2, eLen3, eAbs, eIntC, eMax2, eMin2, eList1, eList2, eList3, eTuple1, eTuple2, eAll, eAny, eIsi, eGcd2, eGcd3, eLcm, eIsqrt, eDivmod, eOne, eTwo, eThree, eB, eInt, eSeq1, eSeq2, eSeq3, eRng1, eRng2, eIsN, eNotN, gWset, mSeqI, mRng1, mRng2, startS, wipeS, List.map_cons, List.map_nil, List.length_cons, List.length_nil, List.replicate, List.cons_append, List.nil_append, List.append_nil, List.set, List.getElem?_cons_zero, List.getElem?_cons_succ, Option.some.injEq, SV.val.injEq, SV.own.injEq, exists_eq_left', exists_eq_left, true_and, and_true, Nat.reduceAdd, Nat.reduceSub, Nat.zero_add, ite_cr, D.tup.injEq, D.int.injEq, D.bl.injEq, D.lst.injEq, D.str.injEq, List.cons.injEq, reduceCtorEq, if_true, if_false, ite_true, ite_false, Bool.not_true, Bool.not_false, Bool.false_eq_true, not_true, not_false, Bool.true_and, Bool.and_true, Bool.false_and, Bool.and_false, decide_eq_true_eq, ask_int, ask_bool, ask_tuple, ask_list, ask_str, isSub_tuple, isTup_tup, int2, int3, at0, at1, at2, at3, pow2, eFour, ePr, e3I, ePrF, e3K, eFr, eFrF, eTupF, eTupK, eIxF0, eIxF1, fr_inj, nd, nd0, nd1, nd2, nd3, oo, zo, lit0, lit1, div1, ip2, Bool.not_eq_true', decide_eq_false_iff_not, sRat, sPlus, sMinus, sTimes, and_assoc, exists_and_left, Nat.reduceLeDiff, Nat.reduceLT, Int.reduceLT, Int.reduceLE, Int.reduceMul, Int.reduceAdd, Int.reduceSub, Int.reduceNeg, Int.reduceToNat, ne_eq, decide_true, decide_false, eq_self, eIxD0, eIxD1, eTupD2, dsc_inj, eRAb, eRAt, eRAl, le_q0, fr_abs, sSize, sCommon, sBeyond, mZip, or_false, false_or, eRAd, eInT, eTupLd, eTupTr, tr_inj, ld_inj, rw_inj, eIxT0, eIxT1, eIxT2, eNeF, eEqF, eEqR, eRAtr, mEnum, eIxK0, eIxK1, eIxK2]
  refine g1_mk ⟨⟨t, rfl, st⟩, ?_⟩
  simp only [mRet, mRetN, mRetL, mIfS, mSeq, mNx, mPass, mExpr, mAsg, gSet, mVar, mC, mOp, mUn, mTB, mNotT, mAndT, mOrT, mAnd, mOr, mNot, mIf, mCons, mNil, mTup, mLst, mCall, mCallK, mSl, mOSome, mONone, mPar, mPar3, eTupD, eConsD, eNilD, eAdd1, eAdd2, eAdd3, eSub, eMul1, eMul2, eFdiv, eMod, ePow, eNeg, eLt, eLe, eGt, eGe, eEq1, eEq2, eNe1, eNe2, eIx1, eIx2, eIx3, eIx4, eSl1, eSl2, eSl3, eLen1, eLen2, eLen3, eAbs, eIntC, eMax2, eMin2, eList1, eList2, eList3, eTuple1, eTuple2, eAll, eAny, eIsi, eGcd2, eGcd3, eLcm, eIsqrt, eDivmod, eOne, eTwo, eThree, eB, eInt, eSeq1, eSeq2, eSeq3, eRng1, eRng2, eIsN, eNotN, gWset, mSeqI, mRng1, mRng2, startS, wipeS, List.map_cons, List.map_nil, List.length_cons, List.length_nil, List.replicate, List.cons_append, List.nil_append, List.append_nil, List.set, List.getElem?_cons_zero, List.getElem?_cons_succ, Option.some.injEq, SV.val.injEq, SV.own.injEq, exists_eq_left', exists_eq_left, true_and, and_true, Nat.reduceAdd, Nat.reduceSub, Nat.zero_add, ite_cr, D.tup.injEq, D.int.injEq, D.bl.injEq, D.lst.injEq, D.str.injEq, List.cons.injEq, reduceCtorEq, if_true, if_false, ite_true, ite_false, Bool.not_true, Bool.not_false, Bool.false_eq_true, not_true, not_false, Bool.true_and, Bool.and_true, Bool.false_and, Bool.and_false, decide_eq_true_eq, ask_int, ask_bool, ask_tuple, ask_list, ask_str, isSub_tuple, isTup_tup, int2, int3, at0, at1, at2, at3, pow2, eFour, ePr, e3I, ePrF, e3K, eFr, eFrF, eTupF, eTupK, eIxF0, eIxF1, fr_inj, nd, nd0, nd1, nd2, nd3, oo, zo, lit0, lit1, div1, ip2, Bool.not_eq_true', decide_eq_false_iff_not, sRat, sPlus, sMinus, sTimes, and_assoc, exists_and_left, Nat.reduceLeDiff, Nat.reduceLT, Int.reduceLT, Int.reduceLE, Int.reduceMul, Int.reduceAdd, Int.reduceSub, Int.reduceNeg, Int.reduceToNat, ne_eq, decide_true, decide_false, eq_self, eIxD0, eIxD1, eTupD2, dsc_inj, eRAb, eRAt, eRAl, le_q0, fr_abs, sSize, sCommon, sBeyond, mZip, or_false, false_or, eRAd, eInT, eTupLd, eTupTr, tr_inj, ld_inj, rw_inj, eIxT0, eIxT1, eIxT2, eNeF, eEqF, eEqR, eRAtr, mEnum, eIxK0, eIxK1, eIxK2]
  exact g2_mk ⟨p, t, ⟨rfl, rfl⟩, hp⟩
theorem ok__law_turns_right {c : Addr} (B : Bn mg) (DF : Df K mg "_law_turns_right" s__law_turns_right c) (O__law_plus : Ok P w K mg base ⟨K, Tb⟩ "_law_plus" ["_law_x", "_law_y"] 2 sPlus) (O__law_joined : Ok P w K mg base ⟨K, Tb⟩ "_law_joined" ["_law_x", "_law_factor", "_law_y"] 3 sJoined) (O__law_inner : Ok P w K mg base ⟨K, Tb⟩ "_law_inner" ["_law_x", "_law_y"] 3 sDot) (O_gap_of : Ok P w K mg base ⟨K, Tb⟩ "gap_of" ["x", "u", "y", "v"] 4 sGapOf) (O__law_fraction : Ok P w K mg base ⟨K, Tb⟩ "_law_fraction" ["_law_well_here"] 2 (sDrawQ 3 (fun _ => True))) (O__law_kind : Ok P w K mg base ⟨K, Tb⟩ "_law_kind" ["_law_well_here"] 2 sDrawK) (O__law_row : Ok P w K mg base ⟨K, Tb⟩ "_law_row" ["_law_well_here", "_law_size"] 3 sRowD4) (O__law_times : Ok P w K mg base ⟨K, Tb⟩ "_law_times" ["_law_x", "_law_y"] 2 sTimes) (O__law_turned : Ok P w K mg base ⟨K, Tb⟩ "_law_turned" ["_law_p", "_law_t", "_law_row_here"] 3 sTurned) (O_holds : Ok P w K mg base ⟨K, Tb⟩ "holds" ["kind", "gap"] 7 sHolds7) (O_turn_for : Ok P w K mg base ⟨K, Tb⟩ "turn_for" ["gap"] 7 sTurnFor) (O_turn_table : Ok P w K mg base ⟨K, Tb⟩ "turn_table" ["first", "second"] 4 sTurnT) : OkG P w K mg base ⟨K, Tb⟩ "_law_turns_right" ["_law_well_here"] 8 (sYes3 60) := by
  have sc : FnScope ["_law_well_here", "_law_p", "_law_t", "_law_kind_here", "_law_x", "_law_y", "_law_single", "_law_p_form", "_law_is_held", "_law_away", "_law_far", "_law_due", "_law_gap", "_law_told", "_law_back", "_law_tables", "_law_table"] ["_law_well_here"] (defScope s__law_turns_right) := ⟨rfl, rfl, rfl, by decide +kernel, rfl, by decide +kernel, by decide +kernel⟩
  refine ok_G (N := ["_law_well_here", "_law_p", "_law_t", "_law_kind_here", "_law_x", "_law_y", "_law_single", "_law_p_form", "_law_is_held", "_law_away", "_law_far", "_law_due", "_law_gap", "_law_told", "_law_back", "_law_tables", "_law_table"]) DF (fun kV doc pm an cdv ct us hl => match us, hl with | [_], _ => rfl) sc (fun ds P n h => by obtain ⟨rfl, _⟩ := h; rfl) (fun A outer s H wl f hq hr => (jss_cons (js_par3 (i := 1) (j := 2) (k := 3) rfl sc.nd rfl rfl rfl (by decide) (by decide) (by decide) rfl rfl rfl (jc O__law_fraction hr (ja_cons (je_var (pv 0)) ja_nil)) (jc O__law_fraction hr (ja_cons (je_var (pv 0)) ja_nil)) (jc O__law_kind hr (ja_cons (je_var (pv 0)) ja_nil)) rfl) (jss_cons (js_par (i := 4) (j := 5) rfl sc.nd rfl rfl (by decide) rfl rfl (jc O__law_row hr (ja_cons (je_var (pv 0)) (ja_cons (je_int) ja_nil))) (jc O__law_row hr (ja_cons (je_var (pv 0)) (ja_cons (je_int) ja_nil))) rfl) (jss_cutT (js_if (jt_cmp (d_eq rfl hr.cl) (je_var (pv 4)) (je_var (pv 5)) (nomark _)) (jss_one (js_set (i := 5) sc.nd rfl (by first | exact Or.inl rfl | exact Or.inr rfl) (je_tup (ja_cons (jc O__law_plus hr (ja_cons (je_ix (d_ix rfl) (je_var (pv 4)) (je_int) (fun _ _ => rfl)) (ja_cons (je_tup (ja_cons (je_int) (ja_cons (je_int) ja_nil))) ja_nil))) (ja_cons (je_ix (d_ix rfl) (je_var (pv 4)) (je_int) (fun _ _ => rfl)) ja_nil))))) jss_nil) (jss_cutT (js_set (i := 6) sc.nd rfl (by first | exact Or.inl rfl | exact Or.inr rfl) (je_tup (ja_cons (je_var (pv 1)) (ja_cons (jc O__law_plus hr (ja_cons (jc O__law_times hr (ja_cons (je_var (pv 1)) (ja_cons (je_var (pv 1)) ja_nil))) (ja_cons (jc O__law_times hr (ja_cons (je_var (pv 2)) (ja_cons (je_var (pv 2)) ja_nil))) ja_nil))) ja_nil)))) (jss_cutT (js_set (i := 7) sc.nd rfl (by first | exact Or.inl rfl | exact Or.inr rfl) (jc O__law_plus hr (ja_cons (jc O__law_times hr (ja_cons (je_tup (ja_cons (je_ix (d_ix rfl) (je_var (pv 3)) (je_int) (fun _ _ => rfl)) (ja_cons (je_int) ja_nil))) (ja_cons (je_ix (d_ix rfl) (je_var (pv 6)) (je_int) (fun _ _ => rfl)) ja_nil))) (ja_cons (jc O__law_times hr (ja_cons (je_tup (ja_cons (je_op d_sub (je_int) (je_op d_mul (je_int) (je_ix (d_ix rfl) (je_var (pv 3)) (je_int) (fun _ _ => rfl)))) (ja_cons (je_int) ja_nil))) (ja_cons (je_var (pv 1)) ja_nil))) ja_nil)))) (jss_cutT (js_set (i := 8) sc.nd rfl (by first | exact Or.inl rfl | exact Or.inr rfl) (je_cmp d_le (je_ix (d_ix rfl) (jc O__law_plus hr (ja_cons (je_var (pv 7)) (ja_cons (je_tup (ja_cons (je_ix (d_ix rfl) (je_var (pv 3)) (je_int) (fun _ _ => rfl)) (ja_cons (je_int) ja_nil))) ja_nil))) (je_int) (fun _ _ => rfl)) (je_int) (nomark _))) (jss_cutT (js_set (i := 9) sc.nd rfl (by first | exact Or.inl rfl | exact Or.inr rfl) (jc O__law_joined hr (ja_cons (je_var (pv 4)) (ja_cons (je_tup (ja_cons (je_un d_neg (je_int)) (ja_cons (je_int) ja_nil))) (ja_cons (je_var (pv 5)) ja_nil))))) (jss_cutT (js_set (i := 10) sc.nd rfl (by first | exact Or.inl rfl | exact Or.inr rfl) (jc O__law_inner hr (ja_cons (je_var (pv 9)) (ja_cons (je_var (pv 9)) ja_nil)))) (jss_cutT (js_set (i := 11) sc.nd rfl (by first | exact Or.inl rfl | exact Or.inr rfl) (je_tup (ja_cons (je_var (pv 10)) (ja_cons (jc O__law_times hr (ja_cons (je_var (pv 10)) (ja_cons (je_var (pv 1)) ja_nil))) (ja_cons (jc O__law_times hr (ja_cons (je_var (pv 10)) (ja_cons (je_ix (d_ix rfl) (je_var (pv 6)) (je_int) (fun _ _ => rfl)) ja_nil))) ja_nil))))) (jss_cutT (js_set (i := 12) sc.nd rfl (by first | exact Or.inl rfl | exact Or.inr rfl) (jc O_gap_of hr (ja_cons (je_var (pv 4)) (ja_cons (jc O__law_turned hr (ja_cons (je_var (pv 1)) (ja_cons (je_var (pv 2)) (ja_cons (je_var (pv 4)) ja_nil)))) (ja_cons (je_var (pv 5)) (ja_cons (jc O__law_turned hr (ja_cons (je_var (pv 1)) (ja_cons (je_var (pv 2)) (ja_cons (je_var (pv 5)) ja_nil)))) ja_nil)))))) (jss_cutT (js_set (i := 13) sc.nd rfl (by first | exact Or.inl rfl | exact Or.inr rfl) (je_lst (ja_cons (jc O_holds hr (ja_cons (je_var (pv 3)) (ja_cons (je_var (pv 12)) ja_nil))) (ja_cons (jck O_holds (List.mem_of_getElem? (i := 1) rfl) hr (jk_cons (je_tup (ja_cons (je_tup (ja_cons (je_int) (ja_cons (je_int) ja_nil))) (ja_cons (je_var (pv 1)) (ja_cons (je_ix (d_ix rfl) (je_var (pv 6)) (je_int) (fun _ _ => rfl)) ja_nil)))) (jk_cons (je_var (pv 3)) jk_nil)) (len2)) ja_nil)))) (jss_cutT (js_if (PW.pt (jw_or (jt_cmp (d_ne rfl hr.cl) (je_callB (d_reprA rfl hq hr.cl) rfl B.repr Bt'.repr (ja_cons (je_var (pv 12)) ja_nil)) (je_callB (d_reprA rfl hq hr.cl) rfl B.repr Bt'.repr (ja_cons (je_var (pv 11)) ja_nil)) (nomark _)) (jw_or1 (jt_cmp (d_ne rfl hr.cl) (je_callB (d_reprA rfl hq hr.cl) rfl B.repr Bt'.repr (ja_cons (je_var (pv 13)) ja_nil)) (je_callB (d_reprA rfl hq hr.cl) rfl B.repr Bt'.repr (ja_cons (je_op d_mul (je_lst (ja_cons (je_var (pv 8)) ja_nil)) (je_int)) ja_nil)) (nomark _))))) (jss_one (js_ret (je_bl))) jss_nil) (jss_cutT (js_set (i := 14) sc.nd rfl (by first | exact Or.inl rfl | exact Or.inr rfl) (je_tup (ja_cons (je_op d_sub (je_int) (je_ix (d_ix rfl) (je_var (pv 2)) (je_int) (fun _ _ => rfl))) (ja_cons (je_ix (d_ix rfl) (je_var (pv 2)) (je_int) (fun _ _ => rfl)) ja_nil)))) (jss_cutT (js_set (i := 15) sc.nd rfl (by first | exact Or.inl rfl | exact Or.inr rfl) (je_lst (ja_cons (je_tup (ja_cons (je_tup (ja_cons (je_var (pv 1)) (ja_cons (je_var (pv 14)) ja_nil))) (ja_cons (je_tup (ja_cons (je_var (pv 2)) (ja_cons (je_var (pv 1)) ja_nil))) ja_nil))) (ja_cons (je_tup (ja_cons (je_tup (ja_cons (je_var (pv 1)) (ja_cons (je_var (pv 2)) ja_nil))) (ja_cons (je_tup (ja_cons (je_var (pv 14)) (ja_cons (je_var (pv 1)) ja_nil))) ja_nil))) ja_nil)))) (jss_cutT (js_if (PW.pt (jw_or (jt_cmp (d_ne rfl hr.cl) (je_callB (d_reprA rfl hq hr.cl) rfl B.repr Bt'.repr (ja_cons (jc O_turn_table hr (ja_cons (je_var (pv 1)) (ja_cons (je_var (pv 2)) ja_nil))) ja_nil)) (je_callB (d_reprA rfl hq hr.cl) rfl B.repr Bt'.repr (ja_cons (je_ix (d_ix rfl) (je_var (pv 15)) (je_int) (fun _ _ => rfl)) ja_nil)) (nomark _)) (jw_or1 (jt_cmp (d_ne rfl hr.cl) (je_callB (d_reprA rfl hq hr.cl) rfl B.repr Bt'.repr (ja_cons (jck O_turn_table (List.mem_of_getElem? (i := 1) rfl) hr (jk_cons (je_var (pv 14)) (jk_cons (je_var (pv 1)) jk_nil)) (len2)) ja_nil)) (je_callB (d_reprA rfl hq hr.cl) rfl B.repr Bt'.repr (ja_cons (je_ix (d_ix rfl) (je_var (pv 15)) (je_int) (fun _ _ => rfl)) ja_nil)) (nomark _))))) (jss_one (js_ret (je_bl))) jss_nil) (jss_one (js_ret (je_cmp (d_in rfl) (je_callB (d_reprA rfl hq hr.cl) rfl B.repr Bt'.repr (ja_cons (jc O_turn_for hr (ja_cons (je_var (pv 12)) ja_nil)) ja_nil)) (je_lc (own := [("_law_table", 16)]) rfl sc.nd (ji_seq rfl (je_var (pv 15))) (blkOk_by (by kernel_rfl)) (by decide) (fun _ _ _ _ _ => (jg (i := 16) sc.nd)) (fun _ _ _ _ _ => jts_nil) (fun _ _ _ _ _ => (je_callB (d_reprA rfl hq hr.cl) rfl B.repr Bt'.repr (ja_cons (je_var (pv 16)) ja_nil)))) rfl))))))))))))))))))) ?_
  intro ds Pd n hh
  obtain ⟨rfl, hn, hp⟩ := hh
  simp only [mRet, mRetN, mRetL, mIfS, mSeq, mNx, mPass, mExpr, mAsg, gSet, mVar, mC, mOp, mUn, mTB, mNotT, mAndT, mOrT, mAnd, mOr, mNot, mIf, mCons, mNil, mTup, mLst, mCall, mCallK, mSl, mOSome, mONone, mPar, mPar3, eTupD, eConsD, eNilD, eAdd1, eAdd2, eAdd3, eSub, eMul1, eMul2, eFdiv, eMod, ePow, eNeg, eLt, eLe, eGt, eGe, eEq1, eEq2, eNe1, eNe2, eIx1, eIx2, eIx3, eIx4, eSl1, eSl2, eSl3, eLen1, eLen2, eLen3, eAbs, eIntC, eMax2, eMin2, eList1, eList2, eList3, eTuple1, eTuple2, eAll, eAny, eIsi, eGcd2, eGcd3, eLcm, eIsqrt, eDivmod, eOne, eTwo, eThree, eB, eInt, eSeq1, eSeq2, eSeq3, eRng1, eRng2, eIsN, eNotN, gWset, mSeqI, mRng1, mRng2, startS, wipeS, List.map_cons, List.map_nil, List.length_cons, List.length_nil, List.replicate, List.cons_append, List.nil_append, List.append_nil, List.set, List.getElem?_cons_zero, List.getElem?_cons_succ, Option.some.injEq, SV.val.injEq, SV.own.injEq, exists_eq_left', exists_eq_left, true_and, and_true, Nat.reduceAdd, Nat.reduceSub, Nat.zero_add, ite_cr, D.tup.injEq, D.int.injEq, D.bl.injEq, D.lst.injEq, D.str.injEq, List.cons.injEq, reduceCtorEq, if_true, if_false, ite_true, ite_false, Bool.not_true, Bool.not_false, Bool.false_eq_true, not_true, not_false, Bool.true_and, Bool.and_true, Bool.false_and, Bool.and_false, decide_eq_true_eq, ask_int, ask_bool, ask_tuple, ask_list, ask_str, isSub_tuple, isTup_tup, int2, int3, at0, at1, at2, at3, pow2, eFour, ePr, e3I, ePrF, e3K, eFr, eFrF, eTupF, eTupK, eIxF0, eIxF1, fr_inj, nd, nd0, nd1, nd2, nd3, oo, zo, lit0, lit1, div1, ip2, Bool.not_eq_true', decide_eq_false_iff_not, sRat, sPlus, sMinus, sTimes, and_assoc, exists_and_left, Nat.reduceLeDiff, Nat.reduceLT, Int.reduceLT, Int.reduceLE, Int.reduceMul, Int.reduceAdd, Int.reduceSub, Int.reduceNeg, Int.reduceToNat, ne_eq, decide_true, decide_false, eq_self, eIxD0, eIxD1, eTupD2, dsc_inj, eRAb, eRAt, eRAl, le_q0, fr_abs, sSize, sCommon, sBeyond, mZip, or_false, false_or, eRAd, eInT, eTupLd, eTupTr, tr_inj, ld_inj, rw_inj, eIxT0, eIxT1, eIxT2, eNeF, eEqF, eEqR, eRAtr, mEnum, eIxK0, eIxK1, eIxK2, sDraw, sRowD4, sDrawQ, sDrawK]
  refine ⟨by omega, fun p c1 sp _ h1 => ⟨by omega, fun t c2 st _ h2 => ⟨by omega, fun A B' C c3 bA bB bC hg hD h3 => ⟨by omega, fun x c4 lx sx h4 => ⟨by omega, fun y c5 ly sy h5 => ?_⟩⟩⟩⟩⟩
  obtain ⟨x1, x2, rfl⟩ : ∃ a b, x = [a, b] := by
    match x, lx with
    | [a, b], _ => exact ⟨a, b, rfl⟩
    | [], h => simp at h
    | [_], h => simp at h
    | _ :: _ :: _ :: _, h => simp at h; omega
  obtain ⟨y1, y2, rfl⟩ : ∃ a b, y = [a, b] := by
    match y, ly with
    | [a, b], _ => exact ⟨a, b, rfl⟩
    | [], h => simp at h
    | [_], h => simp at h
    | _ :: _ :: _ :: _, h => simp at h; omega
  have hk : okI 30 A B' C := ⟨bA, bB, bC, hg, hD⟩
  haveI : SzP p 22 10 := ⟨sp⟩
  haveI : SzP t 22 10 := ⟨st⟩
  haveI : SzP x1 22 10 := ⟨sx _ (by simp)⟩
  haveI : SzP x2 22 10 := ⟨sx _ (by simp)⟩
  haveI : SzP y2 22 10 := ⟨sy _ (by simp)⟩
  haveI : SzP (A : Rat) 30 1 := int2sz bA
  haveI : SzP (B' : Rat) 30 1 := int2sz bB
  haveI : SzP (C : Rat) 30 1 := int2sz bC
  have sy1 : Sz2 22 10 y1 := sy _ (by simp)
  refine mCut_J (fun l c => ∃ y1 : Rat, l = [some (SV.val .well), some (SV.val (fr p)), some (SV.val (fr t)), some (SV.val (.tup [.int A, .int B', .int C])), some (SV.val (rwD [x1, x2])), some (SV.val (rwD [y1, y2])), none, none, none, none, none, none, none, none, none, none, none] ∧ Sz2 24 11 y1 ∧ ¬ (x1 = y1 ∧ x2 = y2) ∧ c = c5) ?_ ?_
  · intro J hJ
    simp only [mRet, mRetN, mRetL, mIfS, mSeq, mNx, mPass, mExpr, mAsg, gSet, mVar, mC, mOp, mUn, mTB, mNotT, mAndT, mOrT, mAnd, mOr, mNot, mIf, mCons, mNil, mTup, mLst, mCall, mCallK, mSl, mOSome, mONone, mPar, mPar3, eTupD, eConsD, eNilD, eAdd1, eAdd2, eAdd3, eSub, eMul1, eMul2, eFdiv, eMod, ePow, eNeg, eLt, eLe, eGt, eGe, eEq1, eEq2, eNe1, eNe2, eIx1, eIx2, eIx3, eIx4, eSl1, eSl2, eSl3, eLen1, eLen2, eLen3, eAbs, eIntC, eMax2, eMin2, eList1, eList2, eList3, eTuple1, eTuple2, eAll, eAny, eIsi, eGcd2, eGcd3, eLcm, eIsqrt, eDivmod, eOne, eTwo, eThree, eB, eInt, eSeq1, eSeq2, eSeq3, eRng1, eRng2, eIsN, eNotN, gWset, mSeqI, mRng1, mRng2, startS, wipeS, List.map_cons, List.map_nil, List.length_cons, List.length_nil, List.replicate, List.cons_append, List.nil_append, List.append_nil, List.set, List.getElem?_cons_zero, List.getElem?_cons_succ, Option.some.injEq, SV.val.injEq, SV.own.injEq, exists_eq_left', exists_eq_left, true_and, and_true, Nat.reduceAdd, Nat.reduceSub, Nat.zero_add, ite_cr, D.tup.injEq, D.int.injEq, D.bl.injEq, D.lst.injEq, D.str.injEq, List.cons.injEq, reduceCtorEq, if_true, if_false, ite_true, ite_false, Bool.not_true, Bool.not_false, Bool.false_eq_true, not_true, not_false, Bool.true_and, Bool.and_true, Bool.false_and, Bool.and_false, decide_eq_true_eq, ask_int, ask_bool, ask_tuple, ask_list, ask_str, isSub_tuple, isTup_tup, int2, int3, at0, at1, at2, at3, pow2, eFour, ePr, e3I, ePrF, e3K, eFr, eFrF, eTupF, eTupK, eIxF0, eIxF1, fr_inj, nd, nd0, nd1, nd2, nd3, oo, zo, lit0, lit1, div1, ip2, Bool.not_eq_true', decide_eq_false_iff_not, sRat, sPlus, sMinus, sTimes, and_assoc, exists_and_left, Nat.reduceLeDiff, Nat.reduceLT, Int.reduceLT, Int.reduceLE, Int.reduceMul, Int.reduceAdd, Int.reduceSub, Int.reduceNeg, Int.reduceToNat, ne_eq, decide_true, decide_false, eq_self, eIxD0, eIxD1, eTupD2, dsc_inj, eRAb, eRAt, eRAl, le_q0, fr_abs, sSize, sCommon, sBeyond, mZip, or_false, false_or, eRAd, eInT, eTupLd, eTupTr, tr_inj, ld_inj, rw_inj, eIxT0, eIxT1, eIxT2, eNeF, eEqF, eEqR, eRAtr, mEnum, eIxK0, eIxK1, eIxK2, eIxR0, eIxR1, fr_21, rw2_eta]
    by_cases hxy : [x1, x2] = [y1, y2]
    · obtain ⟨rfl, rfl⟩ : x1 = y1 ∧ x2 = y2 := by simpa using hxy
      simp only [and_self, if_true]
      refine ⟨szc (by decide), szc (by decide), hJ _ _ ⟨x1 + 2, rfl, s2c (by decide), fun h => ?_, rfl⟩⟩
      have : (2 : Rat) = 0 := by have := h.1; grind
      exact absurd this (by decide +kernel)
    · have h2 : ¬ (x1 = y1 ∧ x2 = y2) := by simpa using hxy
      simp only [h2, if_false]
      exact hJ _ _ ⟨y1, rfl, sy1.mono (by decide), h2, rfl⟩
  rintro l' c' ⟨z1, rfl, sz1, hne, rfl⟩
  haveI : SzP z1 24 11 := ⟨sz1⟩
  have far0 : 0 < (x1 - z1) * (x1 - z1) + (x2 - y2) * (x2 - y2) := by
    have q1 := sq_nnq (x1 - z1)
    have q2 := sq_nnq (x2 - y2)
    have : (x1 - z1) * (x1 - z1) + (x2 - y2) * (x2 - y2) ≠ 0 := fun h => by
      have e1 : (x1 - z1) * (x1 - z1) = 0 := by grind
      have e2 : (x2 - y2) * (x2 - y2) = 0 := by grind
      refine hne ⟨?_, ?_⟩
      · rcases Rat.mul_eq_zero.mp e1 with h | h <;> grind
      · rcases Rat.mul_eq_zero.mp e2 with h | h <;> grind
    grind
  apply mCut_at
  · simp only [mRet, mRetN, mRetL, mIfS, mSeq, mNx, mPass, mExpr, mAsg, gSet, mVar, mC, mOp, mUn, mTB, mNotT, mAndT, mOrT, mAnd, mOr, mNot, mIf, mCons, mNil, mTup, mLst, mCall, mCallK, mSl, mOSome, mONone, mPar, mPar3, eTupD, eConsD, eNilD, eAdd1, eAdd2, eAdd3, eSub, eMul1, eMul2, eFdiv, eMod, ePow, eNeg, eLt, eLe, eGt, eGe, eEq1, eEq2, eNe1, eNe2, eIx1, eIx2, eIx3, eIx4, eSl1, eSl2, eSl3, eLen1, eLen2, eLen3, eAbs, eIntC, eMax2, eMin2, eList1, eList2, eList3, eTuple1, eTuple2, eAll, eAny, eIsi, eGcd2, eGcd3, eLcm, eIsqrt, eDivmod, eOne, eTwo, eThree, eB, eInt, eSeq1, eSeq2, eSeq3, eRng1, eRng2, eIsN, eNotN, gWset, mSeqI, mRng1, mRng2, startS, wipeS, List.map_cons, List.map_nil, List.length_cons, List.length_nil, List.replicate, List.cons_append, List.nil_append, List.append_nil, List.set, List.getElem?_cons_zero, List.getElem?_cons_succ, Option.some.injEq, SV.val.injEq, SV.own.injEq, exists_eq_left', exists_eq_left, true_and, and_true, Nat.reduceAdd, Nat.reduceSub, Nat.zero_add, ite_cr, D.tup.injEq, D.int.injEq, D.bl.injEq, D.lst.injEq, D.str.injEq, List.cons.injEq, reduceCtorEq, if_true, if_false, ite_true, ite_false, Bool.not_true, Bool.not_false, Bool.false_eq_true, not_true, not_false, Bool.true_and, Bool.and_true, Bool.false_and, Bool.and_false, decide_eq_true_eq, ask_int, ask_bool, ask_tuple, ask_list, ask_str, isSub_tuple, isTup_tup, int2, int3, at0, at1, at2, at3, pow2, eFour, ePr, e3I, ePrF, e3K, eFr, eFrF, eTupF, eTupK, eIxF0, eIxF1, fr_inj, nd, nd0, nd1, nd2, nd3, oo, zo, lit0, lit1, div1, ip2, Bool.not_eq_true', decide_eq_false_iff_not, sRat, sPlus, sMinus, sTimes, and_assoc, exists_and_left, Nat.reduceLeDiff, Nat.reduceLT, Int.reduceLT, Int.reduceLE, Int.reduceMul, Int.reduceAdd, Int.reduceSub, Int.reduceNeg, Int.reduceToNat, ne_eq, decide_true, decide_false, eq_self, eIxD0, eIxD1, eTupD2, dsc_inj, eRAb, eRAt, eRAl, le_q0, fr_abs, sSize, sCommon, sBeyond, mZip, or_false, false_or, eRAd, eInT, eTupLd, eTupTr, tr_inj, ld_inj, rw_inj, eIxT0, eIxT1, eIxT2, eNeF, eEqF, eEqR, eRAtr, mEnum, eIxK0, eIxK1, eIxK2]
    refine ⟨szc (by decide), szc (by decide), szc (by decide), szc (by decide), szc (by decide), szc (by decide), ?_⟩
    exact ⟨rfl, rfl⟩
  have b30 : ∀ {x : Int}, Bt 30 x → Bt 3000 x := fun h => h.mono (by decide)
  have m2 : CMulW 2 B' := cm (m := 2) (by unfold Bt; decide) bB
  have bB2 : Bt 3000 (0 - 2 * B') := by
    haveI : BtP B' 30 := ⟨bB⟩
    exact btc (by decide)
  have eB2 : (((0 - 2 * B' : Int) : Rat)) = -2 * (B' : Rat) := by rw [Rat.intCast_sub, Rat.intCast_mul, lit0, lit2]; grind
  haveI : SzP (((0 - 2 * B' : Int) : Rat)) 33 1 := by
    haveI : BtP B' 30 := ⟨bB⟩
    exact int2sz (btc (by decide))
  apply mCut_at
  · simp only [mRet, mRetN, mRetL, mIfS, mSeq, mNx, mPass, mExpr, mAsg, gSet, mVar, mC, mOp, mUn, mTB, mNotT, mAndT, mOrT, mAnd, mOr, mNot, mIf, mCons, mNil, mTup, mLst, mCall, mCallK, mSl, mOSome, mONone, mPar, mPar3, eTupD, eConsD, eNilD, eAdd1, eAdd2, eAdd3, eSub, eMul1, eMul2, eFdiv, eMod, ePow, eNeg, eLt, eLe, eGt, eGe, eEq1, eEq2, eNe1, eNe2, eIx1, eIx2, eIx3, eIx4, eSl1, eSl2, eSl3, eLen1, eLen2, eLen3, eAbs, eIntC, eMax2, eMin2, eList1, eList2, eList3, eTuple1, eTuple2, eAll, eAny, eIsi, eGcd2, eGcd3, eLcm, eIsqrt, eDivmod, eOne, eTwo, eThree, eB, eInt, eSeq1, eSeq2, eSeq3, eRng1, eRng2, eIsN, eNotN, gWset, mSeqI, mRng1, mRng2, startS, wipeS, List.map_cons, List.map_nil, List.length_cons, List.length_nil, List.replicate, List.cons_append, List.nil_append, List.append_nil, List.set, List.getElem?_cons_zero, List.getElem?_cons_succ, Option.some.injEq, SV.val.injEq, SV.own.injEq, exists_eq_left', exists_eq_left, true_and, and_true, Nat.reduceAdd, Nat.reduceSub, Nat.zero_add, ite_cr, D.tup.injEq, D.int.injEq, D.bl.injEq, D.lst.injEq, D.str.injEq, List.cons.injEq, reduceCtorEq, if_true, if_false, ite_true, ite_false, Bool.not_true, Bool.not_false, Bool.false_eq_true, not_true, not_false, Bool.true_and, Bool.and_true, Bool.false_and, Bool.and_false, decide_eq_true_eq, ask_int, ask_bool, ask_tuple, ask_list, ask_str, isSub_tuple, isTup_tup, int2, int3, at0, at1, at2, at3, pow2, eFour, ePr, e3I, ePrF, e3K, eFr, eFrF, eTupF, eTupK, eIxF0, eIxF1, fr_inj, nd, nd0, nd1, nd2, nd3, oo, zo, lit0, lit1, div1, ip2, Bool.not_eq_true', decide_eq_false_iff_not, sRat, sPlus, sMinus, sTimes, and_assoc, exists_and_left, Nat.reduceLeDiff, Nat.reduceLT, Int.reduceLT, Int.reduceLE, Int.reduceMul, Int.reduceAdd, Int.reduceSub, Int.reduceNeg, Int.reduceToNat, ne_eq, decide_true, decide_false, eq_self, eIxD0, eIxD1, eTupD2, dsc_inj, eRAb, eRAt, eRAl, le_q0, fr_abs, sSize, sCommon, sBeyond, mZip, or_false, false_or, eRAd, eInT, eTupLd, eTupTr, tr_inj, ld_inj, rw_inj, eIxT0, eIxT1, eIxT2, eNeF, eEqF, eEqR, eRAtr, mEnum, eIxK0, eIxK1, eIxK2, fr_int]
    (repeat' (with_reducible apply And.intro)) <;> try (first | exact rfl | exact cmc (by decide) | exact btc (by decide) | exact den_gt0 _ | exact szc (by decide) | exact s2c (by decide) | exact btd (by decide) | exact btn (by decide) | exact b0n (by decide) | exact b2n (by decide) | exact b02n (by decide) | exact cm2n (by decide) | exact cmq (by decide) | exact cmd (by decide) | exact cmdd (by decide) | exact cmdn (by decide) | exact b_lit (by decide) (by decide) | exact fun h => absurd h.1 (by decide) | exact fun h => absurd h.2.1 (by decide) | exact fun h => absurd h.2.2 (by decide) | exact fun h => absurd h.2 (by decide) | exact fun h => absurd h (by decide) | exact hp | assumption | omega)
  apply mCut_at
  · simp only [mRet, mRetN, mRetL, mIfS, mSeq, mNx, mPass, mExpr, mAsg, gSet, mVar, mC, mOp, mUn, mTB, mNotT, mAndT, mOrT, mAnd, mOr, mNot, mIf, mCons, mNil, mTup, mLst, mCall, mCallK, mSl, mOSome, mONone, mPar, mPar3, eTupD, eConsD, eNilD, eAdd1, eAdd2, eAdd3, eSub, eMul1, eMul2, eFdiv, eMod, ePow, eNeg, eLt, eLe, eGt, eGe, eEq1, eEq2, eNe1, eNe2, eIx1, eIx2, eIx3, eIx4, eSl1, eSl2, eSl3, eLen1, eLen2, eLen3, eAbs, eIntC, eMax2, eMin2, eList1, eList2, eList3, eTuple1, eTuple2, eAll, eAny, eIsi, eGcd2, eGcd3, eLcm, eIsqrt, eDivmod, eOne, eTwo, eThree, eB, eInt, eSeq1, eSeq2, eSeq3, eRng1, eRng2, eIsN, eNotN, gWset, mSeqI, mRng1, mRng2, startS, wipeS, List.map_cons, List.map_nil, List.length_cons, List.length_nil, List.replicate, List.cons_append, List.nil_append, List.append_nil, List.set, List.getElem?_cons_zero, List.getElem?_cons_succ, Option.some.injEq, SV.val.injEq, SV.own.injEq, exists_eq_left', exists_eq_left, true_and, and_true, Nat.reduceAdd, Nat.reduceSub, Nat.zero_add, ite_cr, D.tup.injEq, D.int.injEq, D.bl.injEq, D.lst.injEq, D.str.injEq, List.cons.injEq, reduceCtorEq, if_true, if_false, ite_true, ite_false, Bool.not_true, Bool.not_false, Bool.false_eq_true, not_true, not_false, Bool.true_and, Bool.and_true, Bool.false_and, Bool.and_false, decide_eq_true_eq, ask_int, ask_bool, ask_tuple, ask_list, ask_str, isSub_tuple, isTup_tup, int2, int3, at0, at1, at2, at3, pow2, eFour, ePr, e3I, ePrF, e3K, eFr, eFrF, eTupF, eTupK, eIxF0, eIxF1, fr_inj, nd, nd0, nd1, nd2, nd3, oo, zo, lit0, lit1, div1, ip2, Bool.not_eq_true', decide_eq_false_iff_not, sRat, sPlus, sMinus, sTimes, and_assoc, exists_and_left, Nat.reduceLeDiff, Nat.reduceLT, Int.reduceLT, Int.reduceLE, Int.reduceMul, Int.reduceAdd, Int.reduceSub, Int.reduceNeg, Int.reduceToNat, ne_eq, decide_true, decide_false, eq_self, eIxD0, eIxD1, eTupD2, dsc_inj, eRAb, eRAt, eRAl, le_q0, fr_abs, sSize, sCommon, sBeyond, mZip, or_false, false_or, eRAd, eInT, eTupLd, eTupTr, tr_inj, ld_inj, rw_inj, eIxT0, eIxT1, eIxT2, eNeF, eEqF, eEqR, eRAtr, mEnum, eIxK0, eIxK1, eIxK2, fr_int]
    (repeat' (with_reducible apply And.intro)) <;> try (first | exact rfl | exact cmc (by decide) | exact btc (by decide) | exact den_gt0 _ | exact szc (by decide) | exact s2c (by decide) | exact btd (by decide) | exact btn (by decide) | exact b0n (by decide) | exact b2n (by decide) | exact b02n (by decide) | exact cm2n (by decide) | exact cmq (by decide) | exact cmd (by decide) | exact cmdd (by decide) | exact cmdn (by decide) | exact b_lit (by decide) (by decide) | exact fun h => absurd h.1 (by decide) | exact fun h => absurd h.2.1 (by decide) | exact fun h => absurd h.2.2 (by decide) | exact fun h => absurd h.2 (by decide) | exact fun h => absurd h (by decide) | exact hp | assumption | omega)
  have two : ∀ {a b : Nat} {q r : Rat} [SzP q a b] [SzP r a b], Rz a b [q, r] := fun {a b q r} [h1 : SzP q a b] [h2 : SzP r a b] s hs => by
    simp only [List.mem_cons, List.not_mem_nil, or_false] at hs
    rcases hs with rfl | rfl
    · exact h1.sz
    · exact h2.sz
  have in2 : ∀ {a b : Rat}, Sz2 69 42 a → Sz2 69 42 b → Rz 69 42 [a, b] := fun h1 h2 r hr => by
    simp only [List.mem_cons, List.not_mem_nil, or_false] at hr
    rcases hr with rfl | rfl
    · exact h1
    · exact h2
  have rx : Rz 69 42 [x1, x2] := in2 (s2c (by decide)) (s2c (by decide))
  have ry : Rz 69 42 [z1, y2] := in2 (s2c (by decide)) (s2c (by decide))
  have rtx : Rz 69 42 [p * x1 + -t * x2, t * x1 + p * x2] := in2 (s2c (by decide)) (s2c (by decide))
  have rty : Rz 69 42 [p * z1 + -t * y2, t * z1 + p * y2] := in2 (s2c (by decide)) (s2c (by decide))
  have m9 : ∀ {a b : Rat} {q : Rat}, Sz 900 a → Sz 900 b → q ∈ [a, b] → Sz 900 q := fun h1 h2 hr => by
    simp only [List.mem_cons, List.not_mem_nil, or_false] at hr
    rcases hr with rfl | rfl
    · exact h1
    · exact h2
  have eD : dotr (comb 1 (-1) [x1, x2] [z1, y2]) (comb 1 (-1) [x1, x2] [z1, y2]) = (x1 - z1) * (x1 - z1) + (x2 - y2) * (x2 - y2) := by
    unfold comb
    simp only [List.zipWith_cons_cons, List.zipWith_nil_right, dot2]
    grind
  have cz : Rz 120 90 (comb 1 (-1) [x1, x2] [z1, y2]) := (comb_sz rx ry).mono (by decide) (by decide)
  apply mCut_at
  · simp only [mRet, mRetN, mRetL, mIfS, mSeq, mNx, mPass, mExpr, mAsg, gSet, mVar, mC, mOp, mUn, mTB, mNotT, mAndT, mOrT, mAnd, mOr, mNot, mIf, mCons, mNil, mTup, mLst, mCall, mCallK, mSl, mOSome, mONone, mPar, mPar3, eTupD, eConsD, eNilD, eAdd1, eAdd2, eAdd3, eSub, eMul1, eMul2, eFdiv, eMod, ePow, eNeg, eLt, eLe, eGt, eGe, eEq1, eEq2, eNe1, eNe2, eIx1, eIx2, eIx3, eIx4, eSl1, eSl2, eSl3, eLen1, eLen2, eLen3, eAbs, eIntC, eMax2, eMin2, eList1, eList2, eList3, eTuple1, eTuple2, eAll, eAny, eIsi, eGcd2, eGcd3, eLcm, eIsqrt, eDivmod, eOne, eTwo, eThree, eB, eInt, eSeq1, eSeq2, eSeq3, eRng1, eRng2, eIsN, eNotN, gWset, mSeqI, mRng1, mRng2, startS, wipeS, List.map_cons, List.map_nil, List.length_cons, List.length_nil, List.replicate, List.cons_append, List.nil_append, List.append_nil, List.set, List.getElem?_cons_zero, List.getElem?_cons_succ, Option.some.injEq, SV.val.injEq, SV.own.injEq, exists_eq_left', exists_eq_left, true_and, and_true, Nat.reduceAdd, Nat.reduceSub, Nat.zero_add, ite_cr, D.tup.injEq, D.int.injEq, D.bl.injEq, D.lst.injEq, D.str.injEq, List.cons.injEq, reduceCtorEq, if_true, if_false, ite_true, ite_false, Bool.not_true, Bool.not_false, Bool.false_eq_true, not_true, not_false, Bool.true_and, Bool.and_true, Bool.false_and, Bool.and_false, decide_eq_true_eq, ask_int, ask_bool, ask_tuple, ask_list, ask_str, isSub_tuple, isTup_tup, int2, int3, at0, at1, at2, at3, pow2, eFour, ePr, e3I, ePrF, e3K, eFr, eFrF, eTupF, eTupK, eIxF0, eIxF1, fr_inj, nd, nd0, nd1, nd2, nd3, oo, zo, lit0, lit1, div1, ip2, Bool.not_eq_true', decide_eq_false_iff_not, sRat, sPlus, sMinus, sTimes, and_assoc, exists_and_left, Nat.reduceLeDiff, Nat.reduceLT, Int.reduceLT, Int.reduceLE, Int.reduceMul, Int.reduceAdd, Int.reduceSub, Int.reduceNeg, Int.reduceToNat, ne_eq, decide_true, decide_false, eq_self, eIxD0, eIxD1, eTupD2, dsc_inj, eRAb, eRAt, eRAl, le_q0, fr_abs, sSize, sCommon, sBeyond, mZip, or_false, false_or, eRAd, eInT, eTupLd, eTupTr, tr_inj, ld_inj, rw_inj, eIxT0, eIxT1, eIxT2, eNeF, eEqF, eEqR, eRAtr, mEnum, eIxK0, eIxK1, eIxK2, fr_m1]
    refine g3_mk ⟨[x1, x2], -1, [z1, y2], ⟨rfl, .inl rfl, rfl⟩, ⟨by simp, rfl⟩, fun r hr => m9 (szc (by decide)) (szc (by decide)) hr, fun r hr => m9 (szc (by decide)) (szc (by decide)) hr, szc (by decide), ?_⟩
    exact ⟨rfl, rfl⟩
  apply mCut_at
  · simp only [mRet, mRetN, mRetL, mIfS, mSeq, mNx, mPass, mExpr, mAsg, gSet, mVar, mC, mOp, mUn, mTB, mNotT, mAndT, mOrT, mAnd, mOr, mNot, mIf, mCons, mNil, mTup, mLst, mCall, mCallK, mSl, mOSome, mONone, mPar, mPar3, eTupD, eConsD, eNilD, eAdd1, eAdd2, eAdd3, eSub, eMul1, eMul2, eFdiv, eMod, ePow, eNeg, eLt, eLe, eGt, eGe, eEq1, eEq2, eNe1, eNe2, eIx1, eIx2, eIx3, eIx4, eSl1, eSl2, eSl3, eLen1, eLen2, eLen3, eAbs, eIntC, eMax2, eMin2, eList1, eList2, eList3, eTuple1, eTuple2, eAll, eAny, eIsi, eGcd2, eGcd3, eLcm, eIsqrt, eDivmod, eOne, eTwo, eThree, eB, eInt, eSeq1, eSeq2, eSeq3, eRng1, eRng2, eIsN, eNotN, gWset, mSeqI, mRng1, mRng2, startS, wipeS, List.map_cons, List.map_nil, List.length_cons, List.length_nil, List.replicate, List.cons_append, List.nil_append, List.append_nil, List.set, List.getElem?_cons_zero, List.getElem?_cons_succ, Option.some.injEq, SV.val.injEq, SV.own.injEq, exists_eq_left', exists_eq_left, true_and, and_true, Nat.reduceAdd, Nat.reduceSub, Nat.zero_add, ite_cr, D.tup.injEq, D.int.injEq, D.bl.injEq, D.lst.injEq, D.str.injEq, List.cons.injEq, reduceCtorEq, if_true, if_false, ite_true, ite_false, Bool.not_true, Bool.not_false, Bool.false_eq_true, not_true, not_false, Bool.true_and, Bool.and_true, Bool.false_and, Bool.and_false, decide_eq_true_eq, ask_int, ask_bool, ask_tuple, ask_list, ask_str, isSub_tuple, isTup_tup, int2, int3, at0, at1, at2, at3, pow2, eFour, ePr, e3I, ePrF, e3K, eFr, eFrF, eTupF, eTupK, eIxF0, eIxF1, fr_inj, nd, nd0, nd1, nd2, nd3, oo, zo, lit0, lit1, div1, ip2, Bool.not_eq_true', decide_eq_false_iff_not, sRat, sPlus, sMinus, sTimes, and_assoc, exists_and_left, Nat.reduceLeDiff, Nat.reduceLT, Int.reduceLT, Int.reduceLE, Int.reduceMul, Int.reduceAdd, Int.reduceSub, Int.reduceNeg, Int.reduceToNat, ne_eq, decide_true, decide_false, eq_self, eIxD0, eIxD1, eTupD2, dsc_inj, eRAb, eRAt, eRAl, le_q0, fr_abs, sSize, sCommon, sBeyond, mZip, or_false, false_or, eRAd, eInT, eTupLd, eTupTr, tr_inj, ld_inj, rw_inj, eIxT0, eIxT1, eIxT2, eNeF, eEqF, eEqR, eRAtr, mEnum, eIxK0, eIxK1, eIxK2]
    refine g2_mk ⟨_, _, 120, 90, ⟨rfl, rfl⟩, ⟨by decide, by decide⟩, ⟨Nat.le_of_ble_eq_true rfl, rfl⟩, ⟨cz, cz⟩, ?_⟩
    rw [eD]
    exact ⟨rfl, rfl⟩
  have tg := turned_gap (p := p) (t := t) (a := x1) (b := x2) (c := z1) (d := y2)
  have sw : Sz 250 ((x1 - z1) * (x1 - z1) + (x2 - y2) * (x2 - y2)) := szc (by decide)
  have sw1 : Sz 250 (((x1 - z1) * (x1 - z1) + (x2 - y2) * (x2 - y2)) * p) := szc (by decide)
  have sw2 : Sz 250 (((x1 - z1) * (x1 - z1) + (x2 - y2) * (x2 - y2)) * (p * p + t * t)) := szc (by decide)
  have sw0 : Sz 1000 (p * p + t * t) := szc (by decide)
  have sF : Sz 1000 ((x1 - z1) * (x1 - z1) + (x2 - y2) * (x2 - y2)) := szc (by decide)
  generalize (x1 - z1) * (x1 - z1) + (x2 - y2) * (x2 - y2) = w at *
  haveI : SzC w 250 := ⟨sw⟩
  apply mCut_at
  · simp only [mRet, mRetN, mRetL, mIfS, mSeq, mNx, mPass, mExpr, mAsg, gSet, mVar, mC, mOp, mUn, mTB, mNotT, mAndT, mOrT, mAnd, mOr, mNot, mIf, mCons, mNil, mTup, mLst, mCall, mCallK, mSl, mOSome, mONone, mPar, mPar3, eTupD, eConsD, eNilD, eAdd1, eAdd2, eAdd3, eSub, eMul1, eMul2, eFdiv, eMod, ePow, eNeg, eLt, eLe, eGt, eGe, eEq1, eEq2, eNe1, eNe2, eIx1, eIx2, eIx3, eIx4, eSl1, eSl2, eSl3, eLen1, eLen2, eLen3, eAbs, eIntC, eMax2, eMin2, eList1, eList2, eList3, eTuple1, eTuple2, eAll, eAny, eIsi, eGcd2, eGcd3, eLcm, eIsqrt, eDivmod, eOne, eTwo, eThree, eB, eInt, eSeq1, eSeq2, eSeq3, eRng1, eRng2, eIsN, eNotN, gWset, mSeqI, mRng1, mRng2, startS, wipeS, List.map_cons, List.map_nil, List.length_cons, List.length_nil, List.replicate, List.cons_append, List.nil_append, List.append_nil, List.set, List.getElem?_cons_zero, List.getElem?_cons_succ, Option.some.injEq, SV.val.injEq, SV.own.injEq, exists_eq_left', exists_eq_left, true_and, and_true, Nat.reduceAdd, Nat.reduceSub, Nat.zero_add, ite_cr, D.tup.injEq, D.int.injEq, D.bl.injEq, D.lst.injEq, D.str.injEq, List.cons.injEq, reduceCtorEq, if_true, if_false, ite_true, ite_false, Bool.not_true, Bool.not_false, Bool.false_eq_true, not_true, not_false, Bool.true_and, Bool.and_true, Bool.false_and, Bool.and_false, decide_eq_true_eq, ask_int, ask_bool, ask_tuple, ask_list, ask_str, isSub_tuple, isTup_tup, int2, int3, at0, at1, at2, at3, pow2, eFour, ePr, e3I, ePrF, e3K, eFr, eFrF, eTupF, eTupK, eIxF0, eIxF1, fr_inj, nd, nd0, nd1, nd2, nd3, oo, zo, lit0, lit1, div1, ip2, Bool.not_eq_true', decide_eq_false_iff_not, sRat, sPlus, sMinus, sTimes, and_assoc, exists_and_left, Nat.reduceLeDiff, Nat.reduceLT, Int.reduceLT, Int.reduceLE, Int.reduceMul, Int.reduceAdd, Int.reduceSub, Int.reduceNeg, Int.reduceToNat, ne_eq, decide_true, decide_false, eq_self, eIxD0, eIxD1, eTupD2, dsc_inj, eRAb, eRAt, eRAl, le_q0, fr_abs, sSize, sCommon, sBeyond, mZip, or_false, false_or, eRAd, eInT, eTupLd, eTupTr, tr_inj, ld_inj, rw_inj, eIxT0, eIxT1, eIxT2, eNeF, eEqF, eEqR, eRAtr, mEnum, eIxK0, eIxK1, eIxK2]
    refine ⟨szc (by decide), szc (by decide), szc (by decide), szc (by decide), ?_⟩
    exact ⟨rfl, rfl⟩
  have gO : ∀ {P : DJ.D → Cr} {n : Nat}, P (tr w (w * p) (w * (p * p + t * t))) n → sGapOf [rwD [x1, x2], rwD [p * x1 + -t * x2, t * x1 + p * x2], rwD [z1, y2], rwD [p * z1 + -t * y2, t * z1 + p * y2]] P n := fun h => g4s_do (x := [x1, x2]) (u := [p * x1 + -t * x2, t * x1 + p * x2]) (y := [z1, y2]) (v := [p * z1 + -t * y2, t * z1 + p * y2]) (a := 69) (b := 42) (by decide) (by decide) ⟨Nat.zero_lt_succ _, Nat.le_of_ble_eq_true rfl⟩ rfl rfl rfl rx rtx ry rty (fun hh => hne (by simpa using hh.1)) (by rw [tg]; exact h)
  apply mCut_at
  · simp only [mRet, mRetN, mRetL, mIfS, mSeq, mNx, mPass, mExpr, mAsg, gSet, mVar, mC, mOp, mUn, mTB, mNotT, mAndT, mOrT, mAnd, mOr, mNot, mIf, mCons, mNil, mTup, mLst, mCall, mCallK, mSl, mOSome, mONone, mPar, mPar3, eTupD, eConsD, eNilD, eAdd1, eAdd2, eAdd3, eSub, eMul1, eMul2, eFdiv, eMod, ePow, eNeg, eLt, eLe, eGt, eGe, eEq1, eEq2, eNe1, eNe2, eIx1, eIx2, eIx3, eIx4, eSl1, eSl2, eSl3, eLen1, eLen2, eLen3, eAbs, eIntC, eMax2, eMin2, eList1, eList2, eList3, eTuple1, eTuple2, eAll, eAny, eIsi, eGcd2, eGcd3, eLcm, eIsqrt, eDivmod, eOne, eTwo, eThree, eB, eInt, eSeq1, eSeq2, eSeq3, eRng1, eRng2, eIsN, eNotN, gWset, mSeqI, mRng1, mRng2, startS, wipeS, List.map_cons, List.map_nil, List.length_cons, List.length_nil, List.replicate, List.cons_append, List.nil_append, List.append_nil, List.set, List.getElem?_cons_zero, List.getElem?_cons_succ, Option.some.injEq, SV.val.injEq, SV.own.injEq, exists_eq_left', exists_eq_left, true_and, and_true, Nat.reduceAdd, Nat.reduceSub, Nat.zero_add, ite_cr, D.tup.injEq, D.int.injEq, D.bl.injEq, D.lst.injEq, D.str.injEq, List.cons.injEq, reduceCtorEq, if_true, if_false, ite_true, ite_false, Bool.not_true, Bool.not_false, Bool.false_eq_true, not_true, not_false, Bool.true_and, Bool.and_true, Bool.false_and, Bool.and_false, decide_eq_true_eq, ask_int, ask_bool, ask_tuple, ask_list, ask_str, isSub_tuple, isTup_tup, int2, int3, at0, at1, at2, at3, pow2, eFour, ePr, e3I, ePrF, e3K, eFr, eFrF, eTupF, eTupK, eIxF0, eIxF1, fr_inj, nd, nd0, nd1, nd2, nd3, oo, zo, lit0, lit1, div1, ip2, Bool.not_eq_true', decide_eq_false_iff_not, sRat, sPlus, sMinus, sTimes, and_assoc, exists_and_left, Nat.reduceLeDiff, Nat.reduceLT, Int.reduceLT, Int.reduceLE, Int.reduceMul, Int.reduceAdd, Int.reduceSub, Int.reduceNeg, Int.reduceToNat, ne_eq, decide_true, decide_false, eq_self, eIxD0, eIxD1, eTupD2, dsc_inj, eRAb, eRAt, eRAl, le_q0, fr_abs, sSize, sCommon, sBeyond, mZip, or_false, false_or, eRAd, eInT, eTupLd, eTupTr, tr_inj, ld_inj, rw_inj, eIxT0, eIxT1, eIxT2, eNeF, eEqF, eEqR, eRAtr, mEnum, eIxK0, eIxK1, eIxK2]
    refine g3_mk ⟨p, t, x1, x2, ⟨rfl, rfl, rfl⟩, ⟨sp, st, s2c (by decide), s2c (by decide)⟩, ?_⟩
    try simp only [mRet, mRetN, mRetL, mIfS, mSeq, mNx, mPass, mExpr, mAsg, gSet, mVar, mC, mOp, mUn, mTB, mNotT, mAndT, mOrT, mAnd, mOr, mNot, mIf, mCons, mNil, mTup, mLst, mCall, mCallK, mSl, mOSome, mONone, mPar, mPar3, eTupD, eConsD, eNilD, eAdd1, eAdd2, eAdd3, eSub, eMul1, eMul2, eFdiv, eMod, ePow, eNeg, eLt, eLe, eGt, eGe, eEq1, eEq2, eNe1, eNe2, eIx1, eIx2, eIx3, eIx4, eSl1, eSl2, eSl3, eLen1, eLen2, eLen3, eAbs, eIntC, eMax2, eMin2, eList1, eList2, eList3, eTuple1, eTuple2, eAll, eAny, eIsi, eGcd2, eGcd3, eLcm, eIsqrt, eDivmod, eOne, eTwo, eThree, eB, eInt, eSeq1, eSeq2, eSeq3, eRng1, eRng2, eIsN, eNotN, gWset, mSeqI, mRng1, mRng2, startS, wipeS, List.map_cons, List.map_nil, List.length_cons, List.length_nil, List.replicate, List.cons_append, List.nil_append, List.append_nil, List.set, List.getElem?_cons_zero, List.getElem?_cons_succ, Option.some.injEq, SV.val.injEq, SV.own.injEq, exists_eq_left', exists_eq_left, true_and, and_true, Nat.reduceAdd, Nat.reduceSub, Nat.zero_add, ite_cr, D.tup.injEq, D.int.injEq, D.bl.injEq, D.lst.injEq, D.str.injEq, List.cons.injEq, reduceCtorEq, if_true, if_false, ite_true, ite_false, Bool.not_true, Bool.not_false, Bool.false_eq_true, not_true, not_false, Bool.true_and, Bool.and_true, Bool.false_and, Bool.and_false, decide_eq_true_eq, ask_int, ask_bool, ask_tuple, ask_list, ask_str, isSub_tuple, isTup_tup, int2, int3, at0, at1, at2, at3, pow2, eFour, ePr, e3I, ePrF, e3K, eFr, eFrF, eTupF, eTupK, eIxF0, eIxF1, fr_inj, nd, nd0, nd1, nd2, nd3, oo, zo, lit0, lit1, div1, ip2, Bool.not_eq_true', decide_eq_false_iff_not, sRat, sPlus, sMinus, sTimes, and_assoc, exists_and_left, Nat.reduceLeDiff, Nat.reduceLT, Int.reduceLT, Int.reduceLE, Int.reduceMul, Int.reduceAdd, Int.reduceSub, Int.reduceNeg, Int.reduceToNat, ne_eq, decide_true, decide_false, eq_self, eIxD0, eIxD1, eTupD2, dsc_inj, eRAb, eRAt, eRAl, le_q0, fr_abs, sSize, sCommon, sBeyond, mZip, or_false, false_or, eRAd, eInT, eTupLd, eTupTr, tr_inj, ld_inj, rw_inj, eIxT0, eIxT1, eIxT2, eNeF, eEqF, eEqR, eRAtr, mEnum, eIxK0, eIxK1, eIxK2]
    refine g3_mk ⟨p, t, z1, y2, ⟨rfl, rfl, rfl⟩, ⟨sp, st, sz1, s2c (by decide)⟩, ?_⟩
    try simp only [mRet, mRetN, mRetL, mIfS, mSeq, mNx, mPass, mExpr, mAsg, gSet, mVar, mC, mOp, mUn, mTB, mNotT, mAndT, mOrT, mAnd, mOr, mNot, mIf, mCons, mNil, mTup, mLst, mCall, mCallK, mSl, mOSome, mONone, mPar, mPar3, eTupD, eConsD, eNilD, eAdd1, eAdd2, eAdd3, eSub, eMul1, eMul2, eFdiv, eMod, ePow, eNeg, eLt, eLe, eGt, eGe, eEq1, eEq2, eNe1, eNe2, eIx1, eIx2, eIx3, eIx4, eSl1, eSl2, eSl3, eLen1, eLen2, eLen3, eAbs, eIntC, eMax2, eMin2, eList1, eList2, eList3, eTuple1, eTuple2, eAll, eAny, eIsi, eGcd2, eGcd3, eLcm, eIsqrt, eDivmod, eOne, eTwo, eThree, eB, eInt, eSeq1, eSeq2, eSeq3, eRng1, eRng2, eIsN, eNotN, gWset, mSeqI, mRng1, mRng2, startS, wipeS, List.map_cons, List.map_nil, List.length_cons, List.length_nil, List.replicate, List.cons_append, List.nil_append, List.append_nil, List.set, List.getElem?_cons_zero, List.getElem?_cons_succ, Option.some.injEq, SV.val.injEq, SV.own.injEq, exists_eq_left', exists_eq_left, true_and, and_true, Nat.reduceAdd, Nat.reduceSub, Nat.zero_add, ite_cr, D.tup.injEq, D.int.injEq, D.bl.injEq, D.lst.injEq, D.str.injEq, List.cons.injEq, reduceCtorEq, if_true, if_false, ite_true, ite_false, Bool.not_true, Bool.not_false, Bool.false_eq_true, not_true, not_false, Bool.true_and, Bool.and_true, Bool.false_and, Bool.and_false, decide_eq_true_eq, ask_int, ask_bool, ask_tuple, ask_list, ask_str, isSub_tuple, isTup_tup, int2, int3, at0, at1, at2, at3, pow2, eFour, ePr, e3I, ePrF, e3K, eFr, eFrF, eTupF, eTupK, eIxF0, eIxF1, fr_inj, nd, nd0, nd1, nd2, nd3, oo, zo, lit0, lit1, div1, ip2, Bool.not_eq_true', decide_eq_false_iff_not, sRat, sPlus, sMinus, sTimes, and_assoc, exists_and_left, Nat.reduceLeDiff, Nat.reduceLT, Int.reduceLT, Int.reduceLE, Int.reduceMul, Int.reduceAdd, Int.reduceSub, Int.reduceNeg, Int.reduceToNat, ne_eq, decide_true, decide_false, eq_self, eIxD0, eIxD1, eTupD2, dsc_inj, eRAb, eRAt, eRAl, le_q0, fr_abs, sSize, sCommon, sBeyond, mZip, or_false, false_or, eRAd, eInT, eTupLd, eTupTr, tr_inj, ld_inj, rw_inj, eIxT0, eIxT1, eIxT2, eNeF, eEqF, eEqR, eRAtr, mEnum, eIxK0, eIxK1, eIxK2]
    refine gO ?_
    exact ⟨rfl, rfl⟩
  have pt := sq_nnq p
  have tt := sq_nnq t
  have gq : gapq w (w * p) (w * (p * p + t * t)) := by
    have c0 : 0 ≤ w * (p * p + t * t) := Rat.mul_nonneg (Rat.le_of_lt far0) (by grind)
    refine ⟨Rat.le_of_lt far0, c0, by grind, ?_⟩
    have := Rat.mul_nonneg (Rat.mul_nonneg (Rat.le_of_lt far0) (Rat.le_of_lt far0)) tt
    grind
  have gq1 : gapq 1 p (p * p + t * t) := ⟨by decide, by grind, by grind, by grind⟩
  have eN : ∀ q : Rat, q.num ≤ 0 ↔ q ≤ 0 := fun q => by rw [← Rat.not_lt, ← num_pos, Int.not_lt]
  have eF : decide (((A : Rat) * (p * p + t * t) + ((0 - 2 * B' : Int) : Rat) * p + C).num ≤ 0) = decide ((A : Rat) * (p * p + t * t) - 2 * B' * p + C * 1 ≤ 0) := by
    refine decide_eq_decide.mpr ?_
    rw [eN, eB2]
    rw [show (A : Rat) * (p * p + t * t) + -2 * B' * p + C = (A : Rat) * (p * p + t * t) - 2 * B' * p + C * 1 by grind]
  have eH : decide ((A : Rat) * (w * (p * p + t * t)) - 2 * B' * (w * p) + C * w ≤ 0) = decide ((A : Rat) * (p * p + t * t) - 2 * B' * p + C * 1 ≤ 0) := by
    refine decide_eq_decide.mpr ?_
    rw [show (A : Rat) * (w * (p * p + t * t)) - 2 * B' * (w * p) + C * w = w * ((A : Rat) * (p * p + t * t) - 2 * B' * p + C * 1) by grind, pos_scale far0]
  rw [eF]
  generalize hHD : decide ((A : Rat) * (p * p + t * t) - 2 * B' * p + C * 1 ≤ 0) = HD at *
  apply mCut_at
  · simp only [mRet, mRetN, mRetL, mIfS, mSeq, mNx, mPass, mExpr, mAsg, gSet, mVar, mC, mOp, mUn, mTB, mNotT, mAndT, mOrT, mAnd, mOr, mNot, mIf, mCons, mNil, mTup, mLst, mCall, mCallK, mSl, mOSome, mONone, mPar, mPar3, eTupD, eConsD, eNilD, eAdd1, eAdd2, eAdd3, eSub, eMul1, eMul2, eFdiv, eMod, ePow, eNeg, eLt, eLe, eGt, eGe, eEq1, eEq2, eNe1, eNe2, eIx1, eIx2, eIx3, eIx4, eSl1, eSl2, eSl3, eLen1, eLen2, eLen3, eAbs, eIntC, eMax2, eMin2, eList1, eList2, eList3, eTuple1, eTuple2, eAll, eAny, eIsi, eGcd2, eGcd3, eLcm, eIsqrt, eDivmod, eOne, eTwo, eThree, eB, eInt, eSeq1, eSeq2, eSeq3, eRng1, eRng2, eIsN, eNotN, gWset, mSeqI, mRng1, mRng2, startS, wipeS, List.map_cons, List.map_nil, List.length_cons, List.length_nil, List.replicate, List.cons_append, List.nil_append, List.append_nil, List.set, List.getElem?_cons_zero, List.getElem?_cons_succ, Option.some.injEq, SV.val.injEq, SV.own.injEq, exists_eq_left', exists_eq_left, true_and, and_true, Nat.reduceAdd, Nat.reduceSub, Nat.zero_add, ite_cr, D.tup.injEq, D.int.injEq, D.bl.injEq, D.lst.injEq, D.str.injEq, List.cons.injEq, reduceCtorEq, if_true, if_false, ite_true, ite_false, Bool.not_true, Bool.not_false, Bool.false_eq_true, not_true, not_false, Bool.true_and, Bool.and_true, Bool.false_and, Bool.and_false, decide_eq_true_eq, ask_int, ask_bool, ask_tuple, ask_list, ask_str, isSub_tuple, isTup_tup, int2, int3, at0, at1, at2, at3, pow2, eFour, ePr, e3I, ePrF, e3K, eFr, eFrF, eTupF, eTupK, eIxF0, eIxF1, fr_inj, nd, nd0, nd1, nd2, nd3, oo, zo, lit0, lit1, div1, ip2, Bool.not_eq_true', decide_eq_false_iff_not, sRat, sPlus, sMinus, sTimes, and_assoc, exists_and_left, Nat.reduceLeDiff, Nat.reduceLT, Int.reduceLT, Int.reduceLE, Int.reduceMul, Int.reduceAdd, Int.reduceSub, Int.reduceNeg, Int.reduceToNat, ne_eq, decide_true, decide_false, eq_self, eIxD0, eIxD1, eTupD2, dsc_inj, eRAb, eRAt, eRAl, le_q0, fr_abs, sSize, sCommon, sBeyond, mZip, or_false, false_or, eRAd, eInT, eTupLd, eTupTr, tr_inj, ld_inj, rw_inj, eIxT0, eIxT1, eIxT2, eNeF, eEqF, eEqR, eRAtr, mEnum, eIxK0, eIxK1, eIxK2, fr_o, kI_eta]
    refine g2_mk ⟨A, B', C, _, _, _, ⟨rfl, rfl⟩, hk.mono (by decide), ⟨sF, sw1.mono (by decide), sw2.mono (by decide)⟩, gq, ?_⟩
    rw [eH]
    try simp only [mRet, mRetN, mRetL, mIfS, mSeq, mNx, mPass, mExpr, mAsg, gSet, mVar, mC, mOp, mUn, mTB, mNotT, mAndT, mOrT, mAnd, mOr, mNot, mIf, mCons, mNil, mTup, mLst, mCall, mCallK, mSl, mOSome, mONone, mPar, mPar3, eTupD, eConsD, eNilD, eAdd1, eAdd2, eAdd3, eSub, eMul1, eMul2, eFdiv, eMod, ePow, eNeg, eLt, eLe, eGt, eGe, eEq1, eEq2, eNe1, eNe2, eIx1, eIx2, eIx3, eIx4, eSl1, eSl2, eSl3, eLen1, eLen2, eLen3, eAbs, eIntC, eMax2, eMin2, eList1, eList2, eList3, eTuple1, eTuple2, eAll, eAny, eIsi, eGcd2, eGcd3, eLcm, eIsqrt, eDivmod, eOne, eTwo, eThree, eB, eInt, eSeq1, eSeq2, eSeq3, eRng1, eRng2, eIsN, eNotN, gWset, mSeqI, mRng1, mRng2, startS, wipeS, List.map_cons, List.map_nil, List.length_cons, List.length_nil, List.replicate, List.cons_append, List.nil_append, List.append_nil, List.set, List.getElem?_cons_zero, List.getElem?_cons_succ, Option.some.injEq, SV.val.injEq, SV.own.injEq, exists_eq_left', exists_eq_left, true_and, and_true, Nat.reduceAdd, Nat.reduceSub, Nat.zero_add, ite_cr, D.tup.injEq, D.int.injEq, D.bl.injEq, D.lst.injEq, D.str.injEq, List.cons.injEq, reduceCtorEq, if_true, if_false, ite_true, ite_false, Bool.not_true, Bool.not_false, Bool.false_eq_true, not_true, not_false, Bool.true_and, Bool.and_true, Bool.false_and, Bool.and_false, decide_eq_true_eq, ask_int, ask_bool, ask_tuple, ask_list, ask_str, isSub_tuple, isTup_tup, int2, int3, at0, at1, at2, at3, pow2, eFour, ePr, e3I, ePrF, e3K, eFr, eFrF, eTupF, eTupK, eIxF0, eIxF1, fr_inj, nd, nd0, nd1, nd2, nd3, oo, zo, lit0, lit1, div1, ip2, Bool.not_eq_true', decide_eq_false_iff_not, sRat, sPlus, sMinus, sTimes, and_assoc, exists_and_left, Nat.reduceLeDiff, Nat.reduceLT, Int.reduceLT, Int.reduceLE, Int.reduceMul, Int.reduceAdd, Int.reduceSub, Int.reduceNeg, Int.reduceToNat, ne_eq, decide_true, decide_false, eq_self, eIxD0, eIxD1, eTupD2, dsc_inj, eRAb, eRAt, eRAl, le_q0, fr_abs, sSize, sCommon, sBeyond, mZip, or_false, false_or, eRAd, eInT, eTupLd, eTupTr, tr_inj, ld_inj, rw_inj, eIxT0, eIxT1, eIxT2, eNeF, eEqF, eEqR, eRAtr, mEnum, eIxK0, eIxK1, eIxK2, pick2b]
    refine g2_mk ⟨A, B', C, 1, p, p * p + t * t, ⟨rfl, rfl⟩, hk.mono (by decide), ⟨szc (by decide), szc (by decide), sw0⟩, gq1, ?_⟩
    rw [hHD]
    exact ⟨rfl, rfl⟩
  have tsh : (tr w (w * p) (w * (p * p + t * t))).shy = true := tr_shy sF (sw1.mono (by decide)) (sw2.mono (by decide))
  have rG : ∀ (P : DJ.D → Cr) (n : Nat), gReprA (tr w (w * p) (w * (p * p + t * t))) P n = P (.str (tr w (w * p) (w * (p * p + t * t))).py.shown) n := repr_eq tsh ⟨_, .inl rfl⟩ (Nat.le_of_ble_eq_true rfl) (Nat.le_of_ble_eq_true rfl)
  have eG : DJ.D.tup [fr w, fr (w * p), fr (w * (p * p + t * t))] = tr w (w * p) (w * (p * p + t * t)) := rfl
  apply mCut_at
  · simp only [mRet, mRetN, mRetL, mIfS, mSeq, mNx, mPass, mExpr, mAsg, gSet, mVar, mC, mOp, mUn, mTB, mNotT, mAndT, mOrT, mAnd, mOr, mNot, mIf, mCons, mNil, mTup, mLst, mCall, mCallK, mSl, mOSome, mONone, mPar, mPar3, eTupD, eConsD, eNilD, eAdd1, eAdd2, eAdd3, eSub, eMul1, eMul2, eFdiv, eMod, ePow, eNeg, eLt, eLe, eGt, eGe, eEq1, eEq2, eNe1, eNe2, eIx1, eIx2, eIx3, eIx4, eSl1, eSl2, eSl3, eLen1, eLen2, eLen3, eAbs, eIntC, eMax2, eMin2, eList1, eList2, eList3, eTuple1, eTuple2, eAll, eAny, eIsi, eGcd2, eGcd3, eLcm, eIsqrt, eDivmod, eOne, eTwo, eThree, eB, eInt, eSeq1, eSeq2, eSeq3, eRng1, eRng2, eIsN, eNotN, gWset, mSeqI, mRng1, mRng2, startS, wipeS, List.map_cons, List.map_nil, List.length_cons, List.length_nil, List.replicate, List.cons_append, List.nil_append, List.append_nil, List.set, List.getElem?_cons_zero, List.getElem?_cons_succ, Option.some.injEq, SV.val.injEq, SV.own.injEq, exists_eq_left', exists_eq_left, true_and, and_true, Nat.reduceAdd, Nat.reduceSub, Nat.zero_add, ite_cr, D.tup.injEq, D.int.injEq, D.bl.injEq, D.lst.injEq, D.str.injEq, List.cons.injEq, reduceCtorEq, if_true, if_false, ite_true, ite_false, Bool.not_true, Bool.not_false, Bool.false_eq_true, not_true, not_false, Bool.true_and, Bool.and_true, Bool.false_and, Bool.and_false, decide_eq_true_eq, ask_int, ask_bool, ask_tuple, ask_list, ask_str, isSub_tuple, isTup_tup, int2, int3, at0, at1, at2, at3, pow2, eFour, ePr, e3I, ePrF, e3K, eFr, eFrF, eTupF, eTupK, eIxF0, eIxF1, fr_inj, nd, nd0, nd1, nd2, nd3, oo, zo, lit0, lit1, div1, ip2, Bool.not_eq_true', decide_eq_false_iff_not, sRat, sPlus, sMinus, sTimes, and_assoc, exists_and_left, Nat.reduceLeDiff, Nat.reduceLT, Int.reduceLT, Int.reduceLE, Int.reduceMul, Int.reduceAdd, Int.reduceSub, Int.reduceNeg, Int.reduceToNat, ne_eq, decide_true, decide_false, eq_self, eIxD0, eIxD1, eTupD2, dsc_inj, eRAb, eRAt, eRAl, le_q0, fr_abs, sSize, sCommon, sBeyond, mZip, or_false, false_or, eRAd, eInT, eTupLd, eTupTr, tr_inj, ld_inj, rw_inj, eIxT0, eIxT1, eIxT2, eNeF, eEqF, eEqR, eRAtr, mEnum, eIxK0, eIxK1, eIxK2, eG, rG, rb2, List.flatten_cons, List.flatten_nil]
    exact ⟨rfl, rfl⟩
  have less : DJ.D.tup [.int (0 - t.num), .int ((t.den : Nat) : Int)] = fr (-t) := by rw [Int.zero_sub]; rfl
  apply mCut_at
  · simp only [mRet, mRetN, mRetL, mIfS, mSeq, mNx, mPass, mExpr, mAsg, gSet, mVar, mC, mOp, mUn, mTB, mNotT, mAndT, mOrT, mAnd, mOr, mNot, mIf, mCons, mNil, mTup, mLst, mCall, mCallK, mSl, mOSome, mONone, mPar, mPar3, eTupD, eConsD, eNilD, eAdd1, eAdd2, eAdd3, eSub, eMul1, eMul2, eFdiv, eMod, ePow, eNeg, eLt, eLe, eGt, eGe, eEq1, eEq2, eNe1, eNe2, eIx1, eIx2, eIx3, eIx4, eSl1, eSl2, eSl3, eLen1, eLen2, eLen3, eAbs, eIntC, eMax2, eMin2, eList1, eList2, eList3, eTuple1, eTuple2, eAll, eAny, eIsi, eGcd2, eGcd3, eLcm, eIsqrt, eDivmod, eOne, eTwo, eThree, eB, eInt, eSeq1, eSeq2, eSeq3, eRng1, eRng2, eIsN, eNotN, gWset, mSeqI, mRng1, mRng2, startS, wipeS, List.map_cons, List.map_nil, List.length_cons, List.length_nil, List.replicate, List.cons_append, List.nil_append, List.append_nil, List.set, List.getElem?_cons_zero, List.getElem?_cons_succ, Option.some.injEq, SV.val.injEq, SV.own.injEq, exists_eq_left', exists_eq_left, true_and, and_true, Nat.reduceAdd, Nat.reduceSub, Nat.zero_add, ite_cr, D.tup.injEq, D.int.injEq, D.bl.injEq, D.lst.injEq, D.str.injEq, List.cons.injEq, reduceCtorEq, if_true, if_false, ite_true, ite_false, Bool.not_true, Bool.not_false, Bool.false_eq_true, not_true, not_false, Bool.true_and, Bool.and_true, Bool.false_and, Bool.and_false, decide_eq_true_eq, ask_int, ask_bool, ask_tuple, ask_list, ask_str, isSub_tuple, isTup_tup, int2, int3, at0, at1, at2, at3, pow2, eFour, ePr, e3I, ePrF, e3K, eFr, eFrF, eTupF, eTupK, eIxF0, eIxF1, fr_inj, nd, nd0, nd1, nd2, nd3, oo, zo, lit0, lit1, div1, ip2, Bool.not_eq_true', decide_eq_false_iff_not, sRat, sPlus, sMinus, sTimes, and_assoc, exists_and_left, Nat.reduceLeDiff, Nat.reduceLT, Int.reduceLT, Int.reduceLE, Int.reduceMul, Int.reduceAdd, Int.reduceSub, Int.reduceNeg, Int.reduceToNat, ne_eq, decide_true, decide_false, eq_self, eIxD0, eIxD1, eTupD2, dsc_inj, eRAb, eRAt, eRAl, le_q0, fr_abs, sSize, sCommon, sBeyond, mZip, or_false, false_or, eRAd, eInT, eTupLd, eTupTr, tr_inj, ld_inj, rw_inj, eIxT0, eIxT1, eIxT2, eNeF, eEqF, eEqR, eRAtr, mEnum, eIxK0, eIxK1, eIxK2, less]
    exact ⟨rfl, rfl⟩
  apply mCut_at
  · simp only [mRet, mRetN, mRetL, mIfS, mSeq, mNx, mPass, mExpr, mAsg, gSet, mVar, mC, mOp, mUn, mTB, mNotT, mAndT, mOrT, mAnd, mOr, mNot, mIf, mCons, mNil, mTup, mLst, mCall, mCallK, mSl, mOSome, mONone, mPar, mPar3, eTupD, eConsD, eNilD, eAdd1, eAdd2, eAdd3, eSub, eMul1, eMul2, eFdiv, eMod, ePow, eNeg, eLt, eLe, eGt, eGe, eEq1, eEq2, eNe1, eNe2, eIx1, eIx2, eIx3, eIx4, eSl1, eSl2, eSl3, eLen1, eLen2, eLen3, eAbs, eIntC, eMax2, eMin2, eList1, eList2, eList3, eTuple1, eTuple2, eAll, eAny, eIsi, eGcd2, eGcd3, eLcm, eIsqrt, eDivmod, eOne, eTwo, eThree, eB, eInt, eSeq1, eSeq2, eSeq3, eRng1, eRng2, eIsN, eNotN, gWset, mSeqI, mRng1, mRng2, startS, wipeS, List.map_cons, List.map_nil, List.length_cons, List.length_nil, List.replicate, List.cons_append, List.nil_append, List.append_nil, List.set, List.getElem?_cons_zero, List.getElem?_cons_succ, Option.some.injEq, SV.val.injEq, SV.own.injEq, exists_eq_left', exists_eq_left, true_and, and_true, Nat.reduceAdd, Nat.reduceSub, Nat.zero_add, ite_cr, D.tup.injEq, D.int.injEq, D.bl.injEq, D.lst.injEq, D.str.injEq, List.cons.injEq, reduceCtorEq, if_true, if_false, ite_true, ite_false, Bool.not_true, Bool.not_false, Bool.false_eq_true, not_true, not_false, Bool.true_and, Bool.and_true, Bool.false_and, Bool.and_false, decide_eq_true_eq, ask_int, ask_bool, ask_tuple, ask_list, ask_str, isSub_tuple, isTup_tup, int2, int3, at0, at1, at2, at3, pow2, eFour, ePr, e3I, ePrF, e3K, eFr, eFrF, eTupF, eTupK, eIxF0, eIxF1, fr_inj, nd, nd0, nd1, nd2, nd3, oo, zo, lit0, lit1, div1, ip2, Bool.not_eq_true', decide_eq_false_iff_not, sRat, sPlus, sMinus, sTimes, and_assoc, exists_and_left, Nat.reduceLeDiff, Nat.reduceLT, Int.reduceLT, Int.reduceLE, Int.reduceMul, Int.reduceAdd, Int.reduceSub, Int.reduceNeg, Int.reduceToNat, ne_eq, decide_true, decide_false, eq_self, eIxD0, eIxD1, eTupD2, dsc_inj, eRAb, eRAt, eRAl, le_q0, fr_abs, sSize, sCommon, sBeyond, mZip, or_false, false_or, eRAd, eInT, eTupLd, eTupTr, tr_inj, ld_inj, rw_inj, eIxT0, eIxT1, eIxT2, eNeF, eEqF, eEqR, eRAtr, mEnum, eIxK0, eIxK1, eIxK2, ld_eta]
    exact ⟨rfl, rfl⟩
  have shL : ∀ {a : Rat}, Sz 1000 a → ∀ (P : DJ.D → Cr) (n : Nat), gReprA (ld p (-a) a p) P n = P (.str (ld p (-a) a p).py.shown) n := fun h => repr_eq (ld_shy (szc (by decide)) h.neg h (szc (by decide))) ⟨_, .inl rfl⟩ (Nat.le_of_ble_eq_true rfl) (Nat.le_of_ble_eq_true rfl)
  have r1 := shL (a := t) (szc (by decide))
  have r2 := shL (a := -t) (szc (by decide))
  rw [Rat.neg_neg] at r2
  apply mCut_at
  · simp only [mRet, mRetN, mRetL, mIfS, mSeq, mNx, mPass, mExpr, mAsg, gSet, mVar, mC, mOp, mUn, mTB, mNotT, mAndT, mOrT, mAnd, mOr, mNot, mIf, mCons, mNil, mTup, mLst, mCall, mCallK, mSl, mOSome, mONone, mPar, mPar3, eTupD, eConsD, eNilD, eAdd1, eAdd2, eAdd3, eSub, eMul1, eMul2, eFdiv, eMod, ePow, eNeg, eLt, eLe, eGt, eGe, eEq1, eEq2, eNe1, eNe2, eIx1, eIx2, eIx3, eIx4, eSl1, eSl2, eSl3, eLen1, eLen2, eLen3, eAbs, eIntC, eMax2, eMin2, eList1, eList2, eList3, eTuple1, eTuple2, eAll, eAny, eIsi, eGcd2, eGcd3, eLcm, eIsqrt, eDivmod, eOne, eTwo, eThree, eB, eInt, eSeq1, eSeq2, eSeq3, eRng1, eRng2, eIsN, eNotN, gWset, mSeqI, mRng1, mRng2, startS, wipeS, List.map_cons, List.map_nil, List.length_cons, List.length_nil, List.replicate, List.cons_append, List.nil_append, List.append_nil, List.set, List.getElem?_cons_zero, List.getElem?_cons_succ, Option.some.injEq, SV.val.injEq, SV.own.injEq, exists_eq_left', exists_eq_left, true_and, and_true, Nat.reduceAdd, Nat.reduceSub, Nat.zero_add, ite_cr, D.tup.injEq, D.int.injEq, D.bl.injEq, D.lst.injEq, D.str.injEq, List.cons.injEq, reduceCtorEq, if_true, if_false, ite_true, ite_false, Bool.not_true, Bool.not_false, Bool.false_eq_true, not_true, not_false, Bool.true_and, Bool.and_true, Bool.false_and, Bool.and_false, decide_eq_true_eq, ask_int, ask_bool, ask_tuple, ask_list, ask_str, isSub_tuple, isTup_tup, int2, int3, at0, at1, at2, at3, pow2, eFour, ePr, e3I, ePrF, e3K, eFr, eFrF, eTupF, eTupK, eIxF0, eIxF1, fr_inj, nd, nd0, nd1, nd2, nd3, oo, zo, lit0, lit1, div1, ip2, Bool.not_eq_true', decide_eq_false_iff_not, sRat, sPlus, sMinus, sTimes, and_assoc, exists_and_left, Nat.reduceLeDiff, Nat.reduceLT, Int.reduceLT, Int.reduceLE, Int.reduceMul, Int.reduceAdd, Int.reduceSub, Int.reduceNeg, Int.reduceToNat, ne_eq, decide_true, decide_false, eq_self, eIxD0, eIxD1, eTupD2, dsc_inj, eRAb, eRAt, eRAl, le_q0, fr_abs, sSize, sCommon, sBeyond, mZip, or_false, false_or, eRAd, eInT, eTupLd, eTupTr, tr_inj, ld_inj, rw_inj, eIxT0, eIxT1, eIxT2, eNeF, eEqF, eEqR, eRAtr, mEnum, eIxK0, eIxK1, eIxK2]
    refine g2_mk ⟨p, t, ⟨rfl, rfl⟩, ⟨szc (by decide), szc (by decide)⟩, ?_⟩
    try simp only [mRet, mRetN, mRetL, mIfS, mSeq, mNx, mPass, mExpr, mAsg, gSet, mVar, mC, mOp, mUn, mTB, mNotT, mAndT, mOrT, mAnd, mOr, mNot, mIf, mCons, mNil, mTup, mLst, mCall, mCallK, mSl, mOSome, mONone, mPar, mPar3, eTupD, eConsD, eNilD, eAdd1, eAdd2, eAdd3, eSub, eMul1, eMul2, eFdiv, eMod, ePow, eNeg, eLt, eLe, eGt, eGe, eEq1, eEq2, eNe1, eNe2, eIx1, eIx2, eIx3, eIx4, eSl1, eSl2, eSl3, eLen1, eLen2, eLen3, eAbs, eIntC, eMax2, eMin2, eList1, eList2, eList3, eTuple1, eTuple2, eAll, eAny, eIsi, eGcd2, eGcd3, eLcm, eIsqrt, eDivmod, eOne, eTwo, eThree, eB, eInt, eSeq1, eSeq2, eSeq3, eRng1, eRng2, eIsN, eNotN, gWset, mSeqI, mRng1, mRng2, startS, wipeS, List.map_cons, List.map_nil, List.length_cons, List.length_nil, List.replicate, List.cons_append, List.nil_append, List.append_nil, List.set, List.getElem?_cons_zero, List.getElem?_cons_succ, Option.some.injEq, SV.val.injEq, SV.own.injEq, exists_eq_left', exists_eq_left, true_and, and_true, Nat.reduceAdd, Nat.reduceSub, Nat.zero_add, ite_cr, D.tup.injEq, D.int.injEq, D.bl.injEq, D.lst.injEq, D.str.injEq, List.cons.injEq, reduceCtorEq, if_true, if_false, ite_true, ite_false, Bool.not_true, Bool.not_false, Bool.false_eq_true, not_true, not_false, Bool.true_and, Bool.and_true, Bool.false_and, Bool.and_false, decide_eq_true_eq, ask_int, ask_bool, ask_tuple, ask_list, ask_str, isSub_tuple, isTup_tup, int2, int3, at0, at1, at2, at3, pow2, eFour, ePr, e3I, ePrF, e3K, eFr, eFrF, eTupF, eTupK, eIxF0, eIxF1, fr_inj, nd, nd0, nd1, nd2, nd3, oo, zo, lit0, lit1, div1, ip2, Bool.not_eq_true', decide_eq_false_iff_not, sRat, sPlus, sMinus, sTimes, and_assoc, exists_and_left, Nat.reduceLeDiff, Nat.reduceLT, Int.reduceLT, Int.reduceLE, Int.reduceMul, Int.reduceAdd, Int.reduceSub, Int.reduceNeg, Int.reduceToNat, ne_eq, decide_true, decide_false, eq_self, eIxD0, eIxD1, eTupD2, dsc_inj, eRAb, eRAt, eRAl, le_q0, fr_abs, sSize, sCommon, sBeyond, mZip, or_false, false_or, eRAd, eInT, eTupLd, eTupTr, tr_inj, ld_inj, rw_inj, eIxT0, eIxT1, eIxT2, eNeF, eEqF, eEqR, eRAtr, mEnum, eIxK0, eIxK1, eIxK2, r1, pick2b]
    refine g2_mk ⟨p, -t, ⟨rfl, rfl⟩, ⟨szc (by decide), szc (by decide)⟩, ?_⟩
    rw [Rat.neg_neg]
    try simp only [mRet, mRetN, mRetL, mIfS, mSeq, mNx, mPass, mExpr, mAsg, gSet, mVar, mC, mOp, mUn, mTB, mNotT, mAndT, mOrT, mAnd, mOr, mNot, mIf, mCons, mNil, mTup, mLst, mCall, mCallK, mSl, mOSome, mONone, mPar, mPar3, eTupD, eConsD, eNilD, eAdd1, eAdd2, eAdd3, eSub, eMul1, eMul2, eFdiv, eMod, ePow, eNeg, eLt, eLe, eGt, eGe, eEq1, eEq2, eNe1, eNe2, eIx1, eIx2, eIx3, eIx4, eSl1, eSl2, eSl3, eLen1, eLen2, eLen3, eAbs, eIntC, eMax2, eMin2, eList1, eList2, eList3, eTuple1, eTuple2, eAll, eAny, eIsi, eGcd2, eGcd3, eLcm, eIsqrt, eDivmod, eOne, eTwo, eThree, eB, eInt, eSeq1, eSeq2, eSeq3, eRng1, eRng2, eIsN, eNotN, gWset, mSeqI, mRng1, mRng2, startS, wipeS, List.map_cons, List.map_nil, List.length_cons, List.length_nil, List.replicate, List.cons_append, List.nil_append, List.append_nil, List.set, List.getElem?_cons_zero, List.getElem?_cons_succ, Option.some.injEq, SV.val.injEq, SV.own.injEq, exists_eq_left', exists_eq_left, true_and, and_true, Nat.reduceAdd, Nat.reduceSub, Nat.zero_add, ite_cr, D.tup.injEq, D.int.injEq, D.bl.injEq, D.lst.injEq, D.str.injEq, List.cons.injEq, reduceCtorEq, if_true, if_false, ite_true, ite_false, Bool.not_true, Bool.not_false, Bool.false_eq_true, not_true, not_false, Bool.true_and, Bool.and_true, Bool.false_and, Bool.and_false, decide_eq_true_eq, ask_int, ask_bool, ask_tuple, ask_list, ask_str, isSub_tuple, isTup_tup, int2, int3, at0, at1, at2, at3, pow2, eFour, ePr, e3I, ePrF, e3K, eFr, eFrF, eTupF, eTupK, eIxF0, eIxF1, fr_inj, nd, nd0, nd1, nd2, nd3, oo, zo, lit0, lit1, div1, ip2, Bool.not_eq_true', decide_eq_false_iff_not, sRat, sPlus, sMinus, sTimes, and_assoc, exists_and_left, Nat.reduceLeDiff, Nat.reduceLT, Int.reduceLT, Int.reduceLE, Int.reduceMul, Int.reduceAdd, Int.reduceSub, Int.reduceNeg, Int.reduceToNat, ne_eq, decide_true, decide_false, eq_self, eIxD0, eIxD1, eTupD2, dsc_inj, eRAb, eRAt, eRAl, le_q0, fr_abs, sSize, sCommon, sBeyond, mZip, or_false, false_or, eRAd, eInT, eTupLd, eTupTr, tr_inj, ld_inj, rw_inj, eIxT0, eIxT1, eIxT2, eNeF, eEqF, eEqR, eRAtr, mEnum, eIxK0, eIxK1, eIxK2, r2]
    exact ⟨rfl, rfl⟩
  simp only [mRet, mRetN, mRetL, mIfS, mSeq, mNx, mPass, mExpr, mAsg, gSet, mVar, mC, mOp, mUn, mTB, mNotT, mAndT, mOrT, mAnd, mOr, mNot, mIf, mCons, mNil, mTup, mLst, mCall, mCallK, mSl, mOSome, mONone, mPar, mPar3, eTupD, eConsD, eNilD, eAdd1, eAdd2, eAdd3, eSub, eMul1, eMul2, eFdiv, eMod, ePow, eNeg, eLt, eLe, eGt, eGe, eEq1, eEq2, eNe1, eNe2, eIx1, eIx2, eIx3, eIx4, eSl1, eSl2, eSl3, eLen1, eLen2, eLen3, eAbs, eIntC, eMax2, eMin2, eList1, eList2, eList3, eTuple1, eTuple2, eAll, eAny, eIsi, eGcd2, eGcd3, eLcm, eIsqrt, eDivmod, eOne, eTwo, eThree, eB, eInt, eSeq1, eSeq2, eSeq3, eRng1, eRng2, eIsN, eNotN, gWset, mSeqI, mRng1, mRng2, startS, wipeS, List.map_cons, List.map_nil, List.length_cons, List.length_nil, List.replicate, List.cons_append, List.nil_append, List.append_nil, List.set, List.getElem?_cons_zero, List.getElem?_cons_succ, Option.some.injEq, SV.val.injEq, SV.own.injEq, exists_eq_left', exists_eq_left, true_and, and_true, Nat.reduceAdd, Nat.reduceSub, Nat.zero_add, ite_cr, D.tup.injEq, D.int.injEq, D.bl.injEq, D.lst.injEq, D.str.injEq, List.cons.injEq, reduceCtorEq, if_true, if_false, ite_true, ite_false, Bool.not_true, Bool.not_false, Bool.false_eq_true, not_true, not_false, Bool.true_and, Bool.and_true, Bool.false_and, Bool.and_false, decide_eq_true_eq, ask_int, ask_bool, ask_tuple, ask_list, ask_str, isSub_tuple, isTup_tup, int2, int3, at0, at1, at2, at3, pow2, eFour, ePr, e3I, ePrF, e3K, eFr, eFrF, eTupF, eTupK, eIxF0, eIxF1, fr_inj, nd, nd0, nd1, nd2, nd3, oo, zo, lit0, lit1, div1, ip2, Bool.not_eq_true', decide_eq_false_iff_not, sRat, sPlus, sMinus, sTimes, and_assoc, exists_and_left, Nat.reduceLeDiff, Nat.reduceLT, Int.reduceLT, Int.reduceLE, Int.reduceMul, Int.reduceAdd, Int.reduceSub, Int.reduceNeg, Int.reduceToNat, ne_eq, decide_true, decide_false, eq_self, eIxD0, eIxD1, eTupD2, dsc_inj, eRAb, eRAt, eRAl, le_q0, fr_abs, sSize, sCommon, sBeyond, mZip, or_false, false_or, eRAd, eInT, eTupLd, eTupTr, tr_inj, ld_inj, rw_inj, eIxT0, eIxT1, eIxT2, eNeF, eEqF, eEqR, eRAtr, mEnum, eIxK0, eIxK1, eIxK2]
  refine g1_mk ⟨w, p, t, rfl, ⟨sw, sw1, sw2⟩, far0, ?_⟩
  have hq : ld p (-(qabs t)) (qabs t) p = ld p (-t) t p ∨ ld p (-(qabs t)) (qabs t) p = ld p t (-t) p := by
    unfold qabs
    split
    · right; rw [Rat.neg_neg]
    · left; rfl
  unfold mLc
  rcases hq with e | e
  all_goals
    rw [e]
    simp only [mRet, mRetN, mRetL, mIfS, mSeq, mNx, mPass, mExpr, mAsg, gSet, mVar, mC, mOp, mUn, mTB, mNotT, mAndT, mOrT, mAnd, mOr, mNot, mIf, mCons, mNil, mTup, mLst, mCall, mCallK, mSl, mOSome, mONone, mPar, mPar3, eTupD, eConsD, eNilD, eAdd1, eAdd2, eAdd3, eSub, eMul1, eMul2, eFdiv, eMod, ePow, eNeg, eLt, eLe, eGt, eGe, eEq1, eEq2, eNe1, eNe2, eIx1, eIx2, eIx3, eIx4, eSl1, eSl2, eSl3, eLen1, eLen2, eLen3, eAbs, eIntC, eMax2, eMin2, eList1, eList2, eList3, eTuple1, eTuple2, eAll, eAny, eIsi, eGcd2, eGcd3, eLcm, eIsqrt, eDivmod, eOne, eTwo, eThree, eB, eInt, eSeq1, eSeq2, eSeq3, eRng1, eRng2, eIsN, eNotN, gWset, mSeqI, mRng1, mRng2, startS, wipeS, List.map_cons, List.map_nil, List.length_cons, List.length_nil, List.replicate, List.cons_append, List.nil_append, List.append_nil, List.set, List.getElem?_cons_zero, List.getElem?_cons_succ, Option.some.injEq, SV.val.injEq, SV.own.injEq, exists_eq_left', exists_eq_left, true_and, and_true, Nat.reduceAdd, Nat.reduceSub, Nat.zero_add, ite_cr, D.tup.injEq, D.int.injEq, D.bl.injEq, D.lst.injEq, D.str.injEq, List.cons.injEq, reduceCtorEq, if_true, if_false, ite_true, ite_false, Bool.not_true, Bool.not_false, Bool.false_eq_true, not_true, not_false, Bool.true_and, Bool.and_true, Bool.false_and, Bool.and_false, decide_eq_true_eq, ask_int, ask_bool, ask_tuple, ask_list, ask_str, isSub_tuple, isTup_tup, int2, int3, at0, at1, at2, at3, pow2, eFour, ePr, e3I, ePrF, e3K, eFr, eFrF, eTupF, eTupK, eIxF0, eIxF1, fr_inj, nd, nd0, nd1, nd2, nd3, oo, zo, lit0, lit1, div1, ip2, Bool.not_eq_true', decide_eq_false_iff_not, sRat, sPlus, sMinus, sTimes, and_assoc, exists_and_left, Nat.reduceLeDiff, Nat.reduceLT, Int.reduceLT, Int.reduceLE, Int.reduceMul, Int.reduceAdd, Int.reduceSub, Int.reduceNeg, Int.reduceToNat, ne_eq, decide_true, decide_false, eq_self, eIxD0, eIxD1, eTupD2, dsc_inj, eRAb, eRAt, eRAl, le_q0, fr_abs, sSize, sCommon, sBeyond, mZip, or_false, false_or, eRAd, eInT, eTupLd, eTupTr, tr_inj, ld_inj, rw_inj, eIxT0, eIxT1, eIxT2, eNeF, eEqF, eEqR, eRAtr, mEnum, eIxK0, eIxK1, eIxK2, r1, r2]
    refine mColl_map (ps := [ld p (-t) t p, ld p t (-t) p]) (g := fun d => d) (f := fun d => DJ.D.str d.py.shown) (fun d hd yes no c hy => ?_) ?_
    · unfold turnD
      simp only [List.mem_cons, List.not_mem_nil, or_false] at hd
      rcases hd with rfl | rfl
      · simp only [mRet, mRetN, mRetL, mIfS, mSeq, mNx, mPass, mExpr, mAsg, gSet, mVar, mC, mOp, mUn, mTB, mNotT, mAndT, mOrT, mAnd, mOr, mNot, mIf, mCons, mNil, mTup, mLst, mCall, mCallK, mSl, mOSome, mONone, mPar, mPar3, eTupD, eConsD, eNilD, eAdd1, eAdd2, eAdd3, eSub, eMul1, eMul2, eFdiv, eMod, ePow, eNeg, eLt, eLe, eGt, eGe, eEq1, eEq2, eNe1, eNe2, eIx1, eIx2, eIx3, eIx4, eSl1, eSl2, eSl3, eLen1, eLen2, eLen3, eAbs, eIntC, eMax2, eMin2, eList1, eList2, eList3, eTuple1, eTuple2, eAll, eAny, eIsi, eGcd2, eGcd3, eLcm, eIsqrt, eDivmod, eOne, eTwo, eThree, eB, eInt, eSeq1, eSeq2, eSeq3, eRng1, eRng2, eIsN, eNotN, gWset, mSeqI, mRng1, mRng2, startS, wipeS, List.map_cons, List.map_nil, List.length_cons, List.length_nil, List.replicate, List.cons_append, List.nil_append, List.append_nil, List.set, List.getElem?_cons_zero, List.getElem?_cons_succ, Option.some.injEq, SV.val.injEq, SV.own.injEq, exists_eq_left', exists_eq_left, true_and, and_true, Nat.reduceAdd, Nat.reduceSub, Nat.zero_add, ite_cr, D.tup.injEq, D.int.injEq, D.bl.injEq, D.lst.injEq, D.str.injEq, List.cons.injEq, reduceCtorEq, if_true, if_false, ite_true, ite_false, Bool.not_true, Bool.not_false, Bool.false_eq_true, not_true, not_false, Bool.true_and, Bool.and_true, Bool.false_and, Bool.and_false, decide_eq_true_eq, ask_int, ask_bool, ask_tuple, ask_list, ask_str, isSub_tuple, isTup_tup, int2, int3, at0, at1, at2, at3, pow2, eFour, ePr, e3I, ePrF, e3K, eFr, eFrF, eTupF, eTupK, eIxF0, eIxF1, fr_inj, nd, nd0, nd1, nd2, nd3, oo, zo, lit0, lit1, div1, ip2, Bool.not_eq_true', decide_eq_false_iff_not, sRat, sPlus, sMinus, sTimes, and_assoc, exists_and_left, Nat.reduceLeDiff, Nat.reduceLT, Int.reduceLT, Int.reduceLE, Int.reduceMul, Int.reduceAdd, Int.reduceSub, Int.reduceNeg, Int.reduceToNat, ne_eq, decide_true, decide_false, eq_self, eIxD0, eIxD1, eTupD2, dsc_inj, eRAb, eRAt, eRAl, le_q0, fr_abs, sSize, sCommon, sBeyond, mZip, or_false, false_or, eRAd, eInT, eTupLd, eTupTr, tr_inj, ld_inj, rw_inj, eIxT0, eIxT1, eIxT2, eNeF, eEqF, eEqR, eRAtr, mEnum, eIxK0, eIxK1, eIxK2, mYes, r1]
        exact hy
      · simp only [mRet, mRetN, mRetL, mIfS, mSeq, mNx, mPass, mExpr, mAsg, gSet, mVar, mC, mOp, mUn, mTB, mNotT, mAndT, mOrT, mAnd, mOr, mNot, mIf, mCons, mNil, mTup, mLst, mCall, mCallK, mSl, mOSome, mONone, mPar, mPar3, eTupD, eConsD, eNilD, eAdd1, eAdd2, eAdd3, eSub, eMul1, eMul2, eFdiv, eMod, ePow, eNeg, eLt, eLe, eGt, eGe, eEq1, eEq2, eNe1, eNe2, eIx1, eIx2, eIx3, eIx4, eSl1, eSl2, eSl3, eLen1, eLen2, eLen3, eAbs, eIntC, eMax2, eMin2, eList1, eList2, eList3, eTuple1, eTuple2, eAll, eAny, eIsi, eGcd2, eGcd3, eLcm, eIsqrt, eDivmod, eOne, eTwo, eThree, eB, eInt, eSeq1, eSeq2, eSeq3, eRng1, eRng2, eIsN, eNotN, gWset, mSeqI, mRng1, mRng2, startS, wipeS, List.map_cons, List.map_nil, List.length_cons, List.length_nil, List.replicate, List.cons_append, List.nil_append, List.append_nil, List.set, List.getElem?_cons_zero, List.getElem?_cons_succ, Option.some.injEq, SV.val.injEq, SV.own.injEq, exists_eq_left', exists_eq_left, true_and, and_true, Nat.reduceAdd, Nat.reduceSub, Nat.zero_add, ite_cr, D.tup.injEq, D.int.injEq, D.bl.injEq, D.lst.injEq, D.str.injEq, List.cons.injEq, reduceCtorEq, if_true, if_false, ite_true, ite_false, Bool.not_true, Bool.not_false, Bool.false_eq_true, not_true, not_false, Bool.true_and, Bool.and_true, Bool.false_and, Bool.and_false, decide_eq_true_eq, ask_int, ask_bool, ask_tuple, ask_list, ask_str, isSub_tuple, isTup_tup, int2, int3, at0, at1, at2, at3, pow2, eFour, ePr, e3I, ePrF, e3K, eFr, eFrF, eTupF, eTupK, eIxF0, eIxF1, fr_inj, nd, nd0, nd1, nd2, nd3, oo, zo, lit0, lit1, div1, ip2, Bool.not_eq_true', decide_eq_false_iff_not, sRat, sPlus, sMinus, sTimes, and_assoc, exists_and_left, Nat.reduceLeDiff, Nat.reduceLT, Int.reduceLT, Int.reduceLE, Int.reduceMul, Int.reduceAdd, Int.reduceSub, Int.reduceNeg, Int.reduceToNat, ne_eq, decide_true, decide_false, eq_self, eIxD0, eIxD1, eTupD2, dsc_inj, eRAb, eRAt, eRAl, le_q0, fr_abs, sSize, sCommon, sBeyond, mZip, or_false, false_or, eRAd, eInT, eTupLd, eTupTr, tr_inj, ld_inj, rw_inj, eIxT0, eIxT1, eIxT2, eNeF, eEqF, eEqR, eRAtr, mEnum, eIxK0, eIxK1, eIxK2, mYes, r2]
        exact hy
    · refine ⟨⟨rfl, rfl⟩, ?_⟩
      simp only [inD, eqD, List.map_cons, List.map_nil, List.any_cons, List.any_nil, BEq.rfl, beq_self_eq_true, Bool.true_or, Bool.or_true, Bool.false_eq_true, if_false]
      exact hp _ (by omega)
theorem ok__law_right {c : Addr} (B : Bn mg) (DF : Df K mg "_law_right" s__law_right c) (O__law_pairs_right : OkG P w K mg base ⟨K, Tb⟩ "_law_pairs_right" ["_law_well_here"] 6 (sYes3 100)) (O__law_turns_right : OkG P w K mg base ⟨K, Tb⟩ "_law_turns_right" ["_law_well_here"] 8 (sYes3 60)) : OkG P w K mg base ⟨K, Tb⟩ "_law_right" ["_law_well_here"] 9 sRight := by
  have sc : FnScope ["_law_well_here"] ["_law_well_here"] (defScope s__law_right) := ⟨rfl, rfl, rfl, by decide +kernel, rfl, by decide +kernel, by decide +kernel⟩
  refine ok_G (N := ["_law_well_here"]) DF (fun kV doc pm an cdv ct us hl => match us, hl with | [_], _ => rfl) sc (fun ds P n h => by obtain ⟨rfl, _⟩ := h; rfl) (fun A outer s H wl f hq hr => (jss_one (js_ret ((je_and (jcg O__law_pairs_right (hS__law_pairs_right) hq hr (ja_cons (je_var (pv 0)) ja_nil)) (je_one (jcg O__law_turns_right (hS__law_turns_right) hq hr (ja_cons (je_var (pv 0)) ja_nil)))))))) ?_
  intro ds Pd n hh
  obtain ⟨rfl, hn, hp⟩ := hh
  simp only [mRet, mRetN, mRetL, mIfS, mSeq, mNx, mPass, mExpr, mAsg, gSet, mVar, mC, mOp, mUn, mTB, mNotT, mAndT, mOrT, mAnd, mOr, mNot, mIf, mCons, mNil, mTup, mLst, mCall, mCallK, mSl, mOSome, mONone, mPar, mPar3, eTupD, eConsD, eNilD, eAdd1, eAdd2, eAdd3, eSub, eMul1, eMul2, eFdiv, eMod, ePow, eNeg, eLt, eLe, eGt, eGe, eEq1, eEq2, eNe1, eNe2, eIx1, eIx2, eIx3, eIx4, eSl1, eSl2, eSl3, eLen1, eLen2, eLen3, eAbs, eIntC, eMax2, eMin2, eList1, eList2, eList3, eTuple1, eTuple2, eAll, eAny, eIsi, eGcd2, eGcd3, eLcm, eIsqrt, eDivmod, eOne, eTwo, eThree, eB, eInt, eSeq1, eSeq2, eSeq3, eRng1, eRng2, eIsN, eNotN, gWset, mSeqI, mRng1, mRng2, startS, wipeS, List.map_cons, List.map_nil, List.length_cons, List.length_nil, List.replicate, List.cons_append, List.nil_append, List.append_nil, List.set, List.getElem?_cons_zero, List.getElem?_cons_succ, Option.some.injEq, SV.val.injEq, SV.own.injEq, exists_eq_left', exists_eq_left, true_and, and_true, Nat.reduceAdd, Nat.reduceSub, Nat.zero_add, ite_cr, D.tup.injEq, D.int.injEq, D.bl.injEq, D.lst.injEq, D.str.injEq, List.cons.injEq, reduceCtorEq, if_true, if_false, ite_true, ite_false, Bool.not_true, Bool.not_false, Bool.false_eq_true, not_true, not_false, Bool.true_and, Bool.and_true, Bool.false_and, Bool.and_false, decide_eq_true_eq, ask_int, ask_bool, ask_tuple, ask_list, ask_str, isSub_tuple, isTup_tup, int2, int3, at0, at1, at2, at3, pow2, eFour, ePr, e3I, ePrF, e3K, eFr, eFrF, eTupF, eTupK, eIxF0, eIxF1, fr_inj, nd, nd0, nd1, nd2, nd3, oo, zo, lit0, lit1, div1, ip2, Bool.not_eq_true', decide_eq_false_iff_not, sRat, sPlus, sMinus, sTimes, and_assoc, exists_and_left, Nat.reduceLeDiff, Nat.reduceLT, Int.reduceLT, Int.reduceLE, Int.reduceMul, Int.reduceAdd, Int.reduceSub, Int.reduceNeg, Int.reduceToNat, ne_eq, decide_true, decide_false, eq_self, eIxD0, eIxD1, eTupD2, dsc_inj, eRAb, eRAt, eRAl, le_q0, fr_abs, sSize, sCommon, sBeyond, mZip, or_false, false_or, eRAd, eInT, eTupLd, eTupTr, tr_inj, ld_inj, rw_inj, eIxT0, eIxT1, eIxT2, eNeF, eEqF, eEqR, eRAtr, mEnum, eIxK0, eIxK1, eIxK2, sYes3]
  exact ⟨by omega, fun c1 h1 => ⟨by omega, fun c2 h2 => hp _⟩⟩
theorem ok__law_well {c : Addr} (B : Bn mg) (DF : Df K mg "_law_well" s__law_well c) : OkW P w K mg base ⟨K, Tb⟩ "_law_well" ["_law_script", "_law_turn"] 1 sWell := by
  have sc : FnScope ["_law_script", "_law_turn", "_law_own", "_law_seed", "_law_cell"] ["_law_script", "_law_turn"] (defScope s__law_well) := ⟨rfl, rfl, rfl, by decide +kernel, rfl, by decide +kernel, by decide +kernel⟩
  refine ok_W (N := ["_law_script", "_law_turn", "_law_own", "_law_seed", "_law_cell"]) DF ⟨fun kV doc pm an cdv ct us hl => match us, hl with | [_, _], _ => rfl, fun kV doc pm an cdv ct p hp us hl => by simp only [kws, List.mem_cons, List.not_mem_nil, or_false] at hp; rcases hp with rfl | rfl <;> (match us, hl with | [_, _], _ => rfl)⟩ sc (fun ds P n h => by obtain ⟨_, _, rfl, _⟩ := h; rfl) (fun A outer s H E wl f hr => (jss_cons (js_set (i := 2) sc.nd rfl (by first | exact Or.inl rfl | exact Or.inr rfl) (je_if (jt_cmp d_lt (je_var (pv 1)) (je_callB (d_len rfl) rfl B.len Bt'.len (ja_cons (je_var (pv 0)) ja_nil)) (nomark _)) (je_callTy d_int rfl B.int Bt'.int (ja_cons (je_ix (d_ix rfl) (je_var (pv 0)) (je_var (pv 1)) (fun _ _ => rfl)) ja_nil)) (je_op (d_add rfl) (je_op d_mul (je_int) (je_var (pv 1))) (je_int)))) (jss_cons (js_set (i := 3) sc.nd rfl (by first | exact Or.inl rfl | exact Or.inr rfl) (je_op (d_add rfl) (je_int) (je_op d_mul (je_int) (je_var (pv 1))))) (jss_cut (js_for PassesOwn.never rfl (ji_seq rfl (je_slice rfl (je_var (pv 0)) jo_none (jo_some (je_int)))) (jg (i := 4) sc.nd) (jss_one (js_set (i := 3) sc.nd rfl (by first | exact Or.inl rfl | exact Or.inr rfl) (je_op d_mod (je_callTy d_int rfl B.int Bt'.int (ja_cons (je_op (d_add rfl) (je_op (d_add rfl) (je_op d_mul (je_var (pv 3)) (je_int)) (je_op d_mul (je_op d_mod (je_callTy d_int rfl B.int Bt'.int (ja_cons (je_var (pv 4)) ja_nil)) (je_int)) (je_int))) (je_int)) ja_nil)) (je_int))))) (jss_cons (js_set (i := 3) sc.nd rfl (by first | exact Or.inl rfl | exact Or.inr rfl) (je_op d_mod (je_callTy d_int rfl B.int Bt'.int (ja_cons (je_op (d_add rfl) (je_op (d_add rfl) (je_op d_mul (je_var (pv 3)) (je_int)) (je_op d_mul (je_op d_mod (je_callTy d_int rfl B.int Bt'.int (ja_cons (je_var (pv 2)) ja_nil)) (je_int)) (je_int))) (je_int)) ja_nil)) (je_int))) (jss_one (js_retL (ja_cons (je_if (jt_cmp d_ge (je_callB d_abs rfl B.abs Bt'.abs (ja_cons (je_var (pv 2)) ja_nil)) (je_op d_pow (je_int) (je_int)) (nomark _)) (je_callB d_abs rfl B.abs Bt'.abs (ja_cons (je_var (pv 2)) ja_nil)) (je_int)) (ja_cons (je_var (pv 3)) (ja_cons (je_int) ja_nil)))))))))) ?_
  intro ds Pd n h
  obtain ⟨ns, t, rfl, hl, t0, t1, hp⟩ := h
  unfold mCut mFor
  simp only [mRet, mRetN, mRetL, mIfS, mSeq, mNx, mPass, mExpr, mAsg, gSet, mVar, mC, mOp, mUn, mTB, mNotT, mAndT, mOrT, mAnd, mOr, mNot, mIf, mCons, mNil, mTup, mLst, mCall, mCallK, mSl, mOSome, mONone, mPar, mPar3, eTupD, eConsD, eNilD, eAdd1, eAdd2, eAdd3, eSub, eMul1, eMul2, eFdiv, eMod, ePow, eNeg, eLt, eLe, eGt, eGe, eEq1, eEq2, eNe1, eNe2, eIx1, eIx2, eIx3, eIx4, eSl1, eSl2, eSl3, eLen1, eLen2, eLen3, eAbs, eIntC, eMax2, eMin2, eList1, eList2, eList3, eTuple1, eTuple2, eAll, eAny, eIsi, eGcd2, eGcd3, eLcm, eIsqrt, eDivmod, eOne, eTwo, eThree, eB, eInt, eSeq1, eSeq2, eSeq3, eRng1, eRng2, eIsN, eNotN, gWset, mSeqI, mRng1, mRng2, startS, wipeS, List.map_cons, List.map_nil, List.length_cons, List.length_nil, List.replicate, List.cons_append, List.nil_append, List.append_nil, List.set, List.getElem?_cons_zero, List.getElem?_cons_succ, Option.some.injEq, SV.val.injEq, SV.own.injEq, exists_eq_left', exists_eq_left, true_and, and_true, Nat.reduceAdd, Nat.reduceSub, Nat.zero_add, ite_cr, D.tup.injEq, D.int.injEq, D.bl.injEq, D.lst.injEq, D.str.injEq, List.cons.injEq, reduceCtorEq, if_true, if_false, ite_true, ite_false, Bool.not_true, Bool.not_false, Bool.false_eq_true, not_true, not_false, Bool.true_and, Bool.and_true, Bool.false_and, Bool.and_false, decide_eq_true_eq, ask_int, ask_bool, ask_tuple, ask_list, ask_str, isSub_tuple, isTup_tup, int2, int3, at0, at1, at2, at3, pow2, List.length_map]
  split
  · rename_i ht
    obtain ⟨v, e⟩ := atI_ints t0 ht
    refine ⟨.int v, e, ?_⟩
    simp only [mRet, mRetN, mRetL, mIfS, mSeq, mNx, mPass, mExpr, mAsg, gSet, mVar, mC, mOp, mUn, mTB, mNotT, mAndT, mOrT, mAnd, mOr, mNot, mIf, mCons, mNil, mTup, mLst, mCall, mCallK, mSl, mOSome, mONone, mPar, mPar3, eTupD, eConsD, eNilD, eAdd1, eAdd2, eAdd3, eSub, eMul1, eMul2, eFdiv, eMod, ePow, eNeg, eLt, eLe, eGt, eGe, eEq1, eEq2, eNe1, eNe2, eIx1, eIx2, eIx3, eIx4, eSl1, eSl2, eSl3, eLen1, eLen2, eLen3, eAbs, eIntC, eMax2, eMin2, eList1, eList2, eList3, eTuple1, eTuple2, eAll, eAny, eIsi, eGcd2, eGcd3, eLcm, eIsqrt, eDivmod, eOne, eTwo, eThree, eB, eInt, eSeq1, eSeq2, eSeq3, eRng1, eRng2, eIsN, eNotN, gWset, mSeqI, mRng1, mRng2, startS, wipeS, List.map_cons, List.map_nil, List.length_cons, List.length_nil, List.replicate, List.cons_append, List.nil_append, List.append_nil, List.set, List.getElem?_cons_zero, List.getElem?_cons_succ, Option.some.injEq, SV.val.injEq, SV.own.injEq, exists_eq_left', exists_eq_left, true_and, and_true, Nat.reduceAdd, Nat.reduceSub, Nat.zero_add, ite_cr, D.tup.injEq, D.int.injEq, D.bl.injEq, D.lst.injEq, D.str.injEq, List.cons.injEq, reduceCtorEq, if_true, if_false, ite_true, ite_false, Bool.not_true, Bool.not_false, Bool.false_eq_true, not_true, not_false, Bool.true_and, Bool.and_true, Bool.false_and, Bool.and_false, decide_eq_true_eq, ask_int, ask_bool, ask_tuple, ask_list, ask_str, isSub_tuple, isTup_tup, int2, int3, at0, at1, at2, at3, pow2]
    refine ⟨cms (by omega) (by omega), ?_⟩
    refine ⟨fun l c => ∃ (v s : Int) (e : Option SV), l = [some (SV.val (.scr (ns.map .int))), some (SV.val (.int t)), some (SV.val (.int v)), some (SV.val (.int s)), e] ∧ 0 ≤ s ∧ s < 2147483629 ∧ c = n,
      ⟨fun i l c => ∃ (v s : Int) (e : Option SV), l = [some (SV.val (.scr (ns.map .int))), some (SV.val (.int t)), some (SV.val (.int v)), some (SV.val (.int s)), e] ∧ 0 ≤ s ∧ s < 2147483629 ∧ c = n,
      ⟨_, _, none, rfl, by omega, by omega, rfl⟩, ?_, fun _ _ h => h⟩, ?_⟩
    · rintro i d l' c' hd ⟨v, s, e, rfl, s0, s1, rfl⟩
      obtain ⟨x, rfl⟩ := cut_ints hd
      simp only [mRet, mRetN, mRetL, mIfS, mSeq, mNx, mPass, mExpr, mAsg, gSet, mVar, mC, mOp, mUn, mTB, mNotT, mAndT, mOrT, mAnd, mOr, mNot, mIf, mCons, mNil, mTup, mLst, mCall, mCallK, mSl, mOSome, mONone, mPar, mPar3, eTupD, eConsD, eNilD, eAdd1, eAdd2, eAdd3, eSub, eMul1, eMul2, eFdiv, eMod, ePow, eNeg, eLt, eLe, eGt, eGe, eEq1, eEq2, eNe1, eNe2, eIx1, eIx2, eIx3, eIx4, eSl1, eSl2, eSl3, eLen1, eLen2, eLen3, eAbs, eIntC, eMax2, eMin2, eList1, eList2, eList3, eTuple1, eTuple2, eAll, eAny, eIsi, eGcd2, eGcd3, eLcm, eIsqrt, eDivmod, eOne, eTwo, eThree, eB, eInt, eSeq1, eSeq2, eSeq3, eRng1, eRng2, eIsN, eNotN, gWset, mSeqI, mRng1, mRng2, startS, wipeS, List.map_cons, List.map_nil, List.length_cons, List.length_nil, List.replicate, List.cons_append, List.nil_append, List.append_nil, List.set, List.getElem?_cons_zero, List.getElem?_cons_succ, Option.some.injEq, SV.val.injEq, SV.own.injEq, exists_eq_left', exists_eq_left, true_and, and_true, Nat.reduceAdd, Nat.reduceSub, Nat.zero_add, ite_cr, D.tup.injEq, D.int.injEq, D.bl.injEq, D.lst.injEq, D.str.injEq, List.cons.injEq, reduceCtorEq, if_true, if_false, ite_true, ite_false, Bool.not_true, Bool.not_false, Bool.false_eq_true, not_true, not_false, Bool.true_and, Bool.and_true, Bool.false_and, Bool.and_false, decide_eq_true_eq, ask_int, ask_bool, ask_tuple, ask_list, ask_str, isSub_tuple, isTup_tup, int2, int3, at0, at1, at2, at3, pow2]
      have q1 := fm (a := x) (show (0 : Int) < 1000000007 by decide)
      have q2 := fm (a := s * 60013 + x.fmod 1000000007 * 30011 + 19) (show (0 : Int) < 2147483629 by decide)
      exact ⟨cms (by omega) (by omega), by decide, cms (by omega) (by omega), by decide, _, _, _, ⟨rfl, rfl, rfl⟩, q2.1, q2.2⟩
    · rintro l' c' ⟨v, s, e, rfl, s0, s1, rfl⟩
      simp only [mRet, mRetN, mRetL, mIfS, mSeq, mNx, mPass, mExpr, mAsg, gSet, mVar, mC, mOp, mUn, mTB, mNotT, mAndT, mOrT, mAnd, mOr, mNot, mIf, mCons, mNil, mTup, mLst, mCall, mCallK, mSl, mOSome, mONone, mPar, mPar3, eTupD, eConsD, eNilD, eAdd1, eAdd2, eAdd3, eSub, eMul1, eMul2, eFdiv, eMod, ePow, eNeg, eLt, eLe, eGt, eGe, eEq1, eEq2, eNe1, eNe2, eIx1, eIx2, eIx3, eIx4, eSl1, eSl2, eSl3, eLen1, eLen2, eLen3, eAbs, eIntC, eMax2, eMin2, eList1, eList2, eList3, eTuple1, eTuple2, eAll, eAny, eIsi, eGcd2, eGcd3, eLcm, eIsqrt, eDivmod, eOne, eTwo, eThree, eB, eInt, eSeq1, eSeq2, eSeq3, eRng1, eRng2, eIsN, eNotN, gWset, mSeqI, mRng1, mRng2, startS, wipeS, List.map_cons, List.map_nil, List.length_cons, List.length_nil, List.replicate, List.cons_append, List.nil_append, List.append_nil, List.set, List.getElem?_cons_zero, List.getElem?_cons_succ, Option.some.injEq, SV.val.injEq, SV.own.injEq, exists_eq_left', exists_eq_left, true_and, and_true, Nat.reduceAdd, Nat.reduceSub, Nat.zero_add, ite_cr, D.tup.injEq, D.int.injEq, D.bl.injEq, D.lst.injEq, D.str.injEq, List.cons.injEq, reduceCtorEq, if_true, if_false, ite_true, ite_false, Bool.not_true, Bool.not_false, Bool.false_eq_true, not_true, not_false, Bool.true_and, Bool.and_true, Bool.false_and, Bool.and_false, decide_eq_true_eq, ask_int, ask_bool, ask_tuple, ask_list, ask_str, isSub_tuple, isTup_tup, int2, int3, at0, at1, at2, at3, pow2]
      have q1 := fm (a := v) (show (0 : Int) < 2147483587 by decide)
      refine ⟨cms (by omega) (by omega), by decide, cms (by omega) (by omega), by decide, ?_⟩
      refine ⟨by decide, ?_⟩
      generalize (if v < 0 then -v else v) = u
      have q2 := fm (a := s * 127 + v.fmod 2147483587 * 51503 + 7) (show (0 : Int) < 2147483629 by decide)
      split <;> exact ⟨by decide, hp _ _ ⟨by omega, by omega⟩⟩
  · try simp only [mRet, mRetN, mRetL, mIfS, mSeq, mNx, mPass, mExpr, mAsg, gSet, mVar, mC, mOp, mUn, mTB, mNotT, mAndT, mOrT, mAnd, mOr, mNot, mIf, mCons, mNil, mTup, mLst, mCall, mCallK, mSl, mOSome, mONone, mPar, mPar3, eTupD, eConsD, eNilD, eAdd1, eAdd2, eAdd3, eSub, eMul1, eMul2, eFdiv, eMod, ePow, eNeg, eLt, eLe, eGt, eGe, eEq1, eEq2, eNe1, eNe2, eIx1, eIx2, eIx3, eIx4, eSl1, eSl2, eSl3, eLen1, eLen2, eLen3, eAbs, eIntC, eMax2, eMin2, eList1, eList2, eList3, eTuple1, eTuple2, eAll, eAny, eIsi, eGcd2, eGcd3, eLcm, eIsqrt, eDivmod, eOne, eTwo, eThree, eB, eInt, eSeq1, eSeq2, eSeq3, eRng1, eRng2, eIsN, eNotN, gWset, mSeqI, mRng1, mRng2, startS, wipeS, List.map_cons, List.map_nil, List.length_cons, List.length_nil, List.replicate, List.cons_append, List.nil_append, List.append_nil, List.set, List.getElem?_cons_zero, List.getElem?_cons_succ, Option.some.injEq, SV.val.injEq, SV.own.injEq, exists_eq_left', exists_eq_left, true_and, and_true, Nat.reduceAdd, Nat.reduceSub, Nat.zero_add, ite_cr, D.tup.injEq, D.int.injEq, D.bl.injEq, D.lst.injEq, D.str.injEq, List.cons.injEq, reduceCtorEq, if_true, if_false, ite_true, ite_false, Bool.not_true, Bool.not_false, Bool.false_eq_true, not_true, not_false, Bool.true_and, Bool.and_true, Bool.false_and, Bool.and_false, decide_eq_true_eq, ask_int, ask_bool, ask_tuple, ask_list, ask_str, isSub_tuple, isTup_tup, int2, int3, at0, at1, at2, at3, pow2]
    refine ⟨cms (by omega) (by omega), cms (by omega) (by omega), ?_⟩
    refine ⟨fun l c => ∃ (v s : Int) (e : Option SV), l = [some (SV.val (.scr (ns.map .int))), some (SV.val (.int t)), some (SV.val (.int v)), some (SV.val (.int s)), e] ∧ 0 ≤ s ∧ s < 2147483629 ∧ c = n,
      ⟨fun i l c => ∃ (v s : Int) (e : Option SV), l = [some (SV.val (.scr (ns.map .int))), some (SV.val (.int t)), some (SV.val (.int v)), some (SV.val (.int s)), e] ∧ 0 ≤ s ∧ s < 2147483629 ∧ c = n,
      ⟨_, _, none, rfl, by omega, by omega, rfl⟩, ?_, fun _ _ h => h⟩, ?_⟩
    · rintro i d l' c' hd ⟨v, s, e, rfl, s0, s1, rfl⟩
      obtain ⟨x, rfl⟩ := cut_ints hd
      simp only [mRet, mRetN, mRetL, mIfS, mSeq, mNx, mPass, mExpr, mAsg, gSet, mVar, mC, mOp, mUn, mTB, mNotT, mAndT, mOrT, mAnd, mOr, mNot, mIf, mCons, mNil, mTup, mLst, mCall, mCallK, mSl, mOSome, mONone, mPar, mPar3, eTupD, eConsD, eNilD, eAdd1, eAdd2, eAdd3, eSub, eMul1, eMul2, eFdiv, eMod, ePow, eNeg, eLt, eLe, eGt, eGe, eEq1, eEq2, eNe1, eNe2, eIx1, eIx2, eIx3, eIx4, eSl1, eSl2, eSl3, eLen1, eLen2, eLen3, eAbs, eIntC, eMax2, eMin2, eList1, eList2, eList3, eTuple1, eTuple2, eAll, eAny, eIsi, eGcd2, eGcd3, eLcm, eIsqrt, eDivmod, eOne, eTwo, eThree, eB, eInt, eSeq1, eSeq2, eSeq3, eRng1, eRng2, eIsN, eNotN, gWset, mSeqI, mRng1, mRng2, startS, wipeS, List.map_cons, List.map_nil, List.length_cons, List.length_nil, List.replicate, List.cons_append, List.nil_append, List.append_nil, List.set, List.getElem?_cons_zero, List.getElem?_cons_succ, Option.some.injEq, SV.val.injEq, SV.own.injEq, exists_eq_left', exists_eq_left, true_and, and_true, Nat.reduceAdd, Nat.reduceSub, Nat.zero_add, ite_cr, D.tup.injEq, D.int.injEq, D.bl.injEq, D.lst.injEq, D.str.injEq, List.cons.injEq, reduceCtorEq, if_true, if_false, ite_true, ite_false, Bool.not_true, Bool.not_false, Bool.false_eq_true, not_true, not_false, Bool.true_and, Bool.and_true, Bool.false_and, Bool.and_false, decide_eq_true_eq, ask_int, ask_bool, ask_tuple, ask_list, ask_str, isSub_tuple, isTup_tup, int2, int3, at0, at1, at2, at3, pow2]
      have q1 := fm (a := x) (show (0 : Int) < 1000000007 by decide)
      have q2 := fm (a := s * 60013 + x.fmod 1000000007 * 30011 + 19) (show (0 : Int) < 2147483629 by decide)
      exact ⟨cms (by omega) (by omega), by decide, cms (by omega) (by omega), by decide, _, _, _, ⟨rfl, rfl, rfl⟩, q2.1, q2.2⟩
    · rintro l' c' ⟨v, s, e, rfl, s0, s1, rfl⟩
      simp only [mRet, mRetN, mRetL, mIfS, mSeq, mNx, mPass, mExpr, mAsg, gSet, mVar, mC, mOp, mUn, mTB, mNotT, mAndT, mOrT, mAnd, mOr, mNot, mIf, mCons, mNil, mTup, mLst, mCall, mCallK, mSl, mOSome, mONone, mPar, mPar3, eTupD, eConsD, eNilD, eAdd1, eAdd2, eAdd3, eSub, eMul1, eMul2, eFdiv, eMod, ePow, eNeg, eLt, eLe, eGt, eGe, eEq1, eEq2, eNe1, eNe2, eIx1, eIx2, eIx3, eIx4, eSl1, eSl2, eSl3, eLen1, eLen2, eLen3, eAbs, eIntC, eMax2, eMin2, eList1, eList2, eList3, eTuple1, eTuple2, eAll, eAny, eIsi, eGcd2, eGcd3, eLcm, eIsqrt, eDivmod, eOne, eTwo, eThree, eB, eInt, eSeq1, eSeq2, eSeq3, eRng1, eRng2, eIsN, eNotN, gWset, mSeqI, mRng1, mRng2, startS, wipeS, List.map_cons, List.map_nil, List.length_cons, List.length_nil, List.replicate, List.cons_append, List.nil_append, List.append_nil, List.set, List.getElem?_cons_zero, List.getElem?_cons_succ, Option.some.injEq, SV.val.injEq, SV.own.injEq, exists_eq_left', exists_eq_left, true_and, and_true, Nat.reduceAdd, Nat.reduceSub, Nat.zero_add, ite_cr, D.tup.injEq, D.int.injEq, D.bl.injEq, D.lst.injEq, D.str.injEq, List.cons.injEq, reduceCtorEq, if_true, if_false, ite_true, ite_false, Bool.not_true, Bool.not_false, Bool.false_eq_true, not_true, not_false, Bool.true_and, Bool.and_true, Bool.false_and, Bool.and_false, decide_eq_true_eq, ask_int, ask_bool, ask_tuple, ask_list, ask_str, isSub_tuple, isTup_tup, int2, int3, at0, at1, at2, at3, pow2]
      have q1 := fm (a := v) (show (0 : Int) < 2147483587 by decide)
      refine ⟨cms (by omega) (by omega), by decide, cms (by omega) (by omega), by decide, ?_⟩
      refine ⟨by decide, ?_⟩
      generalize (if v < 0 then -v else v) = u
      have q2 := fm (a := s * 127 + v.fmod 2147483587 * 51503 + 7) (show (0 : Int) < 2147483629 by decide)
      split <;> exact ⟨by decide, hp _ _ ⟨by omega, by omega⟩⟩
theorem ok_law {f c : Addr} {oc : Value} {od : Option Addr} {kV doc pm : Value} {an : Option Addr} {ct : Value} {osl : Array (Option Value)} (lk : K.lookup f = some ⟨oc, od, .func (PySem.W.fnOf "law" "law" (defArgs s_law) (defBody s_law) (defScope s_law) .none kV doc pm an (.ref c) ct), osl⟩) (hcd : PySem.W.codeIn K (.ref c) "law" = true) (B : Bn mg)  (O__law_right : OkG P w K mg base ⟨K, Tb⟩ "_law_right" ["_law_well_here"] 9 sRight) (O__law_well : OkW P w K mg base ⟨K, Tb⟩ "_law_well" ["_law_script", "_law_turn"] 1 sWell) : FnG P w K mg base 10 f (PySem.W.fnOf "law" "law" (defArgs s_law) (defBody s_law) (defScope s_law) .none kV doc pm an (.ref c) ct) ["_law_script"] (spN ⟨K, Tb⟩ sLaw) := by
  have sc : FnScope ["_law_script", "_law_turn"] ["_law_script"] (defScope s_law) := ⟨rfl, rfl, rfl, by decide +kernel, rfl, by decide +kernel, by decide +kernel⟩
  refine ok_N (N := ["_law_script", "_law_turn"]) lk hcd sc (fun ds P n h => by obtain ⟨_, rfl, _⟩ := h; rfl) (fun A outer s H f hq hr => (jss_one (js_ret (je_callB (d_all rfl) rfl B.all Bt'.all (ja_cons (je_lc (own := [("_law_turn", 1)]) rfl sc.nd (ji_range1 rfl B.range (je_callB (d_max2 rfl) rfl B.max Bt'.max (ja_cons (je_int) (ja_cons (je_callB (d_min2 rfl) rfl B.min Bt'.min (ja_cons (je_callB (d_len rfl) rfl B.len Bt'.len (ja_cons (je_var (pv 0)) ja_nil)) (ja_cons (je_int) ja_nil))) ja_nil)))) (blkOk_by (by kernel_rfl)) (by decide) (fun _ _ _ _ _ => (jg (i := 1) sc.nd)) (fun _ _ _ _ _ => jts_nil) (fun _ _ _ _ _ => (jcwG O__law_well O__law_right hq hr (ja_cons (je_var (pv 0)) (ja_cons (je_var (pv 1)) ja_nil))))) ja_nil))))) ?_
  intro ds Pd n h
  obtain ⟨ns, rfl, hl, hp⟩ := h
  simp only [mRet, mRetN, mRetL, mIfS, mSeq, mNx, mPass, mExpr, mAsg, gSet, mVar, mC, mOp, mUn, mTB, mNotT, mAndT, mOrT, mAnd, mOr, mNot, mIf, mCons, mNil, mTup, mLst, mCall, mCallK, mSl, mOSome, mONone, mPar, mPar3, eTupD, eConsD, eNilD, eAdd1, eAdd2, eAdd3, eSub, eMul1, eMul2, eFdiv, eMod, ePow, eNeg, eLt, eLe, eGt, eGe, eEq1, eEq2, eNe1, eNe2, eIx1, eIx2, eIx3, eIx4, eSl1, eSl2, eSl3, eLen1, eLen2, eLen3, eAbs, eIntC, eMax2, eMin2, eList1, eList2, eList3, eTuple1, eTuple2, eAll, eAny, eIsi, eGcd2, eGcd3, eLcm, eIsqrt, eDivmod, eOne, eTwo, eThree, eB, eInt, eSeq1, eSeq2, eSeq3, eRng1, eRng2, eIsN, eNotN, gWset, mSeqI, mRng1, mRng2, startS, wipeS, List.map_cons, List.map_nil, List.length_cons, List.length_nil, List.replicate, List.cons_append, List.nil_append, List.append_nil, List.set, List.getElem?_cons_zero, List.getElem?_cons_succ, Option.some.injEq, SV.val.injEq, SV.own.injEq, exists_eq_left', exists_eq_left, true_and, and_true, Nat.reduceAdd, Nat.reduceSub, Nat.zero_add, ite_cr, D.tup.injEq, D.int.injEq, D.bl.injEq, D.lst.injEq, D.str.injEq, List.cons.injEq, reduceCtorEq, if_true, if_false, ite_true, ite_false, Bool.not_true, Bool.not_false, Bool.false_eq_true, not_true, not_false, Bool.true_and, Bool.and_true, Bool.false_and, Bool.and_false, decide_eq_true_eq, ask_int, ask_bool, ask_tuple, ask_list, ask_str, isSub_tuple, isTup_tup, int2, int3, at0, at1, at2, at3, pow2]
  unfold mLc
  simp only [mRet, mRetN, mRetL, mIfS, mSeq, mNx, mPass, mExpr, mAsg, gSet, mVar, mC, mOp, mUn, mTB, mNotT, mAndT, mOrT, mAnd, mOr, mNot, mIf, mCons, mNil, mTup, mLst, mCall, mCallK, mSl, mOSome, mONone, mPar, mPar3, eTupD, eConsD, eNilD, eAdd1, eAdd2, eAdd3, eSub, eMul1, eMul2, eFdiv, eMod, ePow, eNeg, eLt, eLe, eGt, eGe, eEq1, eEq2, eNe1, eNe2, eIx1, eIx2, eIx3, eIx4, eSl1, eSl2, eSl3, eLen1, eLen2, eLen3, eAbs, eIntC, eMax2, eMin2, eList1, eList2, eList3, eTuple1, eTuple2, eAll, eAny, eIsi, eGcd2, eGcd3, eLcm, eIsqrt, eDivmod, eOne, eTwo, eThree, eB, eInt, eSeq1, eSeq2, eSeq3, eRng1, eRng2, eIsN, eNotN, gWset, mSeqI, mRng1, mRng2, startS, wipeS, List.map_cons, List.map_nil, List.length_cons, List.length_nil, List.replicate, List.cons_append, List.nil_append, List.append_nil, List.set, List.getElem?_cons_zero, List.getElem?_cons_succ, Option.some.injEq, SV.val.injEq, SV.own.injEq, exists_eq_left', exists_eq_left, true_and, and_true, Nat.reduceAdd, Nat.reduceSub, Nat.zero_add, ite_cr, D.tup.injEq, D.int.injEq, D.bl.injEq, D.lst.injEq, D.str.injEq, List.cons.injEq, reduceCtorEq, if_true, if_false, ite_true, ite_false, Bool.not_true, Bool.not_false, Bool.false_eq_true, not_true, not_false, Bool.true_and, Bool.and_true, Bool.false_and, Bool.and_false, decide_eq_true_eq, ask_int, ask_bool, ask_tuple, ask_list, ask_str, isSub_tuple, isTup_tup, int2, int3, at0, at1, at2, at3, pow2]
  have hk : (2 : Int) ≤ max 2 (min (((ns.map DJ.D.int).length : Nat) : Int) 3) ∧ max 2 (min (((ns.map DJ.D.int).length : Nat) : Int) 3) ≤ 3 := by omega
  generalize max 2 (min (((ns.map DJ.D.int).length : Nat) : Int) 3) = q at hk ⊢
  refine ⟨by omega, by unfold rangeD; rw [List.length_map, List.length_range]; omega, ?_⟩
  unfold rangeD
  refine mColl_map (f := fun _ => .bl true) (fun i hi yes no c h => ?_) ?_
  · have hi := List.mem_range.mp hi
    unfold turnD mWell
    simp only [mRet, mRetN, mRetL, mIfS, mSeq, mNx, mPass, mExpr, mAsg, gSet, mVar, mC, mOp, mUn, mTB, mNotT, mAndT, mOrT, mAnd, mOr, mNot, mIf, mCons, mNil, mTup, mLst, mCall, mCallK, mSl, mOSome, mONone, mPar, mPar3, eTupD, eConsD, eNilD, eAdd1, eAdd2, eAdd3, eSub, eMul1, eMul2, eFdiv, eMod, ePow, eNeg, eLt, eLe, eGt, eGe, eEq1, eEq2, eNe1, eNe2, eIx1, eIx2, eIx3, eIx4, eSl1, eSl2, eSl3, eLen1, eLen2, eLen3, eAbs, eIntC, eMax2, eMin2, eList1, eList2, eList3, eTuple1, eTuple2, eAll, eAny, eIsi, eGcd2, eGcd3, eLcm, eIsqrt, eDivmod, eOne, eTwo, eThree, eB, eInt, eSeq1, eSeq2, eSeq3, eRng1, eRng2, eIsN, eNotN, gWset, mSeqI, mRng1, mRng2, startS, wipeS, List.map_cons, List.map_nil, List.length_cons, List.length_nil, List.replicate, List.cons_append, List.nil_append, List.append_nil, List.set, List.getElem?_cons_zero, List.getElem?_cons_succ, Option.some.injEq, SV.val.injEq, SV.own.injEq, exists_eq_left', exists_eq_left, true_and, and_true, Nat.reduceAdd, Nat.reduceSub, Nat.zero_add, ite_cr, D.tup.injEq, D.int.injEq, D.bl.injEq, D.lst.injEq, D.str.injEq, List.cons.injEq, reduceCtorEq, if_true, if_false, ite_true, ite_false, Bool.not_true, Bool.not_false, Bool.false_eq_true, not_true, not_false, Bool.true_and, Bool.and_true, Bool.false_and, Bool.and_false, decide_eq_true_eq, ask_int, ask_bool, ask_tuple, ask_list, ask_str, isSub_tuple, isTup_tup, int2, int3, at0, at1, at2, at3, pow2, mYes, sWell, sRight]
    exact ⟨ns, _, ⟨rfl, rfl⟩, hl, by omega, by omega, fun x y hy => ⟨_, _, _, ⟨rfl, rfl, rfl⟩, by decide, hy, by decide, fun _ => h⟩⟩
  · refine ⟨(List.range q.toNat).map fun _ => true, by rw [List.map_map]; rfl, ?_⟩
    have e : ((List.range q.toNat).map fun _ => true).all id = true := by
      rw [List.all_map, List.all_eq_true]; intro _ _; rfl
    rw [e]
    exact hp
end
def fr0 : List Str := ["isinstance", "int", "bool", "tuple", "list", "str", "dict", "len", "abs", "all", "any", "max", "min", "repr", "range", "divmod", "zip", "enumerate"]
def fn : List He.DefD := [dOf "_law_ratio" s__law_ratio, dOf "_law_plus" s__law_plus, dOf "_law_times" s__law_times, dOf "_law_joined" s__law_joined, dOf "_law_inner" s__law_inner, dOf "_law_gap_between" s__law_gap_between, dOf "_law_draw" s__law_draw, dOf "_law_fraction" s__law_fraction, dOf "_law_row" s__law_row, dOf "_law_scaled" s__law_scaled, dOf "is_whole" s_is_whole, dOf "is_fraction" s_is_fraction, dOf "check_row" s_check_row, dOf "ratio" s_ratio, dOf "minus" s_minus, dOf "row_minus" s_row_minus, dOf "plus" s_plus, dOf "times" s_times, dOf "dot" s_dot, dOf "gap_of" s_gap_of, dOf "are_fractions" s_are_fractions, dOf "is_inside" s_is_inside, dOf "whole_row" s_whole_row, dOf "common_bottom" s_common_bottom, dOf "whole_parts" s_whole_parts, dOf "is_gap" s_is_gap, dOf "_law_pairs_right" s__law_pairs_right, dOf "_law_lowest" s__law_lowest, dOf "_law_kind" s__law_kind, dOf "_law_turned" s__law_turned, dOf "excess" s_excess, dOf "is_kind" s_is_kind, dOf "check_kind" s_check_kind, dOf "check_gap" s_check_gap, dOf "form" s_form, dOf "holds" s_holds, dOf "opposite" s_opposite, dOf "made_turn" s_made_turn, dOf "turn_for" s_turn_for, dOf "check_fraction" s_check_fraction, dOf "turn_table" s_turn_table, dOf "_law_turns_right" s__law_turns_right, dOf "_law_right" s__law_right, dOf "_law_well" s__law_well, dOf "law" s_law]
def tf : List Str := ["are_fractions", "whole_row", "is_kind"]
def bl : List (Str × String) := [("gcd", "math.gcd"), ("isqrt", "math.isqrt"), ("lcm", "math.lcm")]
theorem in__law_ratio : dOf "_law_ratio" s__law_ratio ∈ fn := List.mem_of_getElem? (i := 0) rfl
theorem in__law_plus : dOf "_law_plus" s__law_plus ∈ fn := List.mem_of_getElem? (i := 1) rfl
theorem in__law_times : dOf "_law_times" s__law_times ∈ fn := List.mem_of_getElem? (i := 2) rfl
theorem in__law_joined : dOf "_law_joined" s__law_joined ∈ fn := List.mem_of_getElem? (i := 3) rfl
theorem in__law_inner : dOf "_law_inner" s__law_inner ∈ fn := List.mem_of_getElem? (i := 4) rfl
theorem in__law_gap_between : dOf "_law_gap_between" s__law_gap_between ∈ fn := List.mem_of_getElem? (i := 5) rfl
theorem in__law_draw : dOf "_law_draw" s__law_draw ∈ fn := List.mem_of_getElem? (i := 6) rfl
theorem in__law_fraction : dOf "_law_fraction" s__law_fraction ∈ fn := List.mem_of_getElem? (i := 7) rfl
theorem in__law_row : dOf "_law_row" s__law_row ∈ fn := List.mem_of_getElem? (i := 8) rfl
theorem in__law_scaled : dOf "_law_scaled" s__law_scaled ∈ fn := List.mem_of_getElem? (i := 9) rfl
theorem in_is_whole : dOf "is_whole" s_is_whole ∈ fn := List.mem_of_getElem? (i := 10) rfl
theorem in_is_fraction : dOf "is_fraction" s_is_fraction ∈ fn := List.mem_of_getElem? (i := 11) rfl
theorem in_check_row : dOf "check_row" s_check_row ∈ fn := List.mem_of_getElem? (i := 12) rfl
theorem in_ratio : dOf "ratio" s_ratio ∈ fn := List.mem_of_getElem? (i := 13) rfl
theorem in_minus : dOf "minus" s_minus ∈ fn := List.mem_of_getElem? (i := 14) rfl
theorem in_row_minus : dOf "row_minus" s_row_minus ∈ fn := List.mem_of_getElem? (i := 15) rfl
theorem in_plus : dOf "plus" s_plus ∈ fn := List.mem_of_getElem? (i := 16) rfl
theorem in_times : dOf "times" s_times ∈ fn := List.mem_of_getElem? (i := 17) rfl
theorem in_dot : dOf "dot" s_dot ∈ fn := List.mem_of_getElem? (i := 18) rfl
theorem in_gap_of : dOf "gap_of" s_gap_of ∈ fn := List.mem_of_getElem? (i := 19) rfl
theorem in_are_fractions : dOf "are_fractions" s_are_fractions ∈ fn := List.mem_of_getElem? (i := 20) rfl
theorem in_is_inside : dOf "is_inside" s_is_inside ∈ fn := List.mem_of_getElem? (i := 21) rfl
theorem in_whole_row : dOf "whole_row" s_whole_row ∈ fn := List.mem_of_getElem? (i := 22) rfl
theorem in_common_bottom : dOf "common_bottom" s_common_bottom ∈ fn := List.mem_of_getElem? (i := 23) rfl
theorem in_whole_parts : dOf "whole_parts" s_whole_parts ∈ fn := List.mem_of_getElem? (i := 24) rfl
theorem in_is_gap : dOf "is_gap" s_is_gap ∈ fn := List.mem_of_getElem? (i := 25) rfl
theorem in__law_pairs_right : dOf "_law_pairs_right" s__law_pairs_right ∈ fn := List.mem_of_getElem? (i := 26) rfl
theorem in__law_lowest : dOf "_law_lowest" s__law_lowest ∈ fn := List.mem_of_getElem? (i := 27) rfl
theorem in__law_kind : dOf "_law_kind" s__law_kind ∈ fn := List.mem_of_getElem? (i := 28) rfl
theorem in__law_turned : dOf "_law_turned" s__law_turned ∈ fn := List.mem_of_getElem? (i := 29) rfl
theorem in_excess : dOf "excess" s_excess ∈ fn := List.mem_of_getElem? (i := 30) rfl
theorem in_is_kind : dOf "is_kind" s_is_kind ∈ fn := List.mem_of_getElem? (i := 31) rfl
theorem in_check_kind : dOf "check_kind" s_check_kind ∈ fn := List.mem_of_getElem? (i := 32) rfl
theorem in_check_gap : dOf "check_gap" s_check_gap ∈ fn := List.mem_of_getElem? (i := 33) rfl
theorem in_form : dOf "form" s_form ∈ fn := List.mem_of_getElem? (i := 34) rfl
theorem in_holds : dOf "holds" s_holds ∈ fn := List.mem_of_getElem? (i := 35) rfl
theorem in_opposite : dOf "opposite" s_opposite ∈ fn := List.mem_of_getElem? (i := 36) rfl
theorem in_made_turn : dOf "made_turn" s_made_turn ∈ fn := List.mem_of_getElem? (i := 37) rfl
theorem in_turn_for : dOf "turn_for" s_turn_for ∈ fn := List.mem_of_getElem? (i := 38) rfl
theorem in_check_fraction : dOf "check_fraction" s_check_fraction ∈ fn := List.mem_of_getElem? (i := 39) rfl
theorem in_turn_table : dOf "turn_table" s_turn_table ∈ fn := List.mem_of_getElem? (i := 40) rfl
theorem in__law_turns_right : dOf "_law_turns_right" s__law_turns_right ∈ fn := List.mem_of_getElem? (i := 41) rfl
theorem in__law_right : dOf "_law_right" s__law_right ∈ fn := List.mem_of_getElem? (i := 42) rfl
theorem in__law_well : dOf "_law_well" s__law_well ∈ fn := List.mem_of_getElem? (i := 43) rfl
theorem in_law : dOf "law" s_law ∈ fn := List.mem_of_getElem? (i := 44) rfl
def cl : List (Str × D) := [("NIL", (fr 0)), ("ROW_LENGTHS", (.tup [(.int 1), (.int 2), (.int 3), (.int 4)]))]
theorem all_of {l : PySem.W.OpenLaw} {w : World} {K : PySem.W.Frag} {mg : Str → Option Value} {h : Heap} {fa : Addr} (Lf : Left K mg h fr0 fn tf bl) (hcl : cl.all (cstO K) = true) (hfa : mg "law" = some (.ref fa)) : LawG l w 10 63 "_law_script" mg fa h := by
  have B : Bn mg := ⟨Lf.free (List.mem_of_getElem? (i := 0) rfl), Lf.free (List.mem_of_getElem? (i := 1) rfl), Lf.free (List.mem_of_getElem? (i := 2) rfl), Lf.free (List.mem_of_getElem? (i := 3) rfl), Lf.free (List.mem_of_getElem? (i := 4) rfl), Lf.free (List.mem_of_getElem? (i := 5) rfl), Lf.free (List.mem_of_getElem? (i := 6) rfl), Lf.free (List.mem_of_getElem? (i := 7) rfl), Lf.free (List.mem_of_getElem? (i := 8) rfl), Lf.free (List.mem_of_getElem? (i := 9) rfl), Lf.free (List.mem_of_getElem? (i := 10) rfl), Lf.free (List.mem_of_getElem? (i := 11) rfl), Lf.free (List.mem_of_getElem? (i := 12) rfl), Lf.free (List.mem_of_getElem? (i := 13) rfl), Lf.free (List.mem_of_getElem? (i := 14) rfl), Lf.free (List.mem_of_getElem? (i := 15) rfl), Lf.free (List.mem_of_getElem? (i := 16) rfl), Lf.free (List.mem_of_getElem? (i := 17) rfl)⟩
  have m_gcd : mg "gcd" = some (.builtin "math.gcd") := Lf.blt (List.mem_of_getElem? (i := 0) rfl)
  have m_isqrt : mg "isqrt" = some (.builtin "math.isqrt") := Lf.blt (List.mem_of_getElem? (i := 1) rfl)
  have m_lcm : mg "lcm" = some (.builtin "math.lcm") := Lf.blt (List.mem_of_getElem? (i := 2) rfl)
  have c_NIL : Cst K mg "NIL" (fr 0) := cst_of Lf.inH Lf.ns hcl (List.mem_of_getElem? (i := 0) rfl)
  have c_ROW_LENGTHS : Cst K mg "ROW_LENGTHS" (.tup [(.int 1), (.int 2), (.int 3), (.int 4)]) := cst_of Lf.inH Lf.ns hcl (List.mem_of_getElem? (i := 1) rfl)
  obtain ⟨f, oc, od, kV, doc, pm, an, ct, osl, lk, hcd, kp, hm⟩ := (Lf.df in_law).ex
  rw [hm] at hfa
  cases hfa
  refine ⟨K, PySem.W.fnOf "law" "law" (defArgs s_law) (defBody s_law) (defScope s_law) .none kV doc pm an (.ref (He.codeOf K ("law", none))) ct, csOf K tf, sLaw, Lf.inH, Lf.empty ?_, Lf.out, Lf.head, fun s v => .of_eq rfl, fun ns hl _ => ⟨ns, rfl, hl, rfl⟩, fun base _ _ TBs => ?_⟩
  · intro x hx
    simp only [tf, List.mem_cons, List.not_mem_nil, or_false] at hx
    rcases hx with rfl | rfl | rfl
    · exact ⟨_, in_are_fractions⟩
    · exact ⟨_, in_whole_row⟩
    · exact ⟨_, in_is_kind⟩
  have c_are_fractions : He.cT K ("are_fractions", none) ∈ csOf K tf := List.mem_map.mpr ⟨"are_fractions", List.mem_of_getElem? (i := 0) rfl, rfl⟩
  have t_are_fractions : (He.cT K ("are_fractions", none)).2 ∈ (csOf K tf).map (·.2) := List.mem_map.mpr ⟨_, c_are_fractions, rfl⟩
  have c_whole_row : He.cT K ("whole_row", none) ∈ csOf K tf := List.mem_map.mpr ⟨"whole_row", List.mem_of_getElem? (i := 1) rfl, rfl⟩
  have t_whole_row : (He.cT K ("whole_row", none)).2 ∈ (csOf K tf).map (·.2) := List.mem_map.mpr ⟨_, c_whole_row, rfl⟩
  have c_is_kind : He.cT K ("is_kind", none) ∈ csOf K tf := List.mem_map.mpr ⟨"is_kind", List.mem_of_getElem? (i := 2) rfl, rfl⟩
  have t_is_kind : (He.cT K ("is_kind", none)).2 ∈ (csOf K tf).map (·.2) := List.mem_map.mpr ⟨_, c_is_kind, rfl⟩
  have O__law_ratio := ok__law_ratio (P := l.prog) (w := w) (base := base) (Tb := (csOf K tf).map (·.2)) B (Lf.df in__law_ratio)
  have O__law_plus := ok__law_plus (P := l.prog) (w := w) (base := base) (Tb := (csOf K tf).map (·.2)) B (Lf.df in__law_plus) O__law_ratio
  have O__law_times := ok__law_times (P := l.prog) (w := w) (base := base) (Tb := (csOf K tf).map (·.2)) B (Lf.df in__law_times) O__law_ratio
  have O__law_joined := ok__law_joined (P := l.prog) (w := w) (base := base) (Tb := (csOf K tf).map (·.2)) B (Lf.df in__law_joined) O__law_plus O__law_times
  have O__law_inner := ok__law_inner (P := l.prog) (w := w) (base := base) (Tb := (csOf K tf).map (·.2)) B (Lf.df in__law_inner) O__law_plus O__law_times
  have O__law_gap_between := ok__law_gap_between (P := l.prog) (w := w) (base := base) (Tb := (csOf K tf).map (·.2)) B (Lf.df in__law_gap_between) O__law_joined O__law_inner
  have O__law_draw := ok__law_draw (P := l.prog) (w := w) (base := base) (Tb := (csOf K tf).map (·.2)) B (Lf.df in__law_draw)
  have O__law_fraction := ok__law_fraction (P := l.prog) (w := w) (base := base) (Tb := (csOf K tf).map (·.2)) B (Lf.df in__law_fraction) O__law_draw O__law_ratio
  have O__law_row := ok__law_row (P := l.prog) (w := w) (base := base) (Tb := (csOf K tf).map (·.2)) B (Lf.df in__law_row) O__law_fraction
  have O__law_scaled := ok__law_scaled (P := l.prog) (w := w) (base := base) (Tb := (csOf K tf).map (·.2)) B (Lf.df in__law_scaled) O__law_times
  have O_is_whole := ok_is_whole (P := l.prog) (w := w) (base := base) (Tb := (csOf K tf).map (·.2)) B (Lf.df in_is_whole)
  have O_is_fraction := ok_is_fraction (P := l.prog) (w := w) (base := base) (Tb := (csOf K tf).map (·.2)) B (Lf.df in_is_fraction) m_gcd O_is_whole
  have O_check_row := ok_check_row (P := l.prog) (w := w) (base := base) (Tb := (csOf K tf).map (·.2)) B (Lf.df in_check_row) O_is_fraction
  have O_ratio := ok_ratio (P := l.prog) (w := w) (base := base) (Tb := (csOf K tf).map (·.2)) B (Lf.df in_ratio) m_gcd
  have O_minus := ok_minus (P := l.prog) (w := w) (base := base) (Tb := (csOf K tf).map (·.2)) B (Lf.df in_minus) O_ratio
  have O_row_minus := ok_row_minus (P := l.prog) (w := w) (base := base) (Tb := (csOf K tf).map (·.2)) B (Lf.df in_row_minus) O_minus
  have O_plus := ok_plus (P := l.prog) (w := w) (base := base) (Tb := (csOf K tf).map (·.2)) B (Lf.df in_plus) O_ratio
  have O_times := ok_times (P := l.prog) (w := w) (base := base) (Tb := (csOf K tf).map (·.2)) B (Lf.df in_times) O_ratio
  have O_dot := ok_dot (P := l.prog) (w := w) (base := base) (Tb := (csOf K tf).map (·.2)) B (Lf.df in_dot) c_NIL O_plus O_times
  have O_gap_of := ok_gap_of (P := l.prog) (w := w) (base := base) (Tb := (csOf K tf).map (·.2)) B (Lf.df in_gap_of) c_ROW_LENGTHS O_check_row O_row_minus O_dot
  have O_are_fractions := ok_are_fractions (P := l.prog) (w := w) (base := base) (Tb := (csOf K tf).map (·.2)) B (Lf.df in_are_fractions) t_are_fractions (TBs _ c_are_fractions) O_is_fraction
  have O_is_inside := ok_is_inside (P := l.prog) (w := w) (base := base) (Tb := (csOf K tf).map (·.2)) B (Lf.df in_is_inside)
  have O_whole_row := ok_whole_row (P := l.prog) (w := w) (base := base) (Tb := (csOf K tf).map (·.2)) B (Lf.df in_whole_row) t_whole_row (TBs _ c_whole_row)
  have O_common_bottom := ok_common_bottom (P := l.prog) (w := w) (base := base) (Tb := (csOf K tf).map (·.2)) B (Lf.df in_common_bottom) m_lcm
  have O_whole_parts := ok_whole_parts (P := l.prog) (w := w) (base := base) (Tb := (csOf K tf).map (·.2)) B (Lf.df in_whole_parts) O_whole_row O_common_bottom
  have O_is_gap := ok_is_gap (P := l.prog) (w := w) (base := base) (Tb := (csOf K tf).map (·.2)) B (Lf.df in_is_gap) O_are_fractions O_is_inside O_whole_parts
  have O__law_pairs_right := ok__law_pairs_right (P := l.prog) (w := w) (base := base) (Tb := (csOf K tf).map (·.2)) B (Lf.df in__law_pairs_right) O__law_gap_between O__law_draw O__law_row O__law_fraction O__law_scaled O_gap_of O__law_joined O__law_times O__law_plus O_is_gap
  have O__law_lowest := ok__law_lowest (P := l.prog) (w := w) (base := base) (Tb := (csOf K tf).map (·.2)) B (Lf.df in__law_lowest)
  have O__law_kind := ok__law_kind (P := l.prog) (w := w) (base := base) (Tb := (csOf K tf).map (·.2)) B (Lf.df in__law_kind) O__law_draw O__law_lowest
  have O__law_turned := ok__law_turned (P := l.prog) (w := w) (base := base) (Tb := (csOf K tf).map (·.2)) B (Lf.df in__law_turned) O__law_plus O__law_times
  have O_excess := ok_excess (P := l.prog) (w := w) (base := base) (Tb := (csOf K tf).map (·.2)) B (Lf.df in_excess)
  have O_is_kind := ok_is_kind (P := l.prog) (w := w) (base := base) (Tb := (csOf K tf).map (·.2)) B (Lf.df in_is_kind) m_gcd t_is_kind (TBs _ c_is_kind) O_excess O_is_whole
  have O_check_kind := ok_check_kind (P := l.prog) (w := w) (base := base) (Tb := (csOf K tf).map (·.2)) B (Lf.df in_check_kind) O_is_kind
  have O_check_gap := ok_check_gap (P := l.prog) (w := w) (base := base) (Tb := (csOf K tf).map (·.2)) B (Lf.df in_check_gap) O_is_gap
  have O_form := ok_form (P := l.prog) (w := w) (base := base) (Tb := (csOf K tf).map (·.2)) B (Lf.df in_form)
  have O_holds := ok_holds (P := l.prog) (w := w) (base := base) (Tb := (csOf K tf).map (·.2)) B (Lf.df in_holds) O_check_kind O_check_gap O_form O_whole_parts
  have O_opposite := ok_opposite (P := l.prog) (w := w) (base := base) (Tb := (csOf K tf).map (·.2)) B (Lf.df in_opposite)
  have O_made_turn := ok_made_turn (P := l.prog) (w := w) (base := base) (Tb := (csOf K tf).map (·.2)) B (Lf.df in_made_turn) O_opposite
  have O_turn_for := ok_turn_for (P := l.prog) (w := w) (base := base) (Tb := (csOf K tf).map (·.2)) B (Lf.df in_turn_for) m_isqrt O_check_gap O_whole_parts O_made_turn O_ratio
  have O_check_fraction := ok_check_fraction (P := l.prog) (w := w) (base := base) (Tb := (csOf K tf).map (·.2)) B (Lf.df in_check_fraction) O_is_fraction
  have O_turn_table := ok_turn_table (P := l.prog) (w := w) (base := base) (Tb := (csOf K tf).map (·.2)) B (Lf.df in_turn_table) O_check_fraction O_made_turn
  have O__law_turns_right := ok__law_turns_right (P := l.prog) (w := w) (base := base) (Tb := (csOf K tf).map (·.2)) B (Lf.df in__law_turns_right) O__law_plus O__law_joined O__law_inner O_gap_of O__law_fraction O__law_kind O__law_row O__law_times O__law_turned O_holds O_turn_for O_turn_table
  have O__law_right := ok__law_right (P := l.prog) (w := w) (base := base) (Tb := (csOf K tf).map (·.2)) B (Lf.df in__law_right) O__law_pairs_right O__law_turns_right
  have O__law_well := ok__law_well (P := l.prog) (w := w) (base := base) (Tb := (csOf K tf).map (·.2)) B (Lf.df in__law_well)
  exact ok_law lk hcd B O__law_right O__law_well
end KK
open PySem PySem.W PyProof.Rows
set_option maxRecDepth 100000 in
set_option maxHeartbeats 0 in
theorem PySem.Challenge.cw_bringnear_k03_whole_gaps_of_pairs_and_tu_holds : PySem.Challenge.rw_bringnear_k03_whole_gaps_of_pairs_and_tu.Holds := by
  w_on; o_law; k_head; (case hw => w_witness2)
  k_fill
  refine DJ.walk_G (l := PySem.Challenge.rw_bringnear_k03_whole_gaps_of_pairs_and_tu) (n := 63) (k := 10) (x := "_law_script") rfl (by decide) rfl ⟨rfl, by decide, by decide⟩ ?F
  case F =>
    intro w mg fa h Y G hmg fresh
    have KX := PySem.W.kIn_of Y
    refine KK.all_of ⟨?a, KX, G, ?b, ?c, fun y hy => fresh y ?d⟩ ?e hmg
    case a => unfold He.SaysD; kernel_rfl
    case b => kernel_rfl
    case e => kernel_rfl
    case c => kernel_rfl
    case d => exact List.all_eq_true.mp (show (KK.tf.all fun y => (recsOf _).any fun e => e.name == y) = true by kernel_rfl) y hy
#print axioms PySem.Challenge.cw_bringnear_k03_whole_gaps_of_pairs_and_tu_holds
